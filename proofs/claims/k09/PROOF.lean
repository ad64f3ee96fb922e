import PyProof.Rows.All
import Wide.All
import OpenK.AllK
import Wide.FinOn
import HandS.ForExc
import HandS.ForMost
import HandS.ExcInit
import HandS.ExcField
import HandS.ExcIs
import HandS.SortInts
import HandS.Conv
import HandS.Star
import HandS.Flow
import HandS.Wide
import HandS.IsInst
import HandS.OwnEq
import HandS.Walk
import HandS.Style
import HandS.TupAny
import HandS.Small
import HandS.IterVal
import HandS.SetBool
import HandS.Strs
import HandS.Text
import HandS.More
import HandS.Gcd
import HandS.ClsMeth
import HandS.Property
import HandS.Defaults
import HandS.CallSlots
import KE.GoesMore
import PyProof.EnumMake
import HandS.TryOnly
import PyProof.ListMulRight
import HandS.SetFor
import HandS.SortRule
import HandS.TupLe
import KE.DataMinMax
import KE.KOpsOwn
import HandS.Dict
import KE.SortData
import KE.DataCmp
import PySem.Challenge.RW_crossinglights_k09_stages_crowds
set_option Elab.async false
set_option linter.all false
set_option maxRecDepth 100000
set_option maxHeartbeats 4000000
/-! A layer by values over HandS: what an expression or a statement does is told by a plain function over trees of values. -/
namespace VI
open PySem L2

/-- a value as a tree -/
inductive T where
  | non | bl (b : Bool) | int (i : Int) | str (x : Str)
  | tup (xs : List T) | lst (xs : List T) | ins (c : Nat) (ks : List Nat) (ts : List T) | sq (xs : List T)
  | dct (kvs : List (List Int × Int)) | tf (xs : List T)
/-- an entry of a dict: a tuple of ints, an int -/
def encD (p : List Int × Int) : List Key × V := (p.1.map Sum.inl, .int p.2)

structure Wd where
  K : PySem.W.Frag
  ca : Nat → Addr
  nm : Nat → Str
  inj : ∀ i j, nm i = nm j → i = j

mutual
def Rep (D : Wd) (G : Hp) : T → V → Prop
  | .non, v => v = .non
  | .bl b, v => v = .bl b
  | .int i, v => v = .int i
  | .str x, v => v = .str x
  | .tup ts, v => ∃ a vs, v = .ref a ∧ SqT D.K G a vs ∧ Reps D G ts vs
  | .lst ts, v => ∃ a vs, v = .ref a ∧ G a = some (.lst vs) ∧ Reps D G ts vs
  | .sq ts, v => ∃ a vs, v = .ref a ∧ SqL D.K G a vs ∧ Reps D G ts vs
  | .ins c ks ts, v => ∃ a dx fs, v = .ref a ∧ G a = some (.ins (D.ca c) dx fs) ∧ fs.map (·.1) = ks.map D.nm ∧ Reps D G ts (fs.map (·.2))
  | .dct kvs, v => ∃ a, v = .ref a ∧ G a = some (.dT (kvs.map encD))
  | .tf ts, v => ∃ a vs o, v = .ref a ∧ G a = some (.frz o (.tup vs)) ∧ o.dict = none ∧ Reps D G ts vs
def Reps (D : Wd) (G : Hp) : List T → List V → Prop
  | [], vs => vs = []
  | t :: ts, vs => ∃ v r, vs = v :: r ∧ Rep D G t v ∧ Reps D G ts r
end
theorem same_rd {G G' : Hp} {a : Addr} {u : HO} (s : Same G G') (h : Rd G a u) : Rd G' a u := by
  rcases h with h | ⟨o, h⟩
  · exact .inl (s _ _ h)
  · exact .inr ⟨o, s _ _ h⟩
theorem same_l {K : PySem.W.Frag} {G G' : Hp} {a : Addr} {xs : List V} (s : Same G G') (h : SqL K G a xs) : SqL K G' a xs := h.imp (same_rd s) id
theorem same_t {K : PySem.W.Frag} {G G' : Hp} {a : Addr} {xs : List V} (s : Same G G') (h : SqT K G a xs) : SqT K G' a xs := h.imp (same_rd s) id

mutual
theorem Rep.mono {D : Wd} {G G' : Hp} (s : Same G G') : ∀ {t : T} {v : V}, Rep D G t v → Rep D G' t v
  | .non, _, h => h
  | .bl _, _, h => h
  | .int _, _, h => h
  | .str _, _, h => h
  | .tup _, _, ⟨a, vs, e, h, r⟩ => ⟨a, vs, e, same_t s h, Reps.mono s r⟩
  | .lst _, _, ⟨a, vs, e, h, r⟩ => ⟨a, vs, e, s _ _ h, Reps.mono s r⟩
  | .sq _, _, ⟨a, vs, e, h, r⟩ => ⟨a, vs, e, same_l s h, Reps.mono s r⟩
  | .ins _ _ _, _, ⟨a, dx, fs, e, h, k, r⟩ => ⟨a, dx, fs, e, s _ _ h, k, Reps.mono s r⟩
  | .dct _, _, ⟨a, e, h⟩ => ⟨a, e, s _ _ h⟩
  | .tf _, _, ⟨a, vs, o, e, h, d, r⟩ => ⟨a, vs, o, e, s _ _ h, d, Reps.mono s r⟩
theorem Reps.mono {D : Wd} {G G' : Hp} (s : Same G G') : ∀ {ts : List T} {vs : List V}, Reps D G ts vs → Reps D G' ts vs
  | [], _, h => h
  | _ :: _, _, ⟨v, r, e, h, q⟩ => ⟨v, r, e, Rep.mono s h, Reps.mono s q⟩
end

section
variable {D : Wd} {G : Hp}
theorem Reps.len : ∀ {ts : List T} {vs : List V}, Reps D G ts vs → vs.length = ts.length
  | [], _, h => by cases h; rfl
  | _ :: ts, _, ⟨v, r, e, _, q⟩ => by subst e; simp [Reps.len q]
theorem Reps.get : ∀ {ts : List T} {vs : List V} {i : Nat} {t : T}, Reps D G ts vs → ts[i]? = some t → ∃ v, vs[i]? = some v ∧ Rep D G t v
  | [], _, _, _, _, h => by simp at h
  | _ :: _, _, 0, _, ⟨v, r, e, h, _⟩, q => by subst e; simp at q; subst q; exact ⟨v, rfl, h⟩
  | _ :: ts, _, i + 1, _, ⟨v, r, e, _, h⟩, q => by
    subst e
    obtain ⟨w, h1, h2⟩ := Reps.get (i := i) h (by simpa using q)
    exact ⟨w, by simpa using h1, h2⟩
theorem Reps.get' {ts : List T} {vs : List V} {i : Nat} {v : V} (h : Reps D G ts vs) (q : vs[i]? = some v) : ∃ t, ts[i]? = some t ∧ Rep D G t v := by
  have hl := h.len
  have hi : i < ts.length := by rw [← hl]; exact (List.getElem?_eq_some_iff.mp q).1
  obtain ⟨w, h1, h2⟩ := h.get (List.getElem?_eq_getElem hi)
  rw [q] at h1; cases h1
  exact ⟨_, List.getElem?_eq_getElem hi, h2⟩
theorem Reps.nil : Reps D G [] [] := rfl
theorem Reps.cons {t : T} {v : V} {ts : List T} {vs : List V} (h : Rep D G t v) (r : Reps D G ts vs) : Reps D G (t :: ts) (v :: vs) := ⟨v, vs, rfl, h, r⟩
theorem Reps.append : ∀ {ts us : List T} {vs ws : List V}, Reps D G ts vs → Reps D G us ws → Reps D G (ts ++ us) (vs ++ ws)
  | [], _, _, _, h, q => by cases h; exact q
  | _ :: ts, _, _, _, ⟨v, r, e, h, h'⟩, q => by subst e; exact ⟨v, _, rfl, h, Reps.append h' q⟩
theorem Reps.snoc {t : T} {v : V} {ts : List T} {vs : List V} (r : Reps D G ts vs) (h : Rep D G t v) : Reps D G (ts ++ [t]) (vs ++ [v]) := r.append (.cons h .nil)
theorem Reps.set {t : T} {v : V} (h : Rep D G t v) : ∀ {ts : List T} {vs : List V} (i : Nat), Reps D G ts vs → Reps D G (ts.set i t) (vs.set i v)
  | [], _, _, q => by cases q; exact rfl
  | _ :: _, _, 0, ⟨w, r, e, _, q⟩ => by subst e; exact ⟨v, r, rfl, h, q⟩
  | _ :: _, _, i + 1, ⟨w, r, e, h', q⟩ => by subst e; exact ⟨w, _, rfl, h', Reps.set h i q⟩
theorem Reps.drop : ∀ {ts : List T} {vs : List V} (n : Nat), Reps D G ts vs → Reps D G (ts.drop n) (vs.drop n)
  | _, _, 0, h => h
  | [], _, _ + 1, h => by cases h; exact rfl
  | _ :: _, _, n + 1, ⟨_, _, e, _, q⟩ => by subst e; exact Reps.drop n q
theorem Reps.take : ∀ {ts : List T} {vs : List V} (n : Nat), Reps D G ts vs → Reps D G (ts.take n) (vs.take n)
  | _, _, 0, _ => rfl
  | [], _, _ + 1, h => by cases h; exact rfl
  | _ :: _, _, n + 1, ⟨v, r, e, h, q⟩ => by subst e; exact ⟨v, _, rfl, h, Reps.take n q⟩
theorem Reps.reverse {ts : List T} {vs : List V} (h : Reps D G ts vs) : Reps D G ts.reverse vs.reverse := by
  induction ts generalizing vs with
  | nil => cases h; exact rfl
  | cons t ts ih =>
    obtain ⟨v, r, e, h1, h2⟩ := h
    subst e
    rw [List.reverse_cons, List.reverse_cons]
    exact (ih h2).snoc h1
theorem reps_ints : ∀ {ns : List Int} {vs : List V}, Reps D G (ns.map T.int) vs ↔ vs = ns.map V.int
  | [], vs => Iff.rfl
  | n :: ns, vs => by
    constructor
    · rintro ⟨v, r, e, h, q⟩
      subst e
      cases h
      rw [(reps_ints (ns := ns)).mp q]; rfl
    · intro e; subst e; exact ⟨_, _, rfl, rfl, reps_ints.mpr rfl⟩
end

/-! ### slots and results -/
inductive Sl where
  | no | val (t : T) | own (xs : List T) | io (xs : List T) | raw (c : Nat) (ks : List Nat) (ts : List T) | exn (c : Nat) (ks : List Nat) (ts : List T) | pin (t : T) | odc (kvs : List (List Int × Int))
abbrev Ro := List Sl
inductive EV where
  | val (t : T) | own (xs : List T) | pk (i : Nat)
inductive R (α : Type) where
  | ok (a : α) (ρ : Ro) | ex (c : Nat) (ks : List Nat) (ts : List T) (ρ : Ro) | bad
def R.bind {α β : Type} (x : R α) (f : α → Ro → R β) : R β := match x with
  | .ok a ρ => f a ρ
  | .ex c ks ts ρ => .ex c ks ts ρ
  | .bad => .bad
@[simp] theorem R.bind_ok {α β : Type} (a : α) (ρ : Ro) (f : α → Ro → R β) : (R.ok a ρ).bind f = f a ρ := rfl
@[simp] theorem R.bind_ex {α β : Type} (c : Nat) (ks ts) (ρ : Ro) (f : α → Ro → R β) : (R.ex c ks ts ρ : R α).bind f = .ex c ks ts ρ := rfl
@[simp] theorem R.bind_bad {α β : Type} (f : α → Ro → R β) : (R.bad : R α).bind f = .bad := rfl
abbrev EF := Ro → R EV
abbrev TF := Ro → R Bool
inductive Fl where
  | nx | rt (r : EV) | bk | ct
abbrev SF := Ro → R Fl

/-- a def's frame: what was frozen at the entry, the heap at the entry, the parameters that it may change, the exceptions that are handled -/
structure Fr where
  G : Hp
  H : Hp
  io : Nat → Option Addr
  pin : Hp
  pn : Nat → Option Addr
  xs : Nat → Option (Addr × Value × Option Addr)

def RepX (D : Wd) (G : Hp) (cls : Value) (d : Option Addr) (c : Nat) (ks : List Nat) (ts : List T) : Prop :=
  cls = .ref (D.ca c) ∧ ((d = none ∧ ks = [] ∧ ts = []) ∨ ks ≠ [] ∧ ∃ dd fs, d = some dd ∧ G dd = some (.xd fs) ∧ fs.map (·.1) = ks.map D.nm ∧ Reps D G ts (fs.map (·.2)))
theorem RepX.mono {D : Wd} {G G' : Hp} {cls d c ks ts} (s : Same G G') (h : RepX D G cls d c ks ts) : RepX D G' cls d c ks ts := by
  obtain ⟨h1, h2 | ⟨h0, dd, fs, h2, h3, h4, h5⟩⟩ := h
  · exact ⟨h1, .inl h2⟩
  · exact ⟨h1, .inr ⟨h0, dd, fs, h2, s _ _ h3, h4, h5.mono s⟩⟩

/-- a pinned object, as a tree -/
def RepP (D : Wd) (G : Hp) (o : HO) : T → Prop
  | .lst xs => ∃ vs, o = .lst vs ∧ Reps D G xs vs
  | .ins c ks ts => ∃ dx fs, o = .ins (D.ca c) dx fs ∧ fs.map (·.1) = ks.map D.nm ∧ Reps D G ts (fs.map (·.2))
  | _ => False
theorem RepP.mono {D : Wd} {G G' : Hp} {o : HO} {t : T} (s : Same G G') (h : RepP D G o t) : RepP D G' o t := by
  cases t with
  | lst xs => obtain ⟨vs, h1, h2⟩ := h; exact ⟨vs, h1, h2.mono s⟩
  | ins c ks ts => obtain ⟨dx, fs, h1, h2, h3⟩ := h; exact ⟨dx, fs, h1, h2, h3.mono s⟩
  | _ => exact h.elim
def SlotOk (D : Wd) (φ : Fr) (G : Hp) (σ : L2.St) (H : Hp) (i : Nat) : Sl → Prop
  | .no => True
  | .val t => ∃ v, σ[i]? = some (some v) ∧ Rep D G t v
  | .own xs => ∃ a vs, σ[i]? = some (some (.ref a)) ∧ H a = some (.lst vs) ∧ G a = none ∧ φ.H a = none ∧ Reps D G xs vs
  | .io xs => ∃ a vs, σ[i]? = some (some (.ref a)) ∧ H a = some (.lst vs) ∧ G a = none ∧ φ.io i = some a ∧ Reps D G xs vs
  | .raw c ks ts => ∃ a dx fs, σ[i]? = some (some (.ref a)) ∧ H a = some (.ins (D.ca c) dx fs) ∧ G a = none ∧ φ.io i = some a ∧ fs.map (·.1) = ks.map D.nm ∧ Reps D G ts (fs.map (·.2))
  | .exn c ks ts => ∃ a cls d, σ[i]? = some (some (.ref a)) ∧ φ.xs i = some (a, cls, d) ∧ RepX D G cls d c ks ts
  | .pin t => ∃ a o, σ[i]? = some (some (.ref a)) ∧ φ.pn i = some a ∧ φ.pin a = some o ∧ RepP D G o t
  | .odc kvs => ∃ a, σ[i]? = some (some (.ref a)) ∧ H a = some (.dT (kvs.map encD)) ∧ G a = none ∧ φ.H a = none
def Sl.mut : Sl → Bool
  | .own _ => true | .io _ => true | .raw _ _ _ => true | .odc _ => true | _ => false
/-- the address of the changeable object in slot i -/
def MutAt (σ : L2.St) (ρ : Ro) (i : Nat) (a : Addr) : Prop := (∃ s, ρ[i]? = some s ∧ s.mut = true) ∧ σ[i]? = some (some (.ref a))

structure Rel (D : Wd) (φ : Fr) (G : Hp) (σ : L2.St) (ρ : Ro) (H : Hp) : Prop where
  len : ρ.length = σ.length
  sub : Same G H
  base : Same φ.G G
  keep : ∀ b, φ.H b ≠ none → φ.G b = none → G b = none
  alive : ∀ b, φ.H b ≠ none → H b ≠ none
  frame : ∀ b o, φ.H b = some o → (∀ i, φ.io i ≠ some b) → H b = some o
  slot : ∀ i s, ρ[i]? = some s → SlotOk D φ G σ H i s
  disj : ∀ i j a, MutAt σ ρ i a → MutAt σ ρ j a → i = j
  pin : ∀ b o, φ.pin b = some o → H b = some o ∧ G b = none
  pinM : ∀ i a, MutAt σ ρ i a → φ.pin a = none
  ioLt : ∀ i a, φ.io i = some a → i < ρ.length
  pnOk : ∀ i a, φ.pn i = some a → ∃ o, φ.pin a = some o

section
variable {D : Wd} {φ : Fr} {G G' : Hp} {σ : L2.St} {ρ : Ro} {H H' : Hp}
theorem mut_at (r : Rel D φ G σ ρ H) {i : Nat} {a : Addr} (m : MutAt σ ρ i a) : G a = none ∧ H a ≠ none ∧ (φ.H a = none ∨ φ.io i = some a) := by
  obtain ⟨⟨s, h1, h2⟩, h3⟩ := m
  have q := r.slot i s h1
  cases s with
  | own xs => obtain ⟨b, vs, e, h, g, f, _⟩ := q; rw [h3] at e; cases e; exact ⟨g, by rw [h]; simp, .inl f⟩
  | io xs => obtain ⟨b, vs, e, h, g, f, _⟩ := q; rw [h3] at e; cases e; exact ⟨g, by rw [h]; simp, .inr f⟩
  | raw c ks ts => obtain ⟨b, dx, fs, e, h, g, f, _⟩ := q; rw [h3] at e; cases e; exact ⟨g, by rw [h]; simp, .inr f⟩
  | no => cases h2
  | val t => cases h2
  | exn c ks ts => cases h2
  | pin t => cases h2
  | odc kvs => obtain ⟨b, e, h, g, f⟩ := q; rw [h3] at e; cases e; exact ⟨g, by rw [h]; simp, .inl f⟩
theorem Same.fresh_up {H : Hp} {p : Addr} {o : HO} (h : H p = none) : Same H (upd H p o) := fun b u e => by
  rw [upd_ne (ne_of_none e h)]; exact e
theorem same_none {G H : Hp} {p : Addr} (s : Same G H) (h : H p = none) : G p = none := s.free h
/-- the heap grows -/
theorem Rel.grow (r : Rel D φ G σ ρ H) (s : Same H H') : Rel D φ G σ ρ H' := by
  refine ⟨r.len, fun b o e => s _ _ (r.sub _ _ e), r.base, r.keep, fun b e => ?_, fun b o e n => s _ _ (r.frame b o e n), fun i sl e => ?_, r.disj, fun b o e => ⟨s _ _ (r.pin b o e).1, (r.pin b o e).2⟩, r.pinM, r.ioLt, r.pnOk⟩
  · cases q : H b with
    | none => exact absurd q (r.alive b e)
    | some o => rw [s _ _ q]; simp
  · have q := r.slot i sl e
    cases sl with
    | no => trivial
    | val t => exact q
    | own xs => obtain ⟨a, vs, h1, h2, h3⟩ := q; exact ⟨a, vs, h1, s _ _ h2, h3⟩
    | io xs => obtain ⟨a, vs, h1, h2, h3⟩ := q; exact ⟨a, vs, h1, s _ _ h2, h3⟩
    | raw c ks ts => obtain ⟨a, dx, fs, h1, h2, h3⟩ := q; exact ⟨a, dx, fs, h1, s _ _ h2, h3⟩
    | exn c ks ts => exact q
    | pin t => exact q
    | odc kvs => obtain ⟨a, h1, h2, h3⟩ := q; exact ⟨a, h1, s _ _ h2, h3⟩
/-- more is frozen: things of the heap that no slot may change and that the entry did not know -/
theorem Rel.freeze (r : Rel D φ G σ ρ H) (s : Same G G') (sub : Same G' H) (fresh : ∀ b, G b = none → G' b ≠ none → φ.H b = none ∧ φ.pin b = none)
    (nm : ∀ i a, MutAt σ ρ i a → G' a = none) : Rel D φ G' σ ρ H := by
  refine ⟨r.len, sub, fun b o e => s _ _ (r.base _ _ e), fun b h1 h2 => ?_, r.alive, r.frame, fun i sl e => ?_, r.disj, fun b o e => ⟨(r.pin b o e).1, ?_⟩, r.pinM, r.ioLt, r.pnOk⟩
  · have g := r.keep b h1 h2
    cases q : G' b with
    | none => rfl
    | some o => exact absurd (fresh b g (by rw [q]; simp)).1 h1
  · have q := r.slot i sl e
    cases sl with
    | no => trivial
    | val t => obtain ⟨v, h1, h2⟩ := q; exact ⟨v, h1, h2.mono s⟩
    | own xs => obtain ⟨a, vs, h1, h2, h3, h4, h5⟩ := q; exact ⟨a, vs, h1, h2, nm i a ⟨⟨_, e, rfl⟩, h1⟩, h4, h5.mono s⟩
    | io xs => obtain ⟨a, vs, h1, h2, h3, h4, h5⟩ := q; exact ⟨a, vs, h1, h2, nm i a ⟨⟨_, e, rfl⟩, h1⟩, h4, h5.mono s⟩
    | raw c ks ts => obtain ⟨a, dx, fs, h1, h2, h3, h4, h5, h6⟩ := q; exact ⟨a, dx, fs, h1, h2, nm i a ⟨⟨_, e, rfl⟩, h1⟩, h4, h5, h6.mono s⟩
    | exn c ks ts => obtain ⟨a, cls, d, h1, h2, h3⟩ := q; exact ⟨a, cls, d, h1, h2, h3.mono s⟩
    | pin t => obtain ⟨a, o, h1, h0, h2, h3⟩ := q; exact ⟨a, o, h1, h0, h2, h3.mono s⟩
    | odc kvs => obtain ⟨a, h1, h2, h3, h4⟩ := q; exact ⟨a, h1, h2, nm i a ⟨⟨_, e, rfl⟩, h1⟩, h4⟩
  · have g := (r.pin b o e).2
    cases q : G' b with
    | none => rfl
    | some u =>
      have z := (fresh b g (by rw [q]; simp)).2
      rw [e] at z; cases z
theorem Rel.gone (r : Rel D φ G σ ρ H) {p : Addr} (h : H p = none) : φ.H p = none := by
  cases q : φ.H p with
  | none => rfl
  | some o => exact absurd h (r.alive p (by rw [q]; simp))
theorem Rel.gonePin (r : Rel D φ G σ ρ H) {p : Addr} (h : H p = none) : φ.pin p = none := by
  cases q : φ.pin p with
  | none => rfl
  | some o => have z := (r.pin p o q).1; rw [h] at z; cases z
/-- one object that stands in the heap is frozen -/
theorem Rel.freeze1 (r : Rel D φ G σ ρ H) {p : Addr} {o : HO} (h : H p = some o) (hg : G p = none) (hf : φ.H p = none) (hp : φ.pin p = none) (nm : ∀ i, ¬ MutAt σ ρ i p) : Rel D φ (upd G p o) σ ρ H := by
  refine r.freeze (Same.fresh_up hg) (fun b u e => ?_) (fun b h1 h2 => ?_) fun i a m => ?_
  · by_cases hb : b = p
    · subst hb; rw [upd_same] at e; cases e; exact h
    · rw [upd_ne hb] at e; exact r.sub _ _ e
  · by_cases hb : b = p
    · subst hb; exact ⟨hf, hp⟩
    · rw [upd_ne hb] at h2; exact absurd h1 h2
  · have : a ≠ p := fun e => nm i (e ▸ m)
    rw [upd_ne this]; exact (mut_at r m).1
theorem Rel.not_mut (r : Rel D φ G σ ρ H) {p : Addr} (h : H p = none) : ∀ i, ¬ MutAt σ ρ i p := fun i m => (mut_at r m).2.1 h
/-- a new object, frozen at once -/
theorem Rel.newFrozen (r : Rel D φ G σ ρ H) {p : Addr} {o : HO} (h : H p = none) : Rel D φ (upd G p o) σ ρ (upd H p o) :=
  (r.grow (Same.fresh_up h)).freeze1 upd_same (same_none r.sub h) (r.gone h) (r.gonePin h) (r.not_mut h)

/-- what an expression's value is -/
def RepV (D : Wd) (φ : Fr) (G : Hp) (σ : L2.St) (ρ : Ro) (H : Hp) (v : V) : EV → Prop
  | .val t => Rep D G t v
  | .own xs => ∃ a vs, v = .ref a ∧ H a = some (.lst vs) ∧ G a = none ∧ φ.H a = none ∧ φ.pin a = none ∧ Reps D G xs vs ∧ ∀ i, ¬ MutAt σ ρ i a
  | .pk i => σ[i]? = some (some v)
/-- .. while more is evaluated -/
def Hld (D : Wd) (G : Hp) (σ : L2.St) (v : V) : EV → Prop
  | .val t => Rep D G t v
  | .own xs => Rep D G (.lst xs) v
  | .pk i => σ[i]? = some (some v)
theorem Hld.mono {v : V} {r : EV} (s : Same G G') (h : Hld D G σ v r) : Hld D G' σ v r := by
  cases r with
  | val t => exact Rep.mono s h
  | own xs => exact Rep.mono s h
  | pk i => exact h
theorem settle (r : Rel D φ G σ ρ H) {v : V} {x : EV} (h : RepV D φ G σ ρ H v x) : ∃ G', Same G G' ∧ Rel D φ G' σ ρ H ∧ Hld D G' σ v x := by
  cases x with
  | val t => exact ⟨G, .refl _, r, h⟩
  | pk i => exact ⟨G, .refl _, r, h⟩
  | own xs =>
    obtain ⟨a, vs, rfl, h1, h2, h3, hp, h4, h5⟩ := h
    exact ⟨_, Same.fresh_up h2, r.freeze1 h1 h2 h3 hp h5, a, vs, rfl, upd_same, h4.mono (Same.fresh_up h2)⟩

/-- usable now: what stands in the heap, its items frozen -/
def RepU (D : Wd) (G H : Hp) : T → V → Prop
  | .lst ts, v => ∃ a vs, v = .ref a ∧ H a = some (.lst vs) ∧ Reps D G ts vs
  | .ins c ks ts, v => ∃ a dx fs, v = .ref a ∧ H a = some (.ins (D.ca c) dx fs) ∧ fs.map (·.1) = ks.map D.nm ∧ Reps D G ts (fs.map (·.2))
  | t, v => Rep D G t v
theorem Rep.use (s : Same G H) {t : T} {v : V} (h : Rep D G t v) : RepU D G H t v := by
  cases t with
  | lst ts => obtain ⟨a, vs, e, q, r⟩ := h; exact ⟨a, vs, e, s _ _ q, r⟩
  | ins c ks ts => obtain ⟨a, dx, fs, e, q, r⟩ := h; exact ⟨a, dx, fs, e, s _ _ q, r⟩
  | _ => exact h
def deref (ρ : Ro) : EV → Option T
  | .val t => some t
  | .own xs => some (.lst xs)
  | .pk i => match ρ[i]? with
    | some (.val t) => some t
    | some (.own xs) => some (.lst xs)
    | some (.io xs) => some (.lst xs)
    | some (.raw c ks ts) => some (.ins c ks ts)
    | some (.pin t) => some t
    | _ => none
theorem Hld.use (r : Rel D φ G σ ρ H) {v : V} {x : EV} {t : T} (h : Hld D G σ v x) (d : deref ρ x = some t) : RepU D G H t v := by
  cases x with
  | val t' => cases d; exact Rep.use r.sub h
  | own xs => cases d; exact Rep.use r.sub h
  | pk i =>
    have h' : σ[i]? = some (some v) := h
    unfold deref at d
    simp only at d
    split at d
    · rename_i t' e; cases d
      obtain ⟨w, h1, h2⟩ := r.slot i _ e
      rw [h'] at h1; cases h1; exact h2.use r.sub
    · rename_i xs e; cases d
      obtain ⟨a, vs, h1, h2, h3, h4, h5⟩ := r.slot i _ e
      rw [h'] at h1; cases h1; exact ⟨a, vs, rfl, h2, h5⟩
    · rename_i xs e; cases d
      obtain ⟨a, vs, h1, h2, h3, h4, h5⟩ := r.slot i _ e
      rw [h'] at h1; cases h1; exact ⟨a, vs, rfl, h2, h5⟩
    · rename_i c ks ts e; cases d
      obtain ⟨a, dx, fs, h1, h2, h3, h4, h5, h6⟩ := r.slot i _ e
      rw [h'] at h1; cases h1; exact ⟨a, dx, fs, rfl, h2, h5, h6⟩
    · rename_i t' e; cases d
      obtain ⟨a, o, h1, _, h2, h3⟩ := r.slot i _ e
      rw [h'] at h1; cases h1
      have q := (r.pin a o h2).1
      cases t with
      | lst xs => obtain ⟨vs, rfl, h4⟩ := h3; exact ⟨a, vs, rfl, q, h4⟩
      | ins c ks ts => obtain ⟨dx, fs, rfl, h4, h5⟩ := h3; exact ⟨a, dx, fs, rfl, q, h4, h5⟩
      | _ => exact h3.elim
    · cases d
end

/-! ### what is wanted of a result -/
def Post {α : Type} (D : Wd) (φ : Fr) (W : WX) (G0 : Hp) (σ : L2.St) (P : α → Ro → Hp → Hp → Prop) : R α → Prop
  | .ok a ρ => ∀ G H, Same G0 G → Rel D φ G σ ρ H → P a ρ G H
  | .ex c ks ts ρ => ∀ cls d G H, Same G0 G → Rel D φ G σ ρ H → RepX D G cls d c ks ts → W cls d σ H
  | .bad => False
section
variable {α β : Type} {D : Wd} {φ : Fr} {W : WX} {G0 G1 : Hp} {σ : L2.St}
theorem Post.weak {P : α → Ro → Hp → Hp → Prop} {r : R α} (s : Same G0 G1) (h : Post D φ W G0 σ P r) : Post D φ W G1 σ P r := by
  cases r with
  | ok a ρ => exact fun G H q => h G H (s.trans q)
  | ex c ks ts ρ => exact fun cls d G H q => h cls d G H (s.trans q)
  | bad => exact h
theorem Post.bind {P : β → Ro → Hp → Hp → Prop} {x : R α} {f : α → Ro → R β} (h : Post D φ W G0 σ P (x.bind f)) :
    Post D φ W G0 σ (fun a ρ G _ => Post D φ W G σ P (f a ρ)) x := by
  cases x with
  | ok a ρ => exact fun G H s r => Post.weak s h
  | ex c ks ts ρ => exact h
  | bad => exact h
theorem Post.imp {P P' : α → Ro → Hp → Hp → Prop} {r : R α} (h : Post D φ W G0 σ P r) (k : ∀ a ρ G H, Same G0 G → Rel D φ G σ ρ H → P a ρ G H → P' a ρ G H) : Post D φ W G0 σ P' r := by
  cases r with
  | ok a ρ => exact fun G H s q => k a ρ G H s q (h G H s q)
  | ex c ks ts ρ => exact h
  | bad => exact h
end
abbrev PV (D : Wd) (φ : Fr) (σ : L2.St) (Q : VK) : EV → Ro → Hp → Hp → Prop := fun x ρ G H => ∀ v, RepV D φ G σ ρ H v x → Q v H
def rdE (D : Wd) (φ : Fr) (W : WX) (f : EF) : TE := fun σ H Q => ∃ G ρ, Rel D φ G σ ρ H ∧ Post D φ W G σ (PV D φ σ Q) (f ρ)
def rdT (D : Wd) (φ : Fr) (W : WX) (f : TF) : TT := fun σ H Q => ∃ G ρ, Rel D φ G σ ρ H ∧ Post D φ W G σ (fun b _ _ H => Q b H) (f ρ)
/-- arguments: each held -/
inductive Hlds (D : Wd) (G : Hp) (σ : L2.St) : List EV → List V → Prop where
  | nil : Hlds D G σ [] []
  | cons {x : EV} {v : V} {xs : List EV} {vs : List V} : Hld D G σ v x → Hlds D G σ xs vs → Hlds D G σ (x :: xs) (v :: vs)
theorem Hlds.mono {D : Wd} {G G' : Hp} {σ : L2.St} {xs : List EV} {vs : List V} (s : Same G G') (h : Hlds D G σ xs vs) : Hlds D G' σ xs vs := by
  induction h with
  | nil => exact .nil
  | cons a _ ih => exact .cons (a.mono s) ih
abbrev AF := Ro → R (List EV)
abbrev PVs (D : Wd) (σ : L2.St) (Q : List V → Hp → Prop) : List EV → Ro → Hp → Hp → Prop := fun xs _ G H => ∀ vs, Hlds D G σ xs vs → Q vs H
def rdA (D : Wd) (φ : Fr) (W : WX) (f : AF) : TA := fun σ H Q => ∃ G ρ, Rel D φ G σ ρ H ∧ Post D φ W G σ (PVs D σ Q) (f ρ)

structure EX (X : Cx) (D : Wd) (φ : Fr) (W : WX) (e : Expr) (f : EF) : Prop where
  pe : PE X e (rdE D φ W f)
structure TX (X : Cx) (D : Wd) (φ : Fr) (W : WX) (e : Expr) (f : TF) : Prop where
  pt : PT X e (rdT D φ W f)
structure TW (X : Cx) (D : Wd) (φ : Fr) (W : WX) (e : Expr) (f : TF) : Prop where
  pw : PW X e (rdT D φ W f)
structure AX (X : Cx) (D : Wd) (φ : Fr) (W : WX) (es : List Expr) (f : AF) : Prop where
  pa : PA X es (rdA D φ W f)

theorem pe_mono {X : Cx} {e : Expr} {t t' : TE} (h : PE X e t) (k : ∀ σ H Q, t' σ H Q → t σ H Q) : PE X e t' := ⟨fun pins s σ H Q I q => h.run pins s σ H Q I (k σ H Q q)⟩
theorem pt_mono {X : Cx} {e : Expr} {t t' : TT} (h : PT X e t) (k : ∀ σ H Q, t' σ H Q → t σ H Q) : PT X e t' := ⟨fun pins s σ H Q I q => h.run pins s σ H Q I (k σ H Q q)⟩
theorem pw_mono {X : Cx} {e : Expr} {t t' : TT} (h : PW X e t) (k : ∀ σ H Q, t' σ H Q → t σ H Q) : PW X e t' := ⟨fun w pins s σ H Q I q => h.run w pins s σ H Q I (k σ H Q q)⟩
theorem pa_mono {X : Cx} {e : List Expr} {t t' : TA} (h : PA X e t) (k : ∀ σ H Q, t' σ H Q → t σ H Q) : PA X e t' := ⟨fun p pins s σ H Q I q => h.run p pins s σ H Q I (k σ H Q q)⟩
theorem pe_alt {X : Cx} {e : Expr} {t u : TE} (h : PE X e t) (k : PE X e u) : PE X e (fun σ H Q => t σ H Q ∨ u σ H Q) := ⟨fun pins s σ H Q I q => q.elim (h.run pins s σ H Q I) (k.run pins s σ H Q I)⟩
end VI

set_option Elab.async false
set_option linter.all false
set_option maxRecDepth 100000
set_option maxHeartbeats 4000000
namespace VI
open PySem L2

/-! ### an operation's outcome -/
inductive Out where
  | v (t : T) | l (xs : List T) | u (xs : List T) | no
def out : Out → Ro → R EV
  | .v t, ρ => .ok (.val t) ρ
  | .l xs, ρ => .ok (.own xs) ρ
  | .u xs, ρ => .ok (.val (.tup xs)) ρ
  | .no, _ => .bad
def OutOk (D : Wd) (G H : Hp) (Q : VK) : Out → Prop
  | .v t => ∀ v H', Same H H' → Rep D G t v → Q v H'
  | .l xs => ∀ p vs H', Same H H' → H p = none → H' p = some (.lst vs) → Reps D G xs vs → Q (.ref p) H'
  | .u xs => ∀ p vs H', Same H H' → H p = none → H' p = some (.tup vs) → Reps D G xs vs → Q (.ref p) H'
  | .no => False
section
variable {D : Wd} {φ : Fr} {W : WX} {G0 G : Hp} {σ : L2.St} {ρ : Ro} {H : Hp} {Q : VK}
theorem fin_out {o : Out} (r : Rel D φ G σ ρ H) (s : Same G0 G) (h : Post D φ W G0 σ (PV D φ σ Q) (out o ρ)) : OutOk D G H Q o := by
  cases o with
  | v t => exact fun v H' s' q => h G H' s (r.grow s') v q
  | l xs =>
    intro p vs H' s' hp hp' q
    exact h G H' s (r.grow s') (.ref p) ⟨p, vs, rfl, hp', same_none r.sub hp, r.gone hp, r.gonePin hp, q, r.not_mut hp⟩
  | u xs =>
    intro p vs H' s' hp hp' q
    have hg := same_none r.sub hp
    exact h (upd G p (.tup vs)) H' (s.trans (Same.fresh_up hg)) ((r.grow s').freeze1 hp' hg (r.gone hp) (r.gonePin hp) (r.not_mut hp)) (.ref p) ⟨p, vs, rfl, .of upd_same, q.mono (Same.fresh_up hg)⟩
  | no => exact h
/-- one value, then an outcome -/
theorem post1 {g : T → Out} {x : EV} (r : Rel D φ G σ ρ H) (s : Same G0 G) {v : V} (hv : Hld D G σ v x)
    (h : Post D φ W G0 σ (PV D φ σ Q) (match deref ρ x with | some t => out (g t) ρ | none => .bad)) : ∃ t, RepU D G H t v ∧ OutOk D G H Q (g t) := by
  cases e : deref ρ x with
  | none => rw [e] at h; exact h.elim
  | some t => rw [e] at h; exact ⟨t, hv.use r e, fin_out r s h⟩
end

def e1 (g : T → Out) (fa : EF) : EF := fun ρ => (fa ρ).bind fun x ρ1 => match deref ρ1 x with | some t => out (g t) ρ1 | none => .bad
def e2 (g : T → T → Out) (fa fb : EF) : EF := fun ρ => (fa ρ).bind fun x ρ1 => (fb ρ1).bind fun y ρ2 => match deref ρ2 x, deref ρ2 y with | some t, some u => out (g t u) ρ2 | _, _ => .bad
def derefs (ρ : Ro) : List EV → Option (List T)
  | [] => some []
  | x :: xs => match deref ρ x, derefs ρ xs with | some t, some ts => some (t :: ts) | _, _ => none
def eN (g : List T → Out) (fa : AF) : EF := fun ρ => (fa ρ).bind fun xs ρ1 => match derefs ρ1 xs with | some ts => out (g ts) ρ1 | none => .bad
def aNil : AF := fun ρ => .ok [] ρ
def aCons (f : EF) (g : AF) : AF := fun ρ => (f ρ).bind fun x ρ1 => (g ρ1).bind fun xs ρ2 => .ok (x :: xs) ρ2

/-! ### names, constants -/
def eVar (i : Nat) : EF := fun ρ => match ρ[i]? with
  | some (.val t) => .ok (.val t) ρ
  | some (.own _) => .ok (.pk i) ρ
  | some (.io _) => .ok (.pk i) ρ
  | some (.raw _ _ _) => .ok (.pk i) ρ
  | some (.pin _) => .ok (.pk i) ρ
  | _ => .bad
/-- a list of our own that is changed no more -/
def eVarF (i : Nat) : EF := fun ρ => match ρ[i]? with
  | some (.val t) => .ok (.val t) ρ
  | some (.own xs) => .ok (.val (.lst xs)) (ρ.set i (.val (.lst xs)))
  | _ => .bad
def eC (t : T) : EF := fun ρ => .ok (.val t) ρ
section
variable {X : Cx} {D : Wd} {φ : Fr} {W : WX} {e a b : Expr} {fa fb : EF} {pos : Pos}
theorem e_var (i : Nat) (h : PE X e (tVar i)) : EX X D φ W e (eVar i) := ⟨pe_mono h fun σ H Q ⟨G, ρ, r, p⟩ => by
  unfold eVar at p
  split at p
  · rename_i t q
    obtain ⟨v, h1, h2⟩ := r.slot i _ q
    exact ⟨v, h1, p G H (.refl _) r v h2⟩
  · rename_i xs q
    obtain ⟨a, vs, h1, _⟩ := r.slot i _ q
    exact ⟨_, h1, p G H (.refl _) r _ h1⟩
  · rename_i xs q
    obtain ⟨a, vs, h1, _⟩ := r.slot i _ q
    exact ⟨_, h1, p G H (.refl _) r _ h1⟩
  · rename_i c ks ts q
    obtain ⟨a, dx, fs, h1, _⟩ := r.slot i _ q
    exact ⟨_, h1, p G H (.refl _) r _ h1⟩
  · rename_i t q
    obtain ⟨a, o, h1, _⟩ := r.slot i _ q
    exact ⟨_, h1, p G H (.refl _) r _ h1⟩
  · exact p.elim⟩
theorem getElem?_set_cases {ρ : Ro} {i j : Nat} {s s' : Sl} (h : (ρ.set i s)[j]? = some s') : (j = i ∧ s' = s ∧ i < ρ.length) ∨ (j ≠ i ∧ ρ[j]? = some s') := by
  by_cases e : j = i
  · subst e
    by_cases hl : j < ρ.length
    · rw [List.getElem?_set_self hl] at h; cases h; exact .inl ⟨rfl, rfl, hl⟩
    · rw [List.getElem?_eq_none (by simpa using hl)] at h; cases h
  · rw [List.getElem?_set_ne (Ne.symm e)] at h; exact .inr ⟨e, h⟩
theorem MutAt.of_set {σ : L2.St} {ρ : Ro} {i j : Nat} {a : Addr} {s : Sl} (hs : s.mut = false) (m : MutAt σ (ρ.set i s) j a) : MutAt σ ρ j a ∧ j ≠ i := by
  obtain ⟨⟨s', h1, h2⟩, h3⟩ := m
  rcases getElem?_set_cases h1 with ⟨_, rfl, _⟩ | ⟨ne, h1⟩
  · rw [hs] at h2; cases h2
  · exact ⟨⟨⟨s', h1, h2⟩, h3⟩, ne⟩
theorem Rel.setVal {G : Hp} {σ : L2.St} {ρ : Ro} {H : Hp} (r : Rel D φ G σ ρ H) {i : Nat} {t : T} {v : V} (h1 : σ[i]? = some (some v)) (h2 : Rep D G t v) : Rel D φ G σ (ρ.set i (.val t)) H := by
  refine ⟨by rw [List.length_set]; exact r.len, r.sub, r.base, r.keep, r.alive, r.frame, fun j s e => ?_, fun j k b m m' => r.disj j k b (m.of_set rfl).1 (m'.of_set rfl).1, r.pin, fun j b m => r.pinM j b (m.of_set rfl).1, fun j b m => by rw [List.length_set]; exact r.ioLt j b m, r.pnOk⟩
  rcases getElem?_set_cases e with ⟨rfl, rfl, _⟩ | ⟨_, e⟩
  · exact ⟨v, h1, h2⟩
  · exact r.slot j s e
theorem Rel.setVal' {G : Hp} {σ : L2.St} {ρ : Ro} {H : Hp} {i : Nat} {a : Addr} {xs : List T} {vs : List V} (r : Rel D φ G σ ρ H) (q : ρ[i]? = some (.own xs)) (h1 : σ[i]? = some (some (.ref a))) (h2 : H a = some (.lst vs)) (h3 : G a = none) (h4 : φ.H a = none) (h5 : Reps D G xs vs) :
    Rel D φ (upd G a (.lst vs)) σ (ρ.set i (.val (.lst xs))) H := by
  have r0 : Rel D φ G σ (ρ.set i .no) H := by
    refine ⟨by rw [List.length_set]; exact r.len, r.sub, r.base, r.keep, r.alive, r.frame, fun j s e => ?_, fun j k b m m' => r.disj j k b (m.of_set rfl).1 (m'.of_set rfl).1, r.pin, fun j b m => r.pinM j b (m.of_set rfl).1, fun j b m => by rw [List.length_set]; exact r.ioLt j b m, r.pnOk⟩
    rcases getElem?_set_cases e with ⟨rfl, rfl, _⟩ | ⟨_, e⟩
    · trivial
    · exact r.slot j s e
  have r1 := r0.freeze1 h2 h3 h4 (r.pinM i a ⟨⟨_, q, rfl⟩, h1⟩) fun j m => by
    obtain ⟨m, ne⟩ := m.of_set rfl
    exact ne (r.disj j i a m ⟨⟨_, q, rfl⟩, h1⟩)
  have r2 := r1.setVal (i := i) (t := .lst xs) h1 ⟨a, vs, rfl, upd_same, h5.mono (Same.fresh_up h3)⟩
  rwa [List.set_set] at r2
theorem e_varF (i : Nat) (h : PE X e (tVar i)) : EX X D φ W e (eVarF i) := ⟨pe_mono h fun σ H Q ⟨G, ρ, r, p⟩ => by
  unfold eVarF at p
  split at p
  · rename_i t q
    obtain ⟨v, h1, h2⟩ := r.slot i _ q
    exact ⟨v, h1, p G H (.refl _) r v h2⟩
  · rename_i xs q
    obtain ⟨a, vs, h1, h2, h3, h4, h5⟩ := r.slot i _ q
    exact ⟨_, h1, p _ H (Same.fresh_up h3) (r.setVal' q h1 h2 h3 h4 h5) _ ⟨a, vs, rfl, upd_same, h5.mono (Same.fresh_up h3)⟩⟩
  · exact p.elim⟩
theorem e_c {t : T} {v : V} (h : PE X e (tC v)) (hv : ∀ G, Rep D G t v) : EX X D φ W e (eC t) := ⟨pe_mono h fun σ H Q ⟨G, ρ, r, p⟩ => p G H (.refl _) r v (hv G)⟩
theorem e_int {i j} : EX X D φ W (.Constant (.int i) j pos) (eC (.int i)) := e_c pe_int fun _ => rfl
theorem e_bl {i j} : EX X D φ W (.Constant (.bool i) j pos) (eC (.bl i)) := e_c pe_bl fun _ => rfl
theorem e_non {j} : EX X D φ W (.Constant .none j pos) (eC .non) := e_c pe_non fun _ => rfl
theorem e_str {i j} : EX X D φ W (.Constant (.str i) j pos) (eC (.str i)) := e_c pe_str fun _ => rfl

/-! ### operations by values -/
def Op2 (D : Wd) (r : R2) (g : T → T → Out) : Prop := ∀ (G H : Hp) (x y : V) (t u : T) (Q : VK), Same G H → RepU D G H t x → RepU D G H u y → OutOk D G H Q (g t u) → r x y H Q
def Op1 (D : Wd) (r : V → Hp → VK → Prop) (g : T → Out) : Prop := ∀ (G H : Hp) (x : V) (t : T) (Q : VK), Same G H → RepU D G H t x → OutOk D G H Q (g t) → r x H Q
inductive RepUs (D : Wd) (G H : Hp) : List T → List V → Prop where
  | nil : RepUs D G H [] []
  | cons {t : T} {v : V} {ts : List T} {vs : List V} : RepU D G H t v → RepUs D G H ts vs → RepUs D G H (t :: ts) (v :: vs)
def OpN (D : Wd) (r : List V → Hp → VK → Prop) (g : List T → Out) : Prop := ∀ (G H : Hp) (xs : List V) (ts : List T) (Q : VK), Same G H → RepUs D G H ts xs → OutOk D G H Q (g ts) → r xs H Q

/-- two operands in a row -/
theorem two {σ : L2.St} {H : Hp} {Q : VK} {g : T → T → Out} {r : R2} (os : Op2 D r g) (h : rdE D φ W (e2 g fa fb) σ H Q) :
    rdE D φ W fa σ H fun x H1 => rdE D φ W fb σ H1 fun y H2 => r x y H2 Q := by
  obtain ⟨G, ρ, rl, p⟩ := h
  refine ⟨G, ρ, rl, Post.imp (Post.bind p) fun x ρ1 G1 H1 s1 r1 p1 v hv => ?_⟩
  obtain ⟨G2, s2, r2, hh⟩ := settle r1 hv
  refine ⟨G2, ρ1, r2, Post.imp (Post.bind (Post.weak s2 p1)) fun y ρ2 G3 H3 s3 r3 p3 w hw => ?_⟩
  obtain ⟨G4, s4, r4, hw'⟩ := settle r3 hw
  have hh' := hh.mono (s3.trans s4)
  cases e : deref ρ2 x with
  | none => rw [e] at p3; exact p3.elim
  | some t =>
    cases e' : deref ρ2 y with
    | none => rw [e, e'] at p3; exact p3.elim
    | some u => rw [e, e'] at p3; exact os G4 H3 v w t u Q r4.sub (hh'.use r4 e) (hw'.use r4 e') (fin_out r4 s4 p3)
theorem one {σ : L2.St} {H : Hp} {Q : VK} {g : T → Out} {r : V → Hp → VK → Prop} (os : Op1 D r g) (h : rdE D φ W (e1 g fa) σ H Q) :
    rdE D φ W fa σ H fun x H1 => r x H1 Q := by
  obtain ⟨G, ρ, rl, p⟩ := h
  refine ⟨G, ρ, rl, Post.imp (Post.bind p) fun x ρ1 G1 H1 s1 r1 p1 v hv => ?_⟩
  obtain ⟨G2, s2, r2, hh⟩ := settle r1 hv
  obtain ⟨t, ht, ho⟩ := post1 r2 s2 hh p1
  exact os G2 H1 v t Q r2.sub ht ho
theorem e_bin {op : Operator} {r : R2} {g : T → T → Out} (ho : OpR X (binaryOp op) r) (os : Op2 D r g) (ha : EX X D φ W a fa) (hb : EX X D φ W b fb) : EX X D φ W (.BinOp a op b pos) (e2 g fa fb) :=
  ⟨pe_mono (pe_op ho ha.pe hb.pe) fun _ _ _ h => two os h⟩
theorem e_cmp {op : CmpOp} {r : R2} {g : T → T → Out} (ho : OpR X (compareOp op) r) (os : Op2 D r g) (ha : EX X D φ W a fa) (hb : EX X D φ W b fb) (hm : behindInMarks op b = false := by rfl) : EX X D φ W (.Compare a [op] [b] pos) (e2 g fa fb) :=
  ⟨pe_mono (pe_cmpR ho ha.pe hb.pe hm) fun _ _ _ h => two os h⟩
theorem e_un {op : UnaryOp} {r : V → Hp → VK → Prop} {g : T → Out} (ho : UnR X (unaryOp op) r) (os : Op1 D r g) (ha : EX X D φ W a fa) : EX X D φ W (.UnaryOp op a pos) (e1 g fa) :=
  ⟨pe_mono (pe_un ho ha.pe) fun _ _ _ h => one os h⟩
theorem e_ix {r : R2} {g : T → T → Out} (ho : IxR X r) (os : Op2 D r g) (ha : EX X D φ W a fa) (hb : EX X D φ W b fb) (hs : PlainIx b := by intro _ _; rfl) : EX X D φ W (.Subscript a b pos) (e2 g fa fb) :=
  ⟨pe_mono (pe_ix ho ha.pe hb.pe hs) fun _ _ _ h => two os h⟩

/-! ### arguments -/
theorem a_nil : AX X D φ W [] aNil := ⟨pa_mono pa_nil fun _ H _ ⟨G, _, r, p⟩ => p G H (.refl _) r [] .nil⟩
theorem a_cons {es : List Expr} {g : AF} (ha : EX X D φ W e fa) (hr : AX X D φ W es g) (hs : starEach (e :: es) X.env = (false, eval e X.env) :: starEach es X.env := by rfl) : AX X D φ W (e :: es) (aCons fa g) :=
  ⟨pa_mono (pa_cons ha.pe hr.pa hs) fun σ H Q ⟨G, ρ, rl, p⟩ => by
    refine ⟨G, ρ, rl, Post.imp (Post.bind p) fun x ρ1 G1 H1 s1 r1 p1 v hv => ?_⟩
    obtain ⟨G2, s2, r2, hh⟩ := settle r1 hv
    refine ⟨G2, ρ1, r2, Post.imp (Post.bind (Post.weak s2 p1)) fun xs ρ2 G3 H3 s3 r3 p3 vs hvs => ?_⟩
    exact p3 G3 H3 (.refl _) r3 _ (.cons (hh.mono s3) hvs)⟩
theorem Hlds.use {G : Hp} {σ : L2.St} {ρ : Ro} {H : Hp} (r : Rel D φ G σ ρ H) : ∀ {xs : List EV} {vs : List V} {ts : List T}, Hlds D G σ xs vs → derefs ρ xs = some ts → RepUs D G H ts vs
  | _, _, _, .nil, h => by cases h; exact .nil
  | _, _, _, .cons (x := x) (xs := xs) a b, h => by
    unfold derefs at h
    cases e : deref ρ x with
    | none => rw [e] at h; cases h
    | some t =>
      cases e' : derefs ρ xs with
      | none => rw [e, e'] at h; cases h
      | some ts => rw [e, e'] at h; cases h; exact .cons (a.use r e) (Hlds.use r b e')
theorem many {σ : L2.St} {H : Hp} {Q : VK} {g : List T → Out} {f : AF} {r : List V → Hp → VK → Prop} (os : OpN D r g) (h : rdE D φ W (eN g f) σ H Q) :
    rdA D φ W f σ H fun vs H1 => r vs H1 Q := by
  obtain ⟨G, ρ, rl, p⟩ := h
  refine ⟨G, ρ, rl, Post.imp (Post.bind p) fun xs ρ1 G1 H1 s1 r1 p1 vs hvs => ?_⟩
  cases e : derefs ρ1 xs with
  | none => rw [e] at p1; exact p1.elim
  | some ts => rw [e] at p1; exact os G1 H1 vs ts Q r1.sub (hvs.use r1 e) (fin_out r1 (.refl _) p1)
theorem e_callB {x : Str} {id : String} {r : List V → Hp → VK → Prop} {g : List T → Out} {f : AF} {es : List Expr} {p : Pos} (hc : CallR X (.builtin id) r) (os : OpN D r g) (hg : Gl X x) (hm : X.mg x = none) (hv : bootBuiltins x = some (.builtin id)) (ha : AX X D φ W (e :: es) f) (hn : x ≠ "__name__" := by decide)
    (hdb : (x == ("__debug__" : Str)) = false := by decide) (he : starEach (e :: es) X.env = (false, eval e X.env) :: starEach es X.env := by rfl) (hpl : (backTo pos (starEach es X.env)).any (·.1) = false := by rfl) : EX X D φ W (.Call (.Name x p) (e :: es) [] pos) (eN g f) :=
  ⟨pe_mono (pe_callB hc hg hm hv ha.pa hn hdb he hpl) fun _ _ _ h => many os h⟩
theorem e_callTy {x : Str} {id : String} {r : List V → Hp → VK → Prop} {g : List T → Out} {f : AF} {es : List Expr} {p : Pos} (hc : CallR X (.type id) r) (os : OpN D r g) (hg : Gl X x) (hm : X.mg x = none) (hv : bootBuiltins x = some (.type id)) (ha : AX X D φ W (e :: es) f) (hn : x ≠ "__name__" := by decide)
    (hdb : (x == ("__debug__" : Str)) = false := by decide) (he : starEach (e :: es) X.env = (false, eval e X.env) :: starEach es X.env := by rfl) (hpl : (backTo pos (starEach es X.env)).any (·.1) = false := by rfl) : EX X D φ W (.Call (.Name x p) (e :: es) [] pos) (eN g f) :=
  ⟨pe_mono (pe_callTy hc hg hm hv ha.pa hn hdb he hpl) fun _ _ _ h => many os h⟩

/-! ### displays -/
def grounds : List EV → Option (List T)
  | [] => some []
  | .val t :: xs => (grounds xs).map (t :: ·)
  | .own l :: xs => (grounds xs).map (.lst l :: ·)
  | .pk _ :: _ => none
theorem Hlds.ground {G : Hp} {σ : L2.St} : ∀ {xs : List EV} {vs : List V} {ts : List T}, Hlds D G σ xs vs → grounds xs = some ts → Reps D G ts vs
  | _, _, _, .nil, h => by cases h; exact .nil
  | _, _, _, .cons (x := .val t) (xs := xs) a b, h => by
    unfold grounds at h
    cases e : grounds xs with
    | none => rw [e] at h; cases h
    | some ts => rw [e] at h; cases h; exact .cons a (Hlds.ground b e)
  | _, _, _, .cons (x := .own l) (xs := xs) a b, h => by
    unfold grounds at h
    cases e : grounds xs with
    | none => rw [e] at h; cases h
    | some ts => rw [e] at h; cases h; exact .cons a (Hlds.ground b e)
  | _, _, _, .cons (x := .pk i) (xs := xs) a b, h => by unfold grounds at h; cases h
def eTup (f : AF) : EF := fun ρ => (f ρ).bind fun xs ρ1 => match grounds xs with | some ts => if ts.length ≤ 100000 then out (.u ts) ρ1 else .bad | none => .bad
def eLst (f : AF) : EF := fun ρ => (f ρ).bind fun xs ρ1 => match grounds xs with | some ts => if ts.length ≤ 100000 then out (.l ts) ρ1 else .bad | none => .bad
theorem line_of {n : Nat} (h : n ≤ 100000) : n ≤ sizeLine := Nat.le_trans h (by decide)
theorem e_tup {es : List Expr} {f : AF} {x1} (h : AX X D φ W es f) : EX X D φ W (.Tuple es x1 pos) (eTup f) :=
  ⟨pe_mono (pe_tup h.pa) fun σ H Q ⟨G, ρ, rl, p⟩ => by
    refine ⟨G, ρ, rl, Post.imp (Post.bind p) fun xs ρ1 G1 H1 s1 r1 p1 vs hvs => ?_⟩
    cases e : grounds xs with
    | none => simp only [e] at p1; exact p1.elim
    | some ts =>
      simp only [e] at p1
      have hr := hvs.ground e
      split at p1
      · rename_i hl
        exact ⟨by rw [hr.len]; exact line_of hl, fun q hq => fin_out r1 (.refl _) p1 q vs _ (Same.fresh_up hq) hq upd_same hr⟩
      · exact p1.elim⟩
theorem e_lst {es : List Expr} {f : AF} (h : AX X D φ W es f) : EX X D φ W (.List es pos) (eLst f) :=
  ⟨pe_mono (pe_lst h.pa) fun σ H Q ⟨G, ρ, rl, p⟩ => by
    refine ⟨G, ρ, rl, Post.imp (Post.bind p) fun xs ρ1 G1 H1 s1 r1 p1 vs hvs => ?_⟩
    cases e : grounds xs with
    | none => simp only [e] at p1; exact p1.elim
    | some ts =>
      simp only [e] at p1
      have hr := hvs.ground e
      split at p1
      · rename_i hl
        exact ⟨by rw [hr.len]; exact line_of hl, fun q hq => fin_out r1 (.refl _) p1 q vs _ (Same.fresh_up hq) hq upd_same hr⟩
      · exact p1.elim⟩

/-! ### tests -/
def tOf (f : EF) : TF := fun ρ => (f ρ).bind fun x ρ1 => match x with | .val (.bl b) => .ok b ρ1 | _ => .bad
def tNot (g : TF) : TF := fun ρ => (g ρ).bind fun b ρ1 => .ok (!b) ρ1
def tAnd (g k : TF) : TF := fun ρ => (g ρ).bind fun b ρ1 => if b = true then k ρ1 else .ok false ρ1
def tOr (g k : TF) : TF := fun ρ => (g ρ).bind fun b ρ1 => if b = true then .ok true ρ1 else k ρ1
variable {ga gb : TF}
theorem rd_of {σ : L2.St} {H : Hp} {Q : Bool → Hp → Prop} (h : rdT D φ W (tOf fa) σ H Q) : rdE D φ W fa σ H fun x H' => ∃ k, x = .bl k ∧ Q k H' := by
  obtain ⟨G, ρ, rl, p⟩ := h
  refine ⟨G, ρ, rl, Post.imp (Post.bind p) fun x ρ1 G1 H1 s1 r1 p1 v hv => ?_⟩
  cases x with
  | own xs => exact p1.elim
  | pk i => exact p1.elim
  | val t =>
    cases t with
    | bl b => cases (show v = .bl b from hv); exact ⟨b, rfl, p1 G1 H1 (.refl _) r1⟩
    | _ => exact p1.elim
theorem t_val (h : EX X D φ W e fa) (he : ∀ whole, isTrue e X.env whole = (do let v ← whole; standAt e.pos; holding [v] (truthy v)) := by intro _; rfl) : TX X D φ W e (tOf fa) := ⟨pt_mono (pt_val h.pe he) fun _ _ _ h => rd_of h⟩
theorem t_cmp {op : CmpOp} {r : R2} {g : T → T → Out} (ho : OpR X (compareOp op) r) (os : Op2 D r g) (ha : EX X D φ W a fa) (hb : EX X D φ W b fb) (hm : behindInMarks op b = false := by rfl) : TX X D φ W (.Compare a [op] [b] pos) (tOf (e2 g fa fb)) :=
  ⟨pt_mono (pt_cmpR ho ha.pe hb.pe hm) fun _ _ _ h => two (r := fun x y H Q => r x y H Q) os (rd_of h)⟩
theorem t_not (h : TX X D φ W a ga) : TX X D φ W (.UnaryOp .Not a pos) (tNot ga) := ⟨pt_mono (pt_not h.pt) fun σ H Q ⟨G, ρ, rl, p⟩ => ⟨G, ρ, rl, Post.imp (Post.bind p) fun b ρ1 G1 H1 s1 r1 p1 => p1 G1 H1 (.refl _) r1⟩⟩
theorem t_w (h : TW X D φ W e ga) : TX X D φ W e ga := ⟨h.pw.pt⟩
theorem w_and1 (h : TX X D φ W a ga) : TW X D φ W (.BoolOp .And [a] pos) ga := ⟨pw_and1 h.pt⟩
theorem w_or1 (h : TX X D φ W a ga) : TW X D φ W (.BoolOp .Or [a] pos) ga := ⟨pw_or1 h.pt⟩
theorem w_and {rest : List Expr} (h : TX X D φ W a ga) (k : TW X D φ W (.BoolOp .And (b :: rest) pos) gb) : TW X D φ W (.BoolOp .And (a :: b :: rest) pos) (tAnd ga gb) := ⟨pw_mono (pw_and h.pt k.pw) fun σ H Q ⟨G, ρ, rl, p⟩ => by
  refine ⟨G, ρ, rl, Post.imp (Post.bind p) fun c ρ1 G1 H1 s1 r1 p1 => ?_⟩
  cases c with
  | true => exact ⟨G1, ρ1, r1, p1⟩
  | false => exact p1 G1 H1 (.refl _) r1⟩
theorem w_or {rest : List Expr} (h : TX X D φ W a ga) (k : TW X D φ W (.BoolOp .Or (b :: rest) pos) gb) : TW X D φ W (.BoolOp .Or (a :: b :: rest) pos) (tOr ga gb) := ⟨pw_mono (pw_or h.pt k.pw) fun σ H Q ⟨G, ρ, rl, p⟩ => by
  refine ⟨G, ρ, rl, Post.imp (Post.bind p) fun c ρ1 G1 H1 s1 r1 p1 => ?_⟩
  cases c with
  | false => exact ⟨G1, ρ1, r1, p1⟩
  | true => exact p1 G1 H1 (.refl _) r1⟩
/-- .. as values -/
def eAnd (f g : EF) : EF := fun ρ => (f ρ).bind fun x ρ1 => match x with | .val (.bl b) => if b = true then g ρ1 else .ok (.val (.bl false)) ρ1 | _ => .bad
def eOr (f g : EF) : EF := fun ρ => (f ρ).bind fun x ρ1 => match x with | .val (.bl b) => if b = true then .ok (.val (.bl true)) ρ1 else g ρ1 | _ => .bad
def eNot (f : EF) : EF := fun ρ => (f ρ).bind fun x ρ1 => match x with | .val (.bl b) => .ok (.val (.bl (!b))) ρ1 | _ => .bad
theorem e_one {op} (h : EX X D φ W a fa) : EX X D φ W (.BoolOp op [a] pos) fa := ⟨pe_one h.pe⟩
theorem e_and {rest : List Expr} (h : EX X D φ W a fa) (k : EX X D φ W (.BoolOp .And (b :: rest) pos) fb) : EX X D φ W (.BoolOp .And (a :: b :: rest) pos) (eAnd fa fb) := ⟨pe_mono (pe_and h.pe k.pe) fun σ H Q ⟨G, ρ, rl, p⟩ => by
  refine ⟨G, ρ, rl, Post.imp (Post.bind p) fun x ρ1 G1 H1 s1 r1 p1 v hv => ?_⟩
  cases x with
  | own xs => exact p1.elim
  | pk i => exact p1.elim
  | val t =>
    cases t with
    | bl c =>
      cases (show v = .bl c from hv)
      refine ⟨c, rfl, ?_⟩
      cases c with
      | true => exact ⟨G1, ρ1, r1, p1⟩
      | false => exact p1 G1 H1 (.refl _) r1 _ rfl
    | _ => exact p1.elim⟩
theorem e_or {rest : List Expr} (h : EX X D φ W a fa) (k : EX X D φ W (.BoolOp .Or (b :: rest) pos) fb) : EX X D φ W (.BoolOp .Or (a :: b :: rest) pos) (eOr fa fb) := ⟨pe_mono (pe_or h.pe k.pe) fun σ H Q ⟨G, ρ, rl, p⟩ => by
  refine ⟨G, ρ, rl, Post.imp (Post.bind p) fun x ρ1 G1 H1 s1 r1 p1 v hv => ?_⟩
  cases x with
  | own xs => exact p1.elim
  | pk i => exact p1.elim
  | val t =>
    cases t with
    | bl c =>
      cases (show v = .bl c from hv)
      refine ⟨c, rfl, ?_⟩
      cases c with
      | false => exact ⟨G1, ρ1, r1, p1⟩
      | true => exact p1 G1 H1 (.refl _) r1 _ rfl
    | _ => exact p1.elim⟩
theorem e_not (h : EX X D φ W a fa) : EX X D φ W (.UnaryOp .Not a pos) (eNot fa) := ⟨pe_mono (pe_not h.pe) fun σ H Q ⟨G, ρ, rl, p⟩ => by
  refine ⟨G, ρ, rl, Post.imp (Post.bind p) fun x ρ1 G1 H1 s1 r1 p1 v hv => ?_⟩
  cases x with
  | own xs => exact p1.elim
  | pk i => exact p1.elim
  | val t =>
    cases t with
    | bl c => cases (show v = .bl c from hv); exact ⟨c, rfl, p1 G1 H1 (.refl _) r1 _ rfl⟩
    | _ => exact p1.elim⟩
def eIf (g : TF) (f k : EF) : EF := fun ρ => (g ρ).bind fun b ρ1 => if b = true then f ρ1 else k ρ1
theorem e_if {c : Expr} (hc : TX X D φ W c ga) (ha : EX X D φ W a fa) (hb : EX X D φ W b fb) : EX X D φ W (.IfExp c a b pos) (eIf ga fa fb) := ⟨pe_mono (pe_ifExp hc.pt ha.pe hb.pe) fun σ H Q ⟨G, ρ, rl, p⟩ => by
  refine ⟨G, ρ, rl, Post.imp (Post.bind p) fun c ρ1 G1 H1 s1 r1 p1 => ?_⟩
  cases c with
  | true => exact ⟨G1, ρ1, r1, p1⟩
  | false => exact ⟨G1, ρ1, r1, p1⟩⟩
end
end VI

set_option Elab.async false
set_option linter.all false
set_option maxRecDepth 100000
set_option maxHeartbeats 4000000
namespace VI
open PySem L2

/-! ### a def's end -/
def RepRet (D : Wd) (φ : Fr) (G H : Hp) (v : V) : EV → Prop
  | .val t => Rep D G t v
  | .own xs => ∃ a vs, v = .ref a ∧ H a = some (.lst vs) ∧ G a = none ∧ φ.H a = none ∧ Reps D G xs vs
  | .pk _ => False
structure Fin (D : Wd) (φ : Fr) (G : Hp) (ρ : Ro) (H : Hp) : Prop where
  sub : Same G H
  base : Same φ.G G
  keep : ∀ b, φ.H b ≠ none → φ.G b = none → G b = none
  frame : ∀ b o, φ.H b = some o → (∀ i, φ.io i ≠ some b) → H b = some o
  alive : ∀ b, φ.H b ≠ none → H b ≠ none
  ioL : ∀ i a xs, φ.io i = some a → ρ[i]? = some (.io xs) → ∃ vs, H a = some (.lst vs) ∧ G a = none ∧ Reps D G xs vs
  ioR : ∀ i a c ks ts, φ.io i = some a → ρ[i]? = some (.raw c ks ts) → ∃ dx fs, H a = some (.ins (D.ca c) dx fs) ∧ G a = none ∧ fs.map (·.1) = ks.map D.nm ∧ Reps D G ts (fs.map (·.2))
theorem Rel.fin {D : Wd} {φ : Fr} {G : Hp} {σ : L2.St} {ρ : Ro} {H : Hp} (r : Rel D φ G σ ρ H) : Fin D φ G ρ H := by
  refine ⟨r.sub, r.base, r.keep, r.frame, r.alive, fun i a xs h e => ?_, fun i a c ks ts h e => ?_⟩
  · obtain ⟨b, vs, _, h2, h3, h4, h5⟩ := r.slot i _ e
    rw [h] at h4; cases h4; exact ⟨vs, h2, h3, h5⟩
  · obtain ⟨b, dx, fs, _, h2, h3, h4, h5, h6⟩ := r.slot i _ e
    rw [h] at h4; cases h4; exact ⟨dx, fs, h2, h3, h5, h6⟩

def PostS (D : Wd) (φ : Fr) (W : WX) (G0 : Hp) (E : Ends) : R Fl → Prop
  | .ok .nx ρ => ∀ G σ H, Same G0 G → Rel D φ G σ ρ H → E.nx σ H
  | .ok (.rt x) ρ => ∀ v G H, Same G0 G → Fin D φ G ρ H → RepRet D φ G H v x → E.rt v H
  | .ok .bk ρ => ∀ G σ H, Same G0 G → Rel D φ G σ ρ H → E.bk σ H
  | .ok .ct ρ => ∀ G σ H, Same G0 G → Rel D φ G σ ρ H → E.ct σ H
  | .ex c ks ts ρ => ∀ cls d G σ H, Same G0 G → Rel D φ G σ ρ H → RepX D G cls d c ks ts → W cls d σ H
  | .bad => False
def rdS (D : Wd) (φ : Fr) (W : WX) (f : SF) : TS := fun E σ H => ∃ G ρ, Rel D φ G σ ρ H ∧ PostS D φ W G E (f ρ)
structure SX (X : Cx) (D : Wd) (φ : Fr) (W : WX) (st : Stmt) (f : SF) : Prop where
  ps : PS X st (rdS D φ W f)
structure BX (X : Cx) (D : Wd) (φ : Fr) (W : WX) (sts : List Stmt) (f : SF) : Prop where
  ps : PSs X sts (rdS D φ W f)
theorem ps_mono {X : Cx} {e : Stmt} {t t' : TS} (h : PS X e t) (k : ∀ E σ H, t' E σ H → t E σ H) : PS X e t' := ⟨fun pins s σ H E I q => h.run pins s σ H E I (k E σ H q)⟩
theorem pss_mono {X : Cx} {e : List Stmt} {t t' : TS} (h : PSs X e t) (k : ∀ E σ H, t' E σ H → t E σ H) : PSs X e t' := ⟨fun pins s σ H E I q => h.run pins s σ H E I (k E σ H q)⟩
theorem PostS.weak {D : Wd} {φ : Fr} {W : WX} {G0 G1 : Hp} {E : Ends} {r : R Fl} (s : Same G0 G1) (h : PostS D φ W G0 E r) : PostS D φ W G1 E r := by
  cases r with
  | ok a ρ =>
    cases a with
    | nx => exact fun G σ H q => h G σ H (s.trans q)
    | rt x => exact fun v G H q => h v G H (s.trans q)
    | bk => exact fun G σ H q => h G σ H (s.trans q)
    | ct => exact fun G σ H q => h G σ H (s.trans q)
  | ex c ks ts ρ => exact fun cls d G σ H q => h cls d G σ H (s.trans q)
  | bad => exact h
/-- an expression ahead of a statement's end -/
theorem PostS.bind {α : Type} {D : Wd} {φ : Fr} {W : WX} {G0 : Hp} {σ : L2.St} {E : Ends} {x : R α} {f : α → Ro → R Fl} (h : PostS D φ W G0 E (x.bind f)) :
    Post D φ W G0 σ (fun a ρ G _ => PostS D φ W G E (f a ρ)) x := by
  cases x with
  | ok a ρ => exact fun G H s r => PostS.weak s h
  | ex c ks ts ρ => exact fun cls d G H s r q => h cls d G σ H s r q
  | bad => exact h
theorem PostS.imp {D : Wd} {φ : Fr} {W : WX} {G0 : Hp} {E E' : Ends} {r : R Fl} (h : PostS D φ W G0 E r)
    (n : ∀ G σ ρ H, Same G0 G → Rel D φ G σ ρ H → r = .ok .nx ρ → E.nx σ H → E'.nx σ H) (t : ∀ v H, E.rt v H → E'.rt v H) (b : ∀ σ H, E.bk σ H → E'.bk σ H) (c : ∀ σ H, E.ct σ H → E'.ct σ H) : PostS D φ W G0 E' r := by
  cases r with
  | ok a ρ =>
    cases a with
    | nx => exact fun G σ H q r => n G σ ρ H q r rfl (h G σ H q r)
    | rt x => exact fun v G H q f r => t v H (h v G H q f r)
    | bk => exact fun G σ H q r => b σ H (h G σ H q r)
    | ct => exact fun G σ H q r => c σ H (h G σ H q r)
  | ex c ks ts ρ => exact h
  | bad => exact h

def sNx : SF := fun ρ => .ok .nx ρ
def sSeq (f g : SF) : SF := fun ρ => match f ρ with
  | .ok .nx ρ1 => g ρ1
  | r => r
def sExpr (f : EF) : SF := fun ρ => (f ρ).bind fun _ ρ1 => .ok .nx ρ1
def sRet (f : EF) : SF := fun ρ => (f ρ).bind fun x ρ1 => match x with
  | .val t => .ok (.rt (.val t)) ρ1
  | .own xs => .ok (.rt (.own xs)) ρ1
  | .pk i => match ρ1[i]? with
    | some (.own xs) => .ok (.rt (.own xs)) ρ1
    | _ => .bad
def sIf (g : TF) (f k : SF) : SF := fun ρ => (g ρ).bind fun b ρ1 => if b = true then f ρ1 else k ρ1
def sSet (i : Nat) (f : EF) : SF := fun ρ => (f ρ).bind fun x ρ1 => match x with
  | .val t => .ok .nx (ρ1.set i (.val t))
  | .own xs => .ok .nx (ρ1.set i (.own xs))
  | .pk _ => .bad
/-- a list that is changed no more -/
def eFrz (f : EF) : EF := fun ρ => (f ρ).bind fun x ρ1 => match x with
  | .own xs => .ok (.val (.lst xs)) ρ1
  | .val t => .ok (.val t) ρ1
  | .pk _ => .bad
section
variable {X : Cx} {D : Wd} {φ : Fr} {W : WX} {e : Expr} {fa : EF} {ga : TF} {f g : SF} {st : Stmt} {sts : List Stmt} {pos : Pos}
theorem b_nil : BX X D φ W [] sNx := ⟨pss_mono pss_nil fun E σ H ⟨G, ρ, r, p⟩ => p G σ H (.refl _) r⟩
theorem s_pass : SX X D φ W (.Pass pos) sNx := ⟨ps_mono ps_pass fun E σ H ⟨G, ρ, r, p⟩ => p G σ H (.refl _) r⟩
theorem s_break : SX X D φ W (.Break pos) (fun ρ => .ok .bk ρ) := ⟨ps_mono ps_break fun E σ H ⟨G, ρ, r, p⟩ => p G σ H (.refl _) r⟩
theorem s_continue : SX X D φ W (.Continue pos) (fun ρ => .ok .ct ρ) := ⟨ps_mono ps_continue fun E σ H ⟨G, ρ, r, p⟩ => p G σ H (.refl _) r⟩
theorem b_one (h : SX X D φ W st f) : BX X D φ W [st] f := ⟨pss_one h.ps⟩
theorem b_cons (h : SX X D φ W st f) (k : BX X D φ W sts g) : BX X D φ W (st :: sts) (sSeq f g) := ⟨pss_mono (pss_cons h.ps k.ps) fun E σ H ⟨G, ρ, r, p⟩ => by
  refine ⟨G, ρ, r, ?_⟩
  unfold sSeq at p
  split at p
  · rename_i ρ1 q
    rw [q]
    exact fun G1 σ1 H1 s1 r1 => ⟨G1, ρ1, r1, PostS.weak s1 p⟩
  · rename_i q
    cases hh : f ρ with
    | ok a ρ1 =>
      rw [hh] at p
      cases a with
      | nx => exact (q ρ1 hh).elim
      | rt x => exact p
      | bk => exact p
      | ct => exact p
    | ex c ks ts ρ1 => rw [hh] at p; exact p
    | bad => rw [hh] at p; exact p⟩
theorem s_expr (h : EX X D φ W e fa) (hs : swapsWith e none pos.line X.env = pure false := by rfl) : SX X D φ W (.Expr e pos) (sExpr fa) := ⟨ps_mono (ps_expr h.pe hs) fun E σ H ⟨G, ρ, r, p⟩ =>
  ⟨G, ρ, r, Post.imp (PostS.bind p) fun x ρ1 G1 H1 s1 r1 p1 v _ => p1 G1 σ H1 (.refl _) r1⟩⟩
theorem s_ret (h : EX X D φ W e fa) : SX X D φ W (.Return (some e) pos) (sRet fa) := ⟨ps_mono (ps_ret h.pe) fun E σ H ⟨G, ρ, r, p⟩ => by
  refine ⟨G, ρ, r, Post.imp (PostS.bind p) fun x ρ1 G1 H1 s1 r1 p1 v hv => ?_⟩
  cases x with
  | val t => exact p1 v G1 H1 (.refl _) r1.fin hv
  | own xs =>
    obtain ⟨a, vs, h1, h2, h3, h4, _, h5, _⟩ := hv
    exact p1 v G1 H1 (.refl _) r1.fin ⟨a, vs, h1, h2, h3, h4, h5⟩
  | pk i =>
    simp only at p1
    split at p1
    · rename_i xs q
      obtain ⟨a, vs, h1, h2, h3, h4, h5⟩ := r1.slot i _ q
      have hv' : σ[i]? = some (some v) := hv
      rw [h1] at hv'; cases hv'
      exact p1 _ G1 H1 (.refl _) r1.fin ⟨a, vs, rfl, h2, h3, h4, h5⟩
    · exact p1.elim⟩
theorem s_retN : SX X D φ W (.Return none pos) (fun ρ => .ok (.rt (.val .non)) ρ) := ⟨ps_mono ps_retN fun E σ H ⟨G, ρ, r, p⟩ => p .non G H (.refl _) r.fin rfl⟩
theorem s_if {c : Expr} {a b : List Stmt} (hc : TX X D φ W c ga) (ha : BX X D φ W a f) (hb : BX X D φ W b g) : SX X D φ W (.If c a b pos) (sIf ga f g) := ⟨ps_mono (ps_if hc.pt ha.ps hb.ps) fun E σ H ⟨G, ρ, r, p⟩ => by
  refine ⟨G, ρ, r, Post.imp (PostS.bind p) fun b ρ1 G1 H1 s1 r1 p1 => ?_⟩
  cases b with
  | true => exact ⟨G1, ρ1, r1, p1⟩
  | false => exact ⟨G1, ρ1, r1, p1⟩⟩

theorem getElem?_setS {σ : L2.St} {i j : Nat} {o o' : Option V} (h : (σ.set i o)[j]? = some o') : (j = i ∧ o' = o ∧ i < σ.length) ∨ (j ≠ i ∧ σ[j]? = some o') := by
  by_cases e : j = i
  · subst e
    by_cases hl : j < σ.length
    · rw [List.getElem?_set_self hl] at h; cases h; exact .inl ⟨rfl, rfl, hl⟩
    · rw [List.getElem?_eq_none (by simpa using hl)] at h; cases h
  · rw [List.getElem?_set_ne (Ne.symm e)] at h; exact .inr ⟨e, h⟩
theorem slot_ne {G H : Hp} {σ : L2.St} {i j : Nat} {o : Option V} {s : Sl} (ne : j ≠ i) (h : SlotOk D φ G σ H j s) : SlotOk D φ G (σ.set i o) H j s := by
  have q : (σ.set i o)[j]? = σ[j]? := List.getElem?_set_ne (Ne.symm ne)
  cases s <;> simp only [SlotOk, q] at h ⊢ <;> exact h
theorem MutAt.of_sets {σ : L2.St} {ρ : Ro} {i j : Nat} {a : Addr} {s : Sl} {o : Option V} (ne : j ≠ i) (m : MutAt (σ.set i o) (ρ.set i s) j a) : MutAt σ ρ j a := by
  obtain ⟨⟨s', h1, h2⟩, h3⟩ := m
  rw [List.getElem?_set_ne (Ne.symm ne)] at h1 h3
  exact ⟨⟨s', h1, h2⟩, h3⟩
/-- a slot is stored -/
theorem Rel.set {G : Hp} {σ : L2.St} {ρ : Ro} {H : Hp} (r : Rel D φ G σ ρ H) {i : Nat} {s : Sl} {o : Option V} (ok : i < ρ.length → SlotOk D φ G (σ.set i o) H i s)
    (nm : ∀ a, s.mut = true → o = some (.ref a) → (∀ j, ¬ MutAt σ ρ j a) ∧ φ.pin a = none) : Rel D φ G (σ.set i o) (ρ.set i s) H := by
  have at_i : ∀ a, MutAt (σ.set i o) (ρ.set i s) i a → s.mut = true ∧ o = some (.ref a) := fun a m => by
    obtain ⟨⟨s', h1, h2⟩, h3⟩ := m
    rcases getElem?_set_cases h1 with ⟨_, rfl, _⟩ | ⟨z, _⟩
    · rcases getElem?_setS h3 with ⟨_, e, _⟩ | ⟨z, _⟩
      · exact ⟨h2, e.symm⟩
      · exact absurd rfl z
    · exact absurd rfl z
  refine ⟨by rw [List.length_set, List.length_set]; exact r.len, r.sub, r.base, r.keep, r.alive, r.frame, fun j s' e => ?_, fun j k a m m' => ?_, r.pin, fun j a m => ?_, fun j a m => by rw [List.length_set]; exact r.ioLt j a m, r.pnOk⟩
  · rcases getElem?_set_cases e with ⟨rfl, rfl, hl⟩ | ⟨ne, e⟩
    · exact ok hl
    · exact slot_ne ne (r.slot j s' e)
  · by_cases hj : j = i
    · by_cases hk : k = i
      · rw [hj, hk]
      · subst hj
        obtain ⟨h1, h2⟩ := at_i a m
        exact ((nm a h1 h2).1 k (m'.of_sets hk)).elim
    · by_cases hk : k = i
      · subst hk
        obtain ⟨h1, h2⟩ := at_i a m'
        exact ((nm a h1 h2).1 j (m.of_sets hj)).elim
      · exact r.disj j k a (m.of_sets hj) (m'.of_sets hk)
  · by_cases hj : j = i
    · subst hj
      obtain ⟨h1, h2⟩ := at_i a m
      exact (nm a h1 h2).2
    · exact r.pinM j a (m.of_sets hj)
theorem Rel.store {G : Hp} {σ : L2.St} {ρ : Ro} {H : Hp} (r : Rel D φ G σ ρ H) {i : Nat} {v : V} {t : T} (h : Rep D G t v) : Rel D φ G (σ.set i (some v)) (ρ.set i (.val t)) H :=
  r.set (fun hl => ⟨v, List.getElem?_set_self (by rw [← r.len]; exact hl), h⟩) fun _ z => nomatch z
theorem Rel.storeOwn {G : Hp} {σ : L2.St} {ρ : Ro} {H : Hp} (r : Rel D φ G σ ρ H) {i : Nat} {v : V} {xs : List T} (h : RepV D φ G σ ρ H v (.own xs)) : Rel D φ G (σ.set i (some v)) (ρ.set i (.own xs)) H := by
  obtain ⟨a, vs, rfl, h2, h3, h4, h5, h6, h7⟩ := h
  exact r.set (fun hl => ⟨a, vs, List.getElem?_set_self (by rw [← r.len]; exact hl), h2, h3, h4, h6⟩) fun b _ e => by cases e; exact ⟨h7, h5⟩
theorem s_set {i : Nat} {x : Str} {pos' : Pos} (hN : X.N.Nodup) (hi : X.N[i]? = some x) (hx : Loc X.env.scope x) (he : EX X D φ W e fa) (hs : swapsWith e (some (.Name x pos')) pos.line X.env = pure false := by rfl)
    (hf : X.fn x = true ∨ X.env.scope.names.lookup x = some .local := by first | exact .inl rfl | exact .inr rfl | assumption) : SX X D φ W (.Assign [.Name x pos'] e pos) (sSet i fa) :=
  ⟨ps_mono (ps_set hN hi hx he.pe hs hf) fun E σ H ⟨G, ρ, r, p⟩ => by
    refine ⟨G, ρ, r, Post.imp (PostS.bind p) fun x ρ1 G1 H1 s1 r1 p1 v hv => ?_⟩
    cases x with
    | val t => exact p1 G1 _ H1 (.refl _) (r1.store hv)
    | own xs => exact p1 G1 _ H1 (.refl _) (r1.storeOwn hv)
    | pk i => exact p1.elim⟩
theorem e_frz (h : EX X D φ W e fa) : EX X D φ W e (eFrz fa) := ⟨pe_mono h.pe fun σ H Q ⟨G, ρ, r, p⟩ => by
  refine ⟨G, ρ, r, Post.imp (Post.bind p) fun x ρ1 G1 H1 s1 r1 p1 v hv => ?_⟩
  cases x with
  | val t => exact p1 G1 H1 (.refl _) r1 v hv
  | own xs =>
    obtain ⟨G2, s2, r2, hh⟩ := settle r1 hv
    exact p1 G2 H1 s2 r2 v hh
  | pk i => exact p1.elim⟩

/-! ### lists that are changed -/
def lstOf : Sl → Option (List T)
  | .own xs => some xs
  | .io xs => some xs
  | _ => none
def putL : Sl → List T → Sl
  | .own _, ys => .own ys
  | .io _, ys => .io ys
  | s, _ => s
theorem list_at {G : Hp} {σ : L2.St} {ρ : Ro} {H : Hp} (r : Rel D φ G σ ρ H) {i : Nat} {s : Sl} {xs : List T} (h : ρ[i]? = some s) (hl : lstOf s = some xs) :
    ∃ a vs, σ[i]? = some (some (.ref a)) ∧ H a = some (.lst vs) ∧ G a = none ∧ Reps D G xs vs ∧ MutAt σ ρ i a := by
  cases s with
  | own ys => cases hl; obtain ⟨a, vs, h1, h2, h3, h4, h5⟩ := r.slot i _ h; exact ⟨a, vs, h1, h2, h3, h5, ⟨_, h, rfl⟩, h1⟩
  | io ys => cases hl; obtain ⟨a, vs, h1, h2, h3, h4, h5⟩ := r.slot i _ h; exact ⟨a, vs, h1, h2, h3, h5, ⟨_, h, rfl⟩, h1⟩
  | _ => cases hl
/-- the object of a slot is changed -/
theorem Rel.change {G : Hp} {σ : L2.St} {ρ : Ro} {H : Hp} (r : Rel D φ G σ ρ H) {i : Nat} {s : Sl} {a : Addr} {o : HO} (m : MutAt σ ρ i a) (hs : s.mut = true) (ok : SlotOk D φ G σ (upd H a o) i s) : Rel D φ G σ (ρ.set i s) (upd H a o) := by
  obtain ⟨g, hne, hio⟩ := mut_at r m
  have of : ∀ j b, MutAt σ (ρ.set i s) j b → MutAt σ ρ j b := fun j b m' => by
    obtain ⟨⟨s', h1, h2⟩, h3⟩ := m'
    rcases getElem?_set_cases h1 with ⟨rfl, rfl, _⟩ | ⟨_, h1⟩
    · exact ⟨m.1, h3⟩
    · exact ⟨⟨s', h1, h2⟩, h3⟩
  have ne : ∀ b u, G b = some u → b ≠ a := fun b u e z => by subst z; rw [g] at e; cases e
  refine ⟨by rw [List.length_set]; exact r.len, fun b u e => by rw [upd_ne (ne b u e)]; exact r.sub b u e, r.base, r.keep, fun b e => ?_, fun b u e n => ?_, fun j s' e => ?_, fun j k b h1 h2 => r.disj j k b (of j b h1) (of k b h2), fun b u e => ?_, fun j b h => r.pinM j b (of j b h), fun j b h => by rw [List.length_set]; exact r.ioLt j b h, r.pnOk⟩
  · by_cases hb : b = a
    · subst hb; rw [upd_same]; simp
    · rw [upd_ne hb]; exact r.alive b e
  · have hb : b ≠ a := fun z => by
      subst z
      rcases hio with z | z
      · rw [e] at z; cases z
      · exact n i z
    rw [upd_ne hb]; exact r.frame b u e n
  · rcases getElem?_set_cases e with ⟨rfl, rfl, _⟩ | ⟨nj, e⟩
    · exact ok
    · have q := r.slot j s' e
      have far : ∀ b, MutAt σ ρ j b → b ≠ a := fun b mb z => nj (r.disj j i b mb (z ▸ m))
      cases s' with
      | no => trivial
      | val t => exact q
      | own xs => obtain ⟨b, vs, h1, h2, h3⟩ := q; exact ⟨b, vs, h1, by rw [upd_ne (far b ⟨⟨_, e, rfl⟩, h1⟩)]; exact h2, h3⟩
      | io xs => obtain ⟨b, vs, h1, h2, h3⟩ := q; exact ⟨b, vs, h1, by rw [upd_ne (far b ⟨⟨_, e, rfl⟩, h1⟩)]; exact h2, h3⟩
      | raw c ks ts => obtain ⟨b, dx, fs, h1, h2, h3⟩ := q; exact ⟨b, dx, fs, h1, by rw [upd_ne (far b ⟨⟨_, e, rfl⟩, h1⟩)]; exact h2, h3⟩
      | exn c ks ts => exact q
      | pin t => exact q
      | odc kvs => obtain ⟨b, h1, h2, h3⟩ := q; exact ⟨b, h1, by rw [upd_ne (far b ⟨⟨_, e, rfl⟩, h1⟩)]; exact h2, h3⟩
  · have hb : b ≠ a := fun z => by
      subst z
      have := r.pinM i b m
      rw [e] at this; cases this
    exact ⟨by rw [upd_ne hb]; exact (r.pin b u e).1, (r.pin b u e).2⟩
theorem Rel.changeL {G : Hp} {σ : L2.St} {ρ : Ro} {H : Hp} (r : Rel D φ G σ ρ H) {i : Nat} {s : Sl} {a : Addr} {xs ys : List T} {ws : List V} (h : ρ[i]? = some s) (hl : lstOf s = some xs) (m : MutAt σ ρ i a) (q : Reps D G ys ws) :
    Rel D φ G σ (ρ.set i (putL s ys)) (upd H a (.lst ws)) := by
  cases s with
  | own zs =>
    obtain ⟨b, vs, h1, h2, h3, h4, h5⟩ := r.slot i _ h
    have e := m.2; rw [h1] at e; cases e
    exact r.change (s := .own ys) m rfl ⟨_, ws, h1, upd_same, h3, h4, q⟩
  | io zs =>
    obtain ⟨b, vs, h1, h2, h3, h4, h5⟩ := r.slot i _ h
    have e := m.2; rw [h1] at e; cases e
    exact r.change (s := .io ys) m rfl ⟨_, ws, h1, upd_same, h3, h4, q⟩
  | _ => cases hl

/-- x[k] = e -/
def atIx (n : Nat) (k : Int) : Option Nat := if 0 ≤ k then (if k < n then some k.toNat else none) else if -(n : Int) ≤ k then some (k + n).toNat else none
theorem atIx_eq {n : Nat} {k : Int} : atIx n k = ixN n k := rfl
def ground1 : EV → Option T
  | .val t => some t
  | .own xs => some (.lst xs)
  | .pk _ => none
theorem Hld.ground {G : Hp} {σ : L2.St} {v : V} {x : EV} {t : T} (h : Hld D G σ v x) (e : ground1 x = some t) : Rep D G t v := by
  cases x with
  | val t' => cases e; exact h
  | own xs => cases e; exact h
  | pk i => cases e
def listAt (ρ : Ro) (i : Nat) : Option (List T) := ρ[i]?.bind lstOf
def putAt (ρ : Ro) (i : Nat) (ys : List T) : Ro := match ρ[i]? with
  | some s => ρ.set i (putL s ys)
  | none => ρ
theorem listAt_at {G : Hp} {σ : L2.St} {ρ : Ro} {H : Hp} (r : Rel D φ G σ ρ H) {i : Nat} {xs : List T} (h : listAt ρ i = some xs) :
    ∃ a vs, σ[i]? = some (some (.ref a)) ∧ H a = some (.lst vs) ∧ G a = none ∧ Reps D G xs vs ∧ ∀ ys ws G', Same G G' → ∀ H', Rel D φ G' σ ρ H' → H' a = some (.lst vs) → Reps D G' ys ws → Rel D φ G' σ (putAt ρ i ys) (upd H' a (.lst ws)) := by
  unfold listAt at h
  cases e : ρ[i]? with
  | none => rw [e] at h; cases h
  | some s =>
    rw [e] at h
    obtain ⟨a, vs, h1, h2, h3, h4, h5⟩ := list_at r e h
    refine ⟨a, vs, h1, h2, h3, h4, fun ys ws G' _ H' r' _ q => ?_⟩
    unfold putAt; rw [e]
    exact r'.changeL e h h5 q
def sSub (i : Nat) (fe fi : EF) : SF := fun ρ => (fe ρ).bind fun x ρ1 => match listAt ρ1 i with
  | none => .bad
  | some _ => (fi ρ1).bind fun y ρ2 => match ground1 x, deref ρ2 y, listAt ρ2 i with
    | some t, some (.int k), some xs => (match atIx xs.length k with
      | some n => .ok .nx (putAt ρ2 i (xs.set n t))
      | none => .bad)
    | _, _, _ => .bad
theorem s_sub {i : Nat} {o ix e : Expr} {fe fi : EF} {pt : Pos} (he : EX X D φ W e fe) (ho : PE X o (tVar i)) (hi : EX X D φ W ix fi)
    (ha : ∀ v, assign (.Subscript o ix pt) X.env v = (do
      let ov ← holding [v] (eval o X.env)
      let iv ← holding [v, ov] (eval ix X.env)
      standAt pt
      holding [v, ov, iv] (setItem ov iv v)
      release [v, ov, iv] []) := by intro _; rfl) (hs : swapsWithSole [.Subscript o ix pt] e pos.line X.env = pure false := by rfl) (hw : swappedStores [.Subscript o ix pt] e X.env = pure none := by rfl)
    (h1 : (assignEach [.Subscript o ix pt] X.env).map (·.2) = [assign (.Subscript o ix pt) X.env] := by rfl) : SX X D φ W (.Assign [.Subscript o ix pt] e pos) (sSub i fe fi) :=
  ⟨ps_mono (ps_asg he.pe (pg_sub ho hi.pe set_list ha) hs hw h1) fun E σ H ⟨G, ρ, r, p⟩ => by
    refine ⟨G, ρ, r, Post.imp (PostS.bind p) fun x ρ1 G1 H1 s1 r1 p1 v hv => ?_⟩
    obtain ⟨G2, s2, r2, hh⟩ := settle r1 hv
    have p2 := PostS.weak s2 p1
    cases e1 : listAt ρ1 i with
    | none => rw [e1] at p2; exact p2.elim
    | some xs0 =>
      rw [e1] at p2
      obtain ⟨a, vs0, h1, _⟩ := listAt_at r2 e1
      refine ⟨_, h1, G2, ρ1, r2, Post.imp (PostS.bind p2) fun y ρ2 G3 H3 s3 r3 p3 w hw => ?_⟩
      obtain ⟨G4, s4, r4, hw'⟩ := settle r3 hw
      have p4 := PostS.weak s4 p3
      cases e2 : ground1 x with
      | none => simp only [e2] at p4; exact p4.elim
      | some t =>
        cases e3 : deref ρ2 y with
        | none => simp only [e2, e3] at p4; exact p4.elim
        | some u =>
          cases e4 : listAt ρ2 i with
          | none => cases u <;> (simp only [e2, e3, e4] at p4; exact p4.elim)
          | some xs =>
            cases u with
            | int k =>
              simp only [e2, e3, e4] at p4
              cases e5 : atIx xs.length k with
              | none => simp only [e5] at p4; exact p4.elim
              | some n =>
                simp only [e5] at p4
                obtain ⟨a', vs, g1, g2, g3, g4, g5⟩ := listAt_at r4 e4
                rw [h1] at g1; cases g1
                have hx := (hh.mono (s3.trans s4)).ground e2
                cases (show w = .int k from hw'.use r4 e3)
                exact ⟨a, vs, k, n, rfl, rfl, g2, by rw [g4.len]; exact e5, p4 G4 σ _ (.refl _) (g5 _ _ _ (.refl _) _ r4 g2 (g4.set hx n))⟩
            | _ => simp only [e2, e3, e4] at p4; exact p4.elim⟩

/-- x.m(e, ..): a method that changes the list -/
def OpM (D : Wd) (r : V → List V → Hp → VK → Prop) (g : List T → List T → Option (List T × T)) : Prop :=
  ∀ (G H : Hp) (a : Addr) (vs ys : List V) (xs ts xs' : List T) (t : T) (Q : VK), H a = some (.lst vs) → Same G H → Reps D G xs vs → Reps D G ts ys → g xs ts = some (xs', t) → (∀ vs' v, Reps D G xs' vs' → Rep D G t v → Q v (upd H a (.lst vs'))) → r (.ref a) ys H Q
def eBmM (i : Nat) (g : List T → List T → Option (List T × T)) (fa : AF) : EF := fun ρ => match listAt ρ i with
  | none => .bad
  | some _ => (fa ρ).bind fun ys ρ1 => match grounds ys, listAt ρ1 i with
    | some ts, some xs => (match g xs ts with
      | some p => .ok (.val p.2) (putAt ρ1 i p.1)
      | none => .bad)
    | _, _ => .bad
theorem bm_rd {i : Nat} {fa : AF} {g : List T → List T → Option (List T × T)} {r : V → List V → Hp → VK → Prop} (os : OpM D r g) {σ : L2.St} {H : Hp} {Q : VK} (h : rdE D φ W (eBmM i g fa) σ H Q) :
    tVar i σ H fun x H1 => tyV D.K "list" x H1 ∧ rdA D φ W fa σ H1 fun ys H2 => r x ys H2 Q := by
  obtain ⟨G, ρ, rl, p⟩ := h
  unfold eBmM at p
  cases e1 : listAt ρ i with
  | none => rw [e1] at p; exact p.elim
  | some xs0 =>
    rw [e1] at p
    obtain ⟨a, vs0, h1, h2, _⟩ := listAt_at rl e1
    refine ⟨_, h1, Or.inl ⟨rfl, _, Or.inl (Or.inl h2)⟩, G, ρ, rl, Post.imp (Post.bind p) fun ys ρ1 G1 H1 s1 r1 p1 vs hvs => ?_⟩
    cases e2 : grounds ys with
    | none => simp only [e2] at p1; exact p1.elim
    | some ts =>
      cases e3 : listAt ρ1 i with
      | none => simp only [e2, e3] at p1; exact p1.elim
      | some xs =>
        simp only [e2, e3] at p1
        cases e4 : g xs ts with
        | none => simp only [e4] at p1; exact p1.elim
        | some q =>
          simp only [e4] at p1
          obtain ⟨a', ws, g1, g2, g3, g4, g5⟩ := listAt_at r1 e3
          rw [h1] at g1; cases g1
          exact os G1 H1 a ws vs xs ts q.1 q.2 Q g2 r1.sub g4 (hvs.ground e2) e4 fun vs' v hv' ht => p1 G1 _ (.refl _) (g5 _ _ _ (.refl _) _ r1 g2 hv') v ht
theorem e_bmM {i : Nat} {o e : Expr} {es : List Expr} {nm : Str} {id : String} {r : V → List V → Hp → VK → Prop} {g : List T → List T → Option (List T × T)} {fa : AF} {apos : Pos} (h : PE X (.Call (.Attribute o nm apos) es [] pos) (tBM D.K "list" r (tVar i) (rdA D φ W fa))) (os : OpM D r g) :
    EX X D φ W (.Call (.Attribute o nm apos) es [] pos) (eBmM i g fa) := ⟨pe_mono h fun _ _ _ h => bm_rd os h⟩
theorem e_bmM0 {i : Nat} {o : Expr} {nm : Str} {r : V → List V → Hp → VK → Prop} {g : List T → List T → Option (List T × T)} {apos : Pos} (h : PE X (.Call (.Attribute o nm apos) [] [] pos) (tBM0 D.K "list" r (tVar i))) (os : OpM D r g) :
    EX X D φ W (.Call (.Attribute o nm apos) [] [] pos) (eBmM i g aNil) := ⟨pe_mono h fun σ H Q h => by
  obtain ⟨v, h1, h2, G, ρ, rl, p⟩ := bm_rd os h
  exact ⟨v, h1, h2, p G H (.refl _) rl [] .nil⟩⟩
end
end VI

set_option Elab.async false
set_option linter.all false
set_option maxRecDepth 100000
set_option maxHeartbeats 4000000
namespace VI
open PySem L2

/-! ### targets -/
def Agr (ix : List Nat) (σ σ' : L2.St) : Prop := σ'.length = σ.length ∧ ∀ j, j ∉ ix → σ'[j]? = σ[j]?
theorem Agr.refl (ix : List Nat) (σ : L2.St) : Agr ix σ σ := ⟨rfl, fun _ _ => rfl⟩
theorem Agr.trans {ix : List Nat} {σ σ' σ'' : L2.St} (a : Agr ix σ σ') (b : Agr ix σ' σ'') : Agr ix σ σ'' := ⟨b.1.trans a.1, fun j h => (b.2 j h).trans (a.2 j h)⟩
def rdG (D : Wd) (φ : Fr) (ix : List Nat) (g : T → Ro → Option Ro) : TG := fun v σ H Q => ∃ G ρ t, Rel D φ G σ ρ H ∧ Rep D G t v ∧ ∃ ρ', g t ρ = some ρ' ∧ ∀ σ', Agr ix σ σ' → Rel D φ G σ' ρ' H → Q σ' H
structure GX (X : Cx) (D : Wd) (φ : Fr) (ix : List Nat) (tg : Expr) (g : T → Ro → Option Ro) : Prop where
  pg : PG X tg (rdG D φ ix g)
def rdGs (D : Wd) (φ : Fr) (ix : List Nat) (g : List T → Ro → Option Ro) : TGs := fun vs σ H Q => ∃ G ρ ts, Rel D φ G σ ρ H ∧ Reps D G ts vs ∧ ∃ ρ', g ts ρ = some ρ' ∧ ∀ σ', Agr ix σ σ' → Rel D φ G σ' ρ' H → Q σ' H
structure GsX (X : Cx) (D : Wd) (φ : Fr) (ix : List Nat) (tgs : List Expr) (g : List T → Ro → Option Ro) : Prop where
  pgs : PGs X tgs (rdGs D φ ix g)
theorem pg_mono {X : Cx} {e : Expr} {t t' : TG} (h : PG X e t) (k : ∀ v σ H Q, t' v σ H Q → t v σ H Q) : PG X e t' := ⟨fun pins s σ H v u Q I r q => h.run pins s σ H v u Q I r (k v σ H Q q)⟩
theorem pgs_mono {X : Cx} {e : List Expr} {t t' : TGs} (h : PGs X e t) (k : ∀ v σ H Q, t' v σ H Q → t v σ H Q) : PGs X e t' := ⟨fun pins s σ H v u Q I r q => h.run pins s σ H v u Q I r (k v σ H Q q)⟩
def gNm (i : Nat) : T → Ro → Option Ro := fun t ρ => some (ρ.set i (.val t))
def gsNil : List T → Ro → Option Ro := fun ts ρ => match ts with | [] => some ρ | _ => none
def gsCons (g : T → Ro → Option Ro) (k : List T → Ro → Option Ro) : List T → Ro → Option Ro := fun ts ρ => match ts with | t :: r => (g t ρ).bind (k r) | [] => none
def gTp (n : Nat) (g : List T → Ro → Option Ro) : T → Ro → Option Ro := fun t ρ => match t with | .tup ts => if ts.length = n then g ts ρ else none | _ => none
section
variable {X : Cx} {D : Wd} {φ : Fr} {W : WX} {e : Expr} {fa : EF} {ga : TF} {f : SF} {st : Stmt} {sts : List Stmt} {pos : Pos} {ix : List Nat}
theorem g_nm {i : Nat} {x : Str} (hix : i ∈ ix) (hN : X.N.Nodup) (hi : X.N[i]? = some x) (hx : Loc X.env.scope x) (hf : X.fn x = true ∨ X.env.scope.names.lookup x = some .local := by first | exact .inl rfl | exact .inr rfl | assumption) : GX X D φ ix (.Name x pos) (gNm i) :=
  ⟨pg_mono (pg_name hN hi hx hf) fun v σ H Q ⟨G, ρ, t, r, h, ρ', e, k⟩ => by cases e; exact k _ ⟨by rw [List.length_set], fun j hj => List.getElem?_set_ne (fun z : i = j => hj (by rw [← z]; exact hix))⟩ (r.store h)⟩
theorem gs_nil : GsX X D φ ix [] gsNil := ⟨pgs_mono pgs_nil fun vs σ H Q ⟨G, ρ, ts, r, h, ρ', e, k⟩ => by
  cases ts with
  | nil => cases e; cases h; exact ⟨rfl, k _ (.refl _ _) r⟩
  | cons t ts => cases e⟩
theorem gs_cons {es : List Expr} {g : T → Ro → Option Ro} {k : List T → Ro → Option Ro} (h1 : GX X D φ ix e g) (h2 : GsX X D φ ix es k) (hs : (assignEach (e :: es) X.env).map (·.2) = assign e X.env :: (assignEach es X.env).map (·.2) := by rfl) : GsX X D φ ix (e :: es) (gsCons g k) :=
  ⟨pgs_mono (pgs_cons h1.pg h2.pgs hs) fun vs σ H Q ⟨G, ρ, ts, r, h, ρ', e, kk⟩ => by
    cases ts with
    | nil => cases e
    | cons t ts =>
      obtain ⟨v, vr, rfl, h1, h2⟩ := h
      simp only [gsCons] at e
      cases e1 : g t ρ with
      | none => rw [e1] at e; cases e
      | some ρ1 =>
        rw [e1] at e
        exact ⟨v, vr, rfl, G, ρ, t, r, h1, ρ1, e1, fun σ1 a1 r1 => ⟨G, ρ1, ts, r1, h2, ρ', e, fun σ2 a2 r2 => kk σ2 (a1.trans a2) r2⟩⟩⟩
theorem g_tp {es : List Expr} {k n : Nat} {g : List T → Ro → Option Ro} (hc : X.calm = true) (h : GsX X D φ ix es g) (hn : (assignEach es X.env).length = n := by rfl) (hst : (assignEach es X.env).findIdx? (·.1) = none := by rfl) (hK : X.K = D.K := by rfl) : GX X D φ ix (.Tuple es k pos) (gTp n g) :=
  ⟨pg_mono (pg_tup hc h.pgs hn hst) fun v σ H Q ⟨G, ρ, t, r, hv, ρ', e, kk⟩ => by
    cases t with
    | tup ts =>
      obtain ⟨a, vs, rfl, h1, h2⟩ := hv
      simp only [gTp] at e
      split at e
      · rename_i hl
        refine ⟨a, vs, rfl, by rw [hK]; exact same_t r.sub h1, by rw [h2.len]; exact hl, G, ρ, ts, r, h2, ρ', e, kk⟩
      · cases e
    | _ => cases e⟩

/-- target = e -/
def sAsg (g : T → Ro → Option Ro) (f : EF) : SF := fun ρ => (f ρ).bind fun x ρ1 => match ground1 x with
  | some t => (match g t ρ1 with | some ρ2 => .ok .nx ρ2 | none => .bad)
  | none => .bad
theorem s_asg {tg : Expr} {g : T → Ro → Option Ro} (he : EX X D φ W e fa) (hg : GX X D φ ix tg g) (hs : swapsWithSole [tg] e pos.line X.env = pure false := by rfl) (hw : swappedStores [tg] e X.env = pure none := by rfl)
    (h1 : (assignEach [tg] X.env).map (·.2) = [assign tg X.env] := by rfl) : SX X D φ W (.Assign [tg] e pos) (sAsg g fa) :=
  ⟨ps_mono (ps_asg he.pe hg.pg hs hw h1) fun E σ H ⟨G, ρ, r, p⟩ => by
    refine ⟨G, ρ, r, Post.imp (PostS.bind p) fun x ρ1 G1 H1 s1 r1 p1 v hv => ?_⟩
    obtain ⟨G2, s2, r2, hh⟩ := settle r1 hv
    have p2 := PostS.weak s2 p1
    cases e1 : ground1 x with
    | none => simp only [e1] at p2; exact p2.elim
    | some t =>
      simp only [e1] at p2
      cases e2 : g t ρ1 with
      | none => simp only [e2] at p2; exact p2.elim
      | some ρ2 => simp only [e2] at p2; exact ⟨G2, ρ1, t, r2, hh.ground e1, ρ2, e2, fun σ' _ r' => p2 G2 σ' H1 (.refl _) r'⟩⟩

/-! ### what is walked -/
structure YOk (D : Wd) (φ : Fr) (G0 : Hp) (t : T) (H : Hp) (x : V) (H' : Hp) : Prop where
  to : ∀ G σ ρ, Same G0 G → Rel D φ G σ ρ H → ∃ G', Same G G' ∧ Rel D φ G' σ ρ H' ∧ Rep D G' t x
/-- J gives the items ts -/
def PinUp (φ φ' : Fr) : Prop := ∀ i a o, φ.pn i = some a → φ.pin a = some o → φ'.pin a = some o
theorem PinUp.refl (φ : Fr) : PinUp φ φ := fun _ _ _ _ h => h
def ItOk (D : Wd) (φ : Fr) (G0 : Hp) (J : It) (ts : List T) : Prop :=
  ∃ (Gp : Hp → Prop) (Y : Nat → Hp → V → Hp → Prop), Walk J ts.length Gp Y ∧ (∀ φ' G σ ρ H, PinUp φ φ' → Same G0 G → Rel D φ' G σ ρ H → Gp H) ∧
    ∀ i H x H' t, ts[i]? = some t → Same G0 H → Y i H x H' → (∀ φ : Fr, YOk D φ G0 t H x H') ∧ Same H H'
def rdI (D : Wd) (φ : Fr) (W : WX) (f : Ro → R (List T)) : TI := fun σ H S => ∃ G ρ, Rel D φ G σ ρ H ∧ Post D φ W G σ (fun ts ρ G H => ∀ J G', Same G G' → Rel D φ G' σ ρ H → ItOk D φ G' J ts → S J H) (f ρ)
structure IX (X : Cx) (D : Wd) (φ : Fr) (W : WX) (tg iter : Expr) (f : Ro → R (List T)) : Prop where
  pi : PI X tg iter (rdI D φ W f)
theorem pi_mono {X : Cx} {tg e : Expr} {t t' : TI} (h : PI X tg e t) (k : ∀ σ H Q, t' σ H Q → t σ H Q) : PI X tg e t' := ⟨fun pins s σ H Q I q => h.run pins s σ H Q I (k σ H Q q)⟩
/-- items that stand frozen -/
theorem yok_at {G0 : Hp} {t : T} {x : V} {H : Hp} (h : Rep D G0 t x) (φ : Fr) : YOk D φ G0 t H x H := ⟨fun G σ ρ s r => ⟨G, .refl _, r, h.mono s⟩⟩
theorem itok_list {G0 : Hp} {a : Addr} {vs : List V} {ts : List T} (h : SqL D.K G0 a vs) (r : Reps D G0 ts vs) : ItOk D φ G0 (Itl D.K a) ts := by
  refine ⟨_, _, r.len ▸ walk_list (xs := vs), fun _ G σ ρ H _ s r => same_l (s.trans r.sub) h, fun i H x H' t e s y => ?_⟩
  obtain ⟨rfl, hx⟩ := y
  obtain ⟨v, h1, h2⟩ := r.get e
  rw [hx] at h1; cases h1
  exact ⟨yok_at h2, .refl _⟩
theorem itok_tup {G0 : Hp} {a : Addr} {vs : List V} {ts : List T} (h : SqT D.K G0 a vs) (r : Reps D G0 ts vs) : ItOk D φ G0 (Itt D.K a) ts := by
  refine ⟨_, _, r.len ▸ walk_tup (xs := vs), fun _ G σ ρ H _ s r => same_t (s.trans r.sub) h, fun i H x H' t e s y => ?_⟩
  obtain ⟨rfl, hx⟩ := y
  obtain ⟨v, h1, h2⟩ := r.get e
  rw [hx] at h1; cases h1
  exact ⟨yok_at h2, .refl _⟩
def rangeT (lo : Int) (n : Nat) : List T := (List.range n).map fun (i : Nat) => T.int (lo + (i : Int))
theorem itok_range {G0 : Hp} (lo : Int) (n : Nat) : ItOk D φ G0 (Itr lo n) (rangeT lo n) := by
  have hn : (rangeT lo n).length = n := by simp [rangeT]
  refine ⟨_, _, by rw [hn]; exact walk_range, fun _ _ _ _ _ _ _ _ => trivial, fun i H x H' t e s y => ?_⟩
  obtain ⟨rfl, rfl⟩ := y
  simp only [rangeT, List.getElem?_map] at e
  have hi : i < n := by
    have := (List.getElem?_eq_some_iff.mp (show (rangeT lo n)[i]? = some t by simp only [rangeT, List.getElem?_map]; exact e)).1
    omega
  rw [List.getElem?_range hi] at e
  cases e
  exact ⟨yok_at rfl, .refl _⟩

theorem itok_pin {G0 : Hp} {a : Addr} {vs : List V} {ts : List T} {k : Nat} (hk : φ.pn k = some a) (h : φ.pin a = some (.lst vs)) (r : Reps D G0 ts vs) : ItOk D φ G0 (Itl D.K a) ts := by
  refine ⟨_, _, r.len ▸ walk_list (xs := vs), fun φ' G σ ρ H u s q => .of (q.pin a _ (u k a _ hk h)).1, fun i H x H' t e s y => ?_⟩
  obtain ⟨rfl, hx⟩ := y
  obtain ⟨v, h1, h2⟩ := r.get e
  rw [hx] at h1; cases h1
  exact ⟨yok_at h2, .refl _⟩
/-- frozen, or pinned -/
def still (ρ : Ro) : EV → Option T
  | .val t => some t
  | .own xs => some (.lst xs)
  | .pk i => match ρ[i]? with
    | some (.pin t) => some t
    | _ => none
def iSeq (fa : EF) : Ro → R (List T) := fun ρ => (fa ρ).bind fun x ρ1 => match still ρ1 x with
  | some (.lst ts) => .ok ts ρ1
  | some (.sq ts) => .ok ts ρ1
  | _ => .bad
theorem still_lst {G : Hp} {σ : L2.St} {ρ : Ro} {H : Hp} (r : Rel D φ G σ ρ H) {v : V} {x : EV} {ts : List T} (h : Hld D G σ v x) (e : still ρ x = some (.lst ts)) :
    ∃ a vs, v = .ref a ∧ H a = some (.lst vs) ∧ Reps D G ts vs ∧ ItOk D φ G (Itl D.K a) ts := by
  cases x with
  | val t => cases e; obtain ⟨a, vs, rfl, h1, h2⟩ := h; exact ⟨a, vs, rfl, r.sub _ _ h1, h2, itok_list (.of h1) h2⟩
  | own xs => cases e; obtain ⟨a, vs, rfl, h1, h2⟩ := h; exact ⟨a, vs, rfl, r.sub _ _ h1, h2, itok_list (.of h1) h2⟩
  | pk i =>
    simp only [still] at e
    split at e
    · rename_i t q
      cases e
      obtain ⟨a, o, h1, h0, h2, h3⟩ := r.slot i _ q
      obtain ⟨vs, rfl, h4⟩ := h3
      have h' : σ[i]? = some (some v) := h
      rw [h1] at h'; cases h'
      exact ⟨a, vs, rfl, (r.pin a _ h2).1, h4, itok_pin h0 h2 h4⟩
    · cases e
theorem still_sq {G : Hp} {σ : L2.St} {ρ : Ro} {H : Hp} (r : Rel D φ G σ ρ H) {v : V} {x : EV} {ts : List T} (h : Hld D G σ v x) (e : still ρ x = some (.sq ts)) : Rep D G (.sq ts) v := by
  cases x with
  | val t => cases e; exact h
  | own xs => cases e
  | pk i =>
    simp only [still] at e
    split at e
    · rename_i t q
      cases e
      obtain ⟨a, o, h1, _, h2, h3⟩ := r.slot i _ q
      exact h3.elim
    · cases e
def iTupl (fa : EF) : Ro → R (List T) := fun ρ => (fa ρ).bind fun x ρ1 => match ground1 x with
  | some (.tup ts) => .ok ts ρ1
  | _ => .bad
theorem i_list (he : EX X D φ W e fa) (hK : X.K = D.K := by rfl) {tg : Expr} : IX X D φ W tg e (iSeq fa) := ⟨pi_mono (pi_list he.pe) fun σ H S ⟨G, ρ, r, p⟩ => by
  refine ⟨G, ρ, r, Post.imp (Post.bind p) fun x ρ1 G1 H1 s1 r1 p1 v hv => ?_⟩
  obtain ⟨G2, s2, r2, hh⟩ := settle r1 hv
  split at p1
  · rename_i ts e1
    obtain ⟨a, vs, rfl, h1, h2, h3⟩ := still_lst r2 hh e1
    exact ⟨a, rfl, ⟨vs, by rw [hK]; exact .of h1⟩, by rw [hK]; exact p1 G1 H1 (.refl _) r1 _ G2 s2 r2 h3⟩
  · rename_i ts e1
    obtain ⟨a, vs, rfl, h1, h2⟩ := still_sq r2 hh e1
    exact ⟨a, rfl, ⟨vs, by rw [hK]; exact same_l r2.sub h1⟩, by rw [hK]; exact p1 G1 H1 (.refl _) r1 _ G2 s2 r2 (itok_list h1 h2)⟩
  · exact p1.elim⟩
theorem i_tup (he : EX X D φ W e fa) (hK : X.K = D.K := by rfl) {tg : Expr} : IX X D φ W tg e (iTupl fa) := ⟨pi_mono (pi_tup he.pe) fun σ H S ⟨G, ρ, r, p⟩ => by
  refine ⟨G, ρ, r, Post.imp (Post.bind p) fun x ρ1 G1 H1 s1 r1 p1 v hv => ?_⟩
  obtain ⟨G2, s2, r2, hh⟩ := settle r1 hv
  cases e1 : ground1 x with
  | none => simp only [e1] at p1; exact p1.elim
  | some t =>
    have hg := hh.ground e1
    cases t with
    | tup ts =>
      simp only [e1] at p1
      obtain ⟨a, vs, rfl, h1, h2⟩ := hg
      exact ⟨a, rfl, ⟨vs, by rw [hK]; exact same_t r2.sub h1⟩, by rw [hK]; exact p1 G1 H1 (.refl _) r1 _ G2 s2 r2 (itok_tup h1 h2)⟩
    | _ => simp only [e1] at p1; exact p1.elim⟩
def iRange1 (fa : AF) : Ro → R (List T) := fun ρ => (fa ρ).bind fun xs ρ1 => match derefs ρ1 xs with
  | some [.int j] => if -(2 ^ 62) ≤ j ∧ j < 2 ^ 62 then .ok (rangeT 0 j.toNat) ρ1 else .bad
  | _ => .bad
def iRange2 (fa : AF) : Ro → R (List T) := fun ρ => (fa ρ).bind fun xs ρ1 => match derefs ρ1 xs with
  | some [.int i, .int j] => if -(2 ^ 62) ≤ i ∧ i < 2 ^ 62 ∧ -(2 ^ 62) ≤ j ∧ j < 2 ^ 62 then .ok (rangeT i (j - i).toNat) ρ1 else .bad
  | _ => .bad
theorem RepUs.nil_of {G H : Hp} {vs : List V} (h : RepUs D G H [] vs) : vs = [] := by cases h; rfl
theorem RepUs.cons_of {G H : Hp} {t : T} {ts : List T} {vs : List V} (h : RepUs D G H (t :: ts) vs) : ∃ v r, vs = v :: r ∧ RepU D G H t v ∧ RepUs D G H ts r := by cases h with | cons a b => exact ⟨_, _, rfl, a, b⟩
theorem i_range1 {fa : AF} {a : Expr} {p : Pos} {tg : Expr} (hg : Gl X "range") (hm : X.mg "range" = none) (ha : AX X D φ W [a] fa) (hs : starEach [a] X.env = [(false, eval a X.env)] := by rfl) : IX X D φ W tg (.Call (.Name "range" p) [a] [] pos) (iRange1 fa) :=
  ⟨pi_mono (pi_range1 hg hm ha.pa hs) fun σ H S ⟨G, ρ, r, p⟩ => by
    refine ⟨G, ρ, r, Post.imp (Post.bind p) fun x ρ1 G1 H1 s1 r1 p1 vs hvs => ?_⟩
    split at p1
    · rename_i j e
      split at p1
      · rename_i hj
        obtain ⟨v, r', rfl, h1, h2⟩ := (hvs.use r1 e).cons_of
        cases h2.nil_of
        cases (show v = .int j from h1)
        exact ⟨j, rfl, hj.1, hj.2, p1 G1 H1 (.refl _) r1 _ G1 (.refl _) r1 (itok_range 0 _)⟩
      · exact p1.elim
    · exact p1.elim⟩
theorem i_range2 {fa : AF} {a b : Expr} {p : Pos} {tg : Expr} (hg : Gl X "range") (hm : X.mg "range" = none) (ha : AX X D φ W [a, b] fa) (hs : starEach [a, b] X.env = [(false, eval a X.env), (false, eval b X.env)] := by rfl) (hs2 : starEach [b] X.env = [(false, eval b X.env)] := by rfl) : IX X D φ W tg (.Call (.Name "range" p) [a, b] [] pos) (iRange2 fa) :=
  ⟨pi_mono (pi_range2 hg hm ha.pa hs hs2) fun σ H S ⟨G, ρ, r, p⟩ => by
    refine ⟨G, ρ, r, Post.imp (Post.bind p) fun x ρ1 G1 H1 s1 r1 p1 vs hvs => ?_⟩
    split at p1
    · rename_i i j e
      split at p1
      · rename_i hj
        obtain ⟨v, r', rfl, h1, h2⟩ := (hvs.use r1 e).cons_of
        obtain ⟨w, r'', rfl, h3, h4⟩ := h2.cons_of
        cases h4.nil_of
        cases (show v = .int i from h1)
        cases (show w = .int j from h3)
        exact ⟨i, j, rfl, hj, p1 G1 H1 (.refl _) r1 _ G1 (.refl _) r1 (itok_range i _)⟩
      · exact p1.elim
    · exact p1.elim⟩
/-- enumerate(list) -/
def enumT (k : Nat) : List T → List T
  | [] => []
  | t :: ts => .tup [.int k, t] :: enumT (k + 1) ts
theorem enumT_len : ∀ (k : Nat) (ts : List T), (enumT k ts).length = ts.length
  | _, [] => rfl
  | k, _ :: ts => by simp [enumT, enumT_len (k + 1) ts]
theorem enumT_get : ∀ (k : Nat) (ts : List T) (i : Nat) (t : T), (enumT k ts)[i]? = some t → ∃ u, ts[i]? = some u ∧ t = .tup [.int ((k + i : Nat)), u]
  | _, [], i, t, h => by simp [enumT] at h
  | k, a :: ts, 0, t, h => by simp [enumT] at h; exact ⟨a, rfl, h.symm⟩
  | k, a :: ts, i + 1, t, h => by
    obtain ⟨u, h1, h2⟩ := enumT_get (k + 1) ts i t (by simpa [enumT] using h)
    exact ⟨u, by simpa using h1, by rw [h2, show k + 1 + i = k + (i + 1) by omega]⟩
theorem yok_pair {G0 : Hp} {t u : T} {x y : V} {p : Addr} {H : Hp} (h1 : Rep D G0 t x) (h2 : Rep D G0 u y) (hp : H p = none) (φ : Fr) : YOk D φ G0 (.tup [t, u]) H (.ref p) (upd H p (.tup [x, y])) :=
  ⟨fun G σ ρ s r => by
    have s2 : Same G (upd G p (.tup [x, y])) := Same.fresh_up (same_none r.sub hp)
    exact ⟨_, s2, r.newFrozen hp, p, _, rfl, .of upd_same, .cons (h1.mono (s.trans s2)) (.cons (h2.mono (s.trans s2)) .nil)⟩⟩
theorem itok_enum {G0 : Hp} {a : Addr} {vs : List V} {ts : List T} (h : SqL D.K G0 a vs) (r : Reps D G0 ts vs) : ItOk D φ G0 (Ite D.K a) (enumT 0 ts) := by
  refine ⟨_, _, by rw [enumT_len, ← r.len]; exact walk_enum (xs := vs), fun _ G σ ρ H _ s r => same_l (s.trans r.sub) h, fun i H x H' t e s y => ?_⟩
  obtain ⟨p, x1, y1, rfl, h1, rfl, h3, h4⟩ := y
  obtain ⟨u, e1, rfl⟩ := enumT_get 0 ts i t e
  obtain ⟨v, g1, g2⟩ := r.get e1
  have h4' : vs[i]? = some y1 := h4
  rw [h4'] at g1; cases g1
  have h3' : some (V.int (i : Int)) = some x1 := h3
  cases h3'
  refine ⟨?_, Same.fresh_up h1⟩
  rw [Nat.zero_add]
  exact yok_pair rfl g2 h1
def iEnumL (fa : AF) : Ro → R (List T) := fun ρ => (fa ρ).bind fun xs ρ1 => match grounds xs with
  | some [.lst ts] => .ok (enumT 0 ts) ρ1
  | _ => .bad
theorem i_enum {fa : AF} {a : Expr} {p tpos : Pos} {elts : List Expr} {kk : Nat} (hg : Gl X "enumerate") (hm : X.mg "enumerate" = none) (ha : AX X D φ W [a] fa) (hs : starEach [a] X.env = [(false, eval a X.env)] := by rfl) (hK : X.K = D.K := by rfl) :
    IX X D φ W (.Tuple elts kk tpos) (.Call (.Name "enumerate" p) [a] [] pos) (iEnumL fa) :=
  ⟨pi_mono (pi_enum hg hm ha.pa hs) fun σ H S ⟨G, ρ, r, p⟩ => by
    refine ⟨G, ρ, r, Post.imp (Post.bind p) fun x ρ1 G1 H1 s1 r1 p1 vs hvs => ?_⟩
    split at p1
    · rename_i ts e
      obtain ⟨v, r', rfl, h1, h2⟩ := hvs.ground e
      cases h2
      obtain ⟨b, ws, rfl, g1, g2⟩ := h1
      exact ⟨b, ws, rfl, by rw [hK]; exact .of (r1.sub _ _ g1), by rw [hK]; exact p1 G1 H1 (.refl _) r1 _ G1 (.refl _) r1 (itok_enum (.of g1) g2)⟩
    · exact p1.elim⟩

/-! ### for -/
def loopS (g : T → Ro → Option Ro) (f : SF) : List T → Ro → R Fl
  | [], ρ => .ok .nx ρ
  | t :: ts, ρ => match g t ρ with
    | none => .bad
    | some ρ1 => match f ρ1 with
      | .ok .nx ρ2 => loopS g f ts ρ2
      | .ok .ct ρ2 => loopS g f ts ρ2
      | .ok .bk ρ2 => .ok .nx ρ2
      | r => r
def sFor (fi : Ro → R (List T)) (g : T → Ro → Option Ro) (f : SF) : SF := fun ρ => (fi ρ).bind fun ts ρ1 => loopS g f ts ρ1
theorem s_for {tg iter : Expr} {body : List Stmt} {fi : Ro → R (List T)} {g : T → Ro → Option Ro} (hp : PassesOwn (model X.prog X.w) X.A X.env X.xe) (hc : X.calm = true) (hi : IX X D φ W tg iter fi) (hg : GX X D φ ix tg g) (hb : BX X D φ W body f)
    (hs : ∀ x, foldedSetIterable iter X.env x = pure x := by intro _; rfl) : SX X D φ W (.For tg iter body [] pos) (sFor fi g f) :=
  ⟨ps_mono (ps_for hp hc hi.pi hg.pg hb.ps hs) fun E σ H ⟨G, ρ, r, p⟩ => by
    refine ⟨G, ρ, r, Post.imp (PostS.bind p) fun ts ρ1 G1 H1 s1 r1 p1 J G2 s2 r2 ok => ?_⟩
    obtain ⟨Gp, Y, w, hG, hY⟩ := ok
    refine for_it w (fun i σ H => ∃ G ρ, Same G2 G ∧ Rel D φ G σ ρ H ∧ PostS D φ W G E (loopS g f (ts.drop i) ρ)) ⟨G2, ρ1, .refl _, r2, PostS.weak s2 p1⟩ (fun i σ H _ ⟨G, ρ, s, r, _⟩ => hG φ G σ ρ H (PinUp.refl _) s r) ?_ ?_
    · rintro i x σ H H' hi ⟨G3, ρ3, s3, r3, p3⟩ y
      have ht : ts[i]? = some ts[i] := by simp [hi]
      obtain ⟨hY1, hY2⟩ := hY i H x H' _ ht (s3.trans r3.sub) y
      obtain ⟨G4, s4, r4, hx⟩ := (hY1 φ).to G3 σ ρ3 s3 r3
      rw [List.drop_eq_getElem_cons hi, loopS] at p3
      cases e1 : g ts[i] ρ3 with
      | none => rw [e1] at p3; exact p3.elim
      | some ρ4 =>
        rw [e1] at p3
        refine ⟨G4, ρ3, ts[i], r4, hx, ρ4, e1, fun σ4 _ r5 => ⟨G4, ρ4, r5, ?_⟩⟩
        have p5 := PostS.weak s4 p3
        simp only at p5
        cases e2 : f ρ4 with
        | ok a ρ5 =>
          rw [e2] at p5
          cases a with
          | nx => exact fun G6 σ6 H6 s6 r6 => ⟨G6, ρ5, (s3.trans s4).trans s6, r6, PostS.weak s6 p5⟩
          | ct => exact fun G6 σ6 H6 s6 r6 => ⟨G6, ρ5, (s3.trans s4).trans s6, r6, PostS.weak s6 p5⟩
          | bk => exact p5
          | rt x => exact p5
        | ex c ks us ρ5 => rw [e2] at p5; exact p5
        | bad => rw [e2] at p5; exact p5
    · rintro σ H ⟨G3, ρ3, s3, r3, p3⟩
      rw [List.drop_length] at p3
      exact p3 G3 σ H (.refl _) r3⟩

/-! ### while -/
def loopW (g : TF) (f : SF) : Nat → Ro → R Fl
  | 0, _ => .bad
  | n + 1, ρ => (g ρ).bind fun b ρ1 => if b = true then (match f ρ1 with
      | .ok .nx ρ2 => loopW g f n ρ2
      | .ok .ct ρ2 => loopW g f n ρ2
      | .ok .bk ρ2 => .ok .nx ρ2
      | r => r) else .ok .nx ρ1
def sWhile (n : Nat) (g : TF) (f : SF) : SF := fun ρ => loopW g f n ρ
theorem s_while {c : Expr} {body : List Stmt} {g : TF} (n : Nat) (hp : PassesOwn (model X.prog X.w) X.A X.env X.xe) (hc : TX X D φ W c g) (hb : BX X D φ W body f) : SX X D φ W (.While c body [] pos) (sWhile n g f) :=
  ⟨ps_mono (ps_while hp hc.pt hb.ps) fun E σ H ⟨G, ρ, r, p⟩ => by
    refine ⟨fun m σ H => ∃ G ρ, Rel D φ G σ ρ H ∧ PostS D φ W G E (loopW g f m ρ), ⟨n, G, ρ, r, p⟩, ?_⟩
    rintro m σ H ⟨G1, ρ1, r1, p1⟩
    cases m with
    | zero => exact p1.elim
    | succ m =>
      refine ⟨G1, ρ1, r1, Post.imp (PostS.bind p1) fun b ρ2 G2 H2 s2 r2 p2 => ?_⟩
      cases b with
      | false => exact p2 G2 σ H2 (.refl _) r2
      | true =>
        simp only [if_true] at p2 ⊢
        refine ⟨fun σ H => ∃ G ρ, Rel D φ G σ ρ H ∧ PostS D φ W G E (loopW g f m ρ), fun σ' H' h => ⟨m, Nat.lt_succ_self _, h⟩, G2, ρ2, r2, ?_⟩
        cases e2 : f ρ2 with
        | ok a ρ5 =>
          rw [e2] at p2
          cases a with
          | nx => exact fun G6 σ6 H6 s6 r6 => ⟨G6, ρ5, r6, PostS.weak s6 p2⟩
          | ct => exact fun G6 σ6 H6 s6 r6 => ⟨G6, ρ5, r6, PostS.weak s6 p2⟩
          | bk => exact p2
          | rt x => exact p2
        | ex c ks us ρ5 => rw [e2] at p2; exact p2
        | bad => rw [e2] at p2; exact p2⟩
end
end VI

set_option Elab.async false
set_option linter.all false
set_option maxRecDepth 100000
set_option maxHeartbeats 4000000
namespace VI
open PySem L2 PySem.Spec PyProof.Rows

/-! ### a def's promise -/
def PostF (D : Wd) (φ : Fr) (Q : VK) (E : XK) : R EV → Prop
  | .ok x ρ => ∀ v G H, Fin D φ G ρ H → RepRet D φ G H v x → Q v H
  | .ex c ks ts ρ => ∀ cls d G H, Fin D φ G ρ H → RepX D G cls d c ks ts → E cls d H
  | .bad => False
def spM (D : Wd) (n : Nat) (m : Ro → R EV) : Sp := fun vs H Q E => ∃ (φ : Fr) (ρ : Ro), vs.length = n ∧ φ.H = H ∧ Rel D φ φ.G (vs.map some) ρ H ∧ PostF D φ Q E (m ρ)
def runF (k : Nat) (f : SF) : Ro → R EV := fun ρ => match f (ρ ++ List.replicate k .no) with
  | .ok (.rt x) ρ' => .ok x ρ'
  | .ok .nx ρ' => .ok (.val .non) ρ'
  | .ex c ks ts ρ' => .ex c ks ts ρ'
  | _ => .bad
theorem rel_ext {D : Wd} {φ : Fr} {G : Hp} {σ : L2.St} {ρ : Ro} {H : Hp} (k : Nat) (r : Rel D φ G σ ρ H) : Rel D φ G (σ ++ List.replicate k none) (ρ ++ List.replicate k .no) H := by
  have q : ∀ {i : Nat} {s : Sl}, (ρ ++ List.replicate k Sl.no)[i]? = some s → (ρ[i]? = some s ∧ (σ ++ List.replicate k none)[i]? = σ[i]?) ∨ s = .no := fun {i s} h => by
    by_cases hi : i < ρ.length
    · rw [List.getElem?_append_left hi] at h
      exact .inl ⟨h, List.getElem?_append_left (by rw [← r.len]; exact hi)⟩
    · rw [List.getElem?_append_right (by omega), List.getElem?_replicate] at h
      split at h
      · cases h; exact .inr rfl
      · cases h
  have m : ∀ i a, MutAt (σ ++ List.replicate k none) (ρ ++ List.replicate k .no) i a → MutAt σ ρ i a := fun i a ⟨⟨s, h1, h2⟩, h3⟩ => by
    rcases q h1 with ⟨h, e⟩ | e
    · exact ⟨⟨s, h, h2⟩, by rw [← e]; exact h3⟩
    · subst e; cases h2
  refine ⟨by simp [r.len], r.sub, r.base, r.keep, r.alive, r.frame, fun i s h => ?_, fun i j a h1 h2 => r.disj i j a (m i a h1) (m j a h2), r.pin, fun i a h => r.pinM i a (m i a h), fun i a h => by rw [List.length_append]; exact Nat.lt_of_lt_of_le (r.ioLt i a h) (Nat.le_add_right _ _), r.pnOk⟩
  rcases q h with ⟨h, e⟩ | e
  · have z := r.slot i s h
    cases s <;> simp only [SlotOk, e] at z ⊢ <;> exact z
  · subst e; trivial
section
variable {P : Program} {w : World} {K : PySem.W.Frag} {mg : Str → Option Value} {base : Heap} {D : Wd}
/-- THE RULE for a def -/
theorem fn_ok {x qual : Str} {st : Stmt} {f : Addr} {fd : FuncData} {N ps : List Str} {k : Nat} {body : SF} (F : Fun K x qual st f fd) (S : FnScope N ps (defScope st))
    (hbody : ∀ (cdv : Value) (A : Around) (outer : List Env) (s : Shared) (H : Hp) (E : XK) (φ : Fr), Room k (A.deeper (envOfC qual (defScope st) s.heap.objs.size f cdv)) →
      BX (cxOf (L2.CX P w) P w K mg base N qual (defScope st) f cdv A outer s H E) D φ (fun cls d _ H => E cls d H) (defBody st) body) :
    FnOk P w K mg base (L2.CX P w) (k + 1) f fd ps (spM D ps.length (runF (N.length - ps.length) body)) := by
  refine F.okX S (fun vs H Q E h => ?_) (fun cdv A outer s H vs Q E hr h => ?_)
  · obtain ⟨_, _, h, _⟩ := h; exact h
  · obtain ⟨φ, ρ, hl, hH, r, p⟩ := h
    refine ⟨_, (hbody cdv A outer s H E φ hr).ps, φ.G, ρ ++ List.replicate (N.length - ps.length) .no, ?_, ?_⟩
    · have := rel_ext (N.length - ps.length) r
      unfold L2.start
      rw [hl]; exact this
    · unfold runF at p
      split at p
      · rename_i x' ρ' e; rw [e]; exact fun v G H _ f r => p v G H f r
      · rename_i ρ' e; rw [e]; exact fun G σ H _ r => p .non G H r.fin rfl
      · rename_i c ks ts ρ' e; rw [e]; exact fun cls d G σ H _ r q => p cls d G H r.fin q
      · exact p.elim
end

/-! ### a call's arguments -/
inductive Md where | v | io
  deriving DecidableEq
def argS (ρ : Ro) (m : Md) : EV → Option Sl
  | .val t => some (.val t)
  | .own xs => some (.val (.lst xs))
  | .pk i => match m with
    | .io => (match ρ[i]? with
      | some (.own xs) => some (.io xs)
      | some (.io xs) => some (.io xs)
      | some (.raw c ks ts) => some (.raw c ks ts)
      | _ => none)
    | .v => (match ρ[i]? with
      | some (.own xs) => some (.pin (.lst xs))
      | some (.io xs) => some (.pin (.lst xs))
      | some (.raw c ks ts) => some (.pin (.ins c ks ts))
      | some (.pin t) => some (.pin t)
      | some (.val t) => some (.val t)
      | _ => none)
def argSl (ρ : Ro) : List Md → List EV → Option (List Sl)
  | [], [] => some []
  | m :: ms, x :: xs => match argS ρ m x, argSl ρ ms xs with
    | some s, some ss => some (s :: ss)
    | _, _ => none
  | _, _ => none
/-- the slots that the call may change, and those that it may only read -/
def ioIx : List Md → List EV → List Nat
  | .io :: ms, .pk i :: xs => i :: ioIx ms xs
  | _ :: ms, _ :: xs => ioIx ms xs
  | _, _ => []
def pnIx : List Md → List EV → List Nat
  | .v :: ms, .pk i :: xs => i :: pnIx ms xs
  | _ :: ms, _ :: xs => pnIx ms xs
  | _, _ => []
def okIx (ms : List Md) (xs : List EV) : Bool := decide (ioIx ms xs).Nodup && (ioIx ms xs).all fun i => !(pnIx ms xs).contains i
def putBack (s : Sl) : Sl → Option Sl
  | .io ys => (match s with
    | .own _ => some (.own ys)
    | .io _ => some (.io ys)
    | _ => none)
  | .raw c ks ts => (match s with
    | .raw c' _ _ => if c = c' then some (.raw c ks ts) else none
    | _ => none)
  | _ => none
def backs (ρ : Ro) : List Md → List EV → Ro → Option Ro
  | [], [], _ => some ρ
  | .io :: ms, .pk i :: xs, s' :: ρ' => (match ρ[i]? with
    | some s => (match putBack s s' with
      | some s2 => backs (ρ.set i s2) ms xs ρ'
      | none => none)
    | none => none)
  | _ :: ms, _ :: xs, _ :: ρ' => backs ρ ms xs ρ'
  | _, _, _ => none
def IoAt (ms : List Md) (xs : List EV) (k j : Nat) : Prop := ms[k]? = some .io ∧ xs[k]? = some (.pk j)
def PnAt (ms : List Md) (xs : List EV) (k j : Nat) : Prop := ms[k]? = some .v ∧ xs[k]? = some (.pk j)
theorem argSl_len : ∀ {ρ : Ro} {ms : List Md} {xs : List EV} {ss : List Sl}, argSl ρ ms xs = some ss → ms.length = xs.length ∧ ss.length = xs.length
  | _, [], [], _, h => by cases h; exact ⟨rfl, rfl⟩
  | ρ, m :: ms, x :: xs, ss, h => by
    unfold argSl at h
    split at h
    · rename_i s ss' e1 e2
      cases h
      obtain ⟨h1, h2⟩ := argSl_len e2
      exact ⟨by simp [h1], by simp [h2]⟩
    · cases h
  | _, [], _ :: _, _, h => by cases h
  | _, _ :: _, [], _, h => by cases h
theorem argSl_get : ∀ {ρ : Ro} {ms : List Md} {xs : List EV} {ss : List Sl} {k : Nat} {s : Sl}, argSl ρ ms xs = some ss → ss[k]? = some s → ∃ m x, ms[k]? = some m ∧ xs[k]? = some x ∧ argS ρ m x = some s
  | _, [], [], _, _, _, h, q => by cases h; simp at q
  | ρ, m :: ms, x :: xs, ss, k, s, h, q => by
    unfold argSl at h
    split at h
    · rename_i s' ss' e1 e2
      cases h
      cases k with
      | zero => simp at q; subst q; exact ⟨m, x, rfl, rfl, e1⟩
      | succ k =>
        obtain ⟨m', x', h1, h2, h3⟩ := argSl_get (k := k) e2 (by simpa using q)
        exact ⟨m', x', by simpa using h1, by simpa using h2, h3⟩
    · cases h
  | _, [], _ :: _, _, _, _, h, _ => by cases h
  | _, _ :: _, [], _, _, _, h, _ => by cases h
theorem ioIx_mem : ∀ {ms : List Md} {xs : List EV} {k j : Nat}, IoAt ms xs k j → j ∈ ioIx ms xs
  | [], _, _, _, h => by simp [IoAt] at h
  | _ :: _, [], _, _, h => by simp [IoAt] at h
  | m :: ms, x :: xs, 0, j, h => by
    obtain ⟨h1, h2⟩ := h
    simp at h1 h2; subst h1; subst h2
    simp [ioIx]
  | m :: ms, x :: xs, k + 1, j, h => by
    have := ioIx_mem (ms := ms) (xs := xs) (k := k) (j := j) ⟨by simpa using h.1, by simpa using h.2⟩
    cases m <;> cases x <;> simp [ioIx, this]
theorem pnIx_mem : ∀ {ms : List Md} {xs : List EV} {k j : Nat}, PnAt ms xs k j → j ∈ pnIx ms xs
  | [], _, _, _, h => by simp [PnAt] at h
  | _ :: _, [], _, _, h => by simp [PnAt] at h
  | m :: ms, x :: xs, 0, j, h => by
    obtain ⟨h1, h2⟩ := h
    simp at h1 h2; subst h1; subst h2
    simp [pnIx]
  | m :: ms, x :: xs, k + 1, j, h => by
    have := pnIx_mem (ms := ms) (xs := xs) (k := k) (j := j) ⟨by simpa using h.1, by simpa using h.2⟩
    cases m <;> cases x <;> simp [pnIx, this]
theorem ioIx_inj : ∀ {ms : List Md} {xs : List EV} {k k' j : Nat}, (ioIx ms xs).Nodup → IoAt ms xs k j → IoAt ms xs k' j → k = k'
  | [], _, _, _, _, _, h, _ => by simp [IoAt] at h
  | _ :: _, [], _, _, _, _, h, _ => by simp [IoAt] at h
  | m :: ms, x :: xs, 0, 0, j, _, _, _ => rfl
  | m :: ms, x :: xs, 0, k + 1, j, nd, h, h' => by
    obtain ⟨h1, h2⟩ := h
    simp at h1 h2; subst h1; subst h2
    have := ioIx_mem (ms := ms) (xs := xs) (k := k) (j := j) ⟨by simpa using h'.1, by simpa using h'.2⟩
    simp only [ioIx, List.nodup_cons] at nd
    exact absurd this nd.1
  | m :: ms, x :: xs, k + 1, 0, j, nd, h', h => by
    obtain ⟨h1, h2⟩ := h
    simp at h1 h2; subst h1; subst h2
    have := ioIx_mem (ms := ms) (xs := xs) (k := k) (j := j) ⟨by simpa using h'.1, by simpa using h'.2⟩
    simp only [ioIx, List.nodup_cons] at nd
    exact absurd this nd.1
  | m :: ms, x :: xs, k + 1, k' + 1, j, nd, h, h' => by
    have nd' : (ioIx ms xs).Nodup := by
      cases m <;> cases x <;> simp only [ioIx, List.nodup_cons] at nd <;> first | exact nd | exact nd.2
    exact congrArg (· + 1) (ioIx_inj (k := k) (k' := k') nd' ⟨by simpa using h.1, by simpa using h.2⟩ ⟨by simpa using h'.1, by simpa using h'.2⟩)
theorem putBack_mut {s s' s2 : Sl} (h : putBack s s' = some s2) : s2.mut = true ∧ s.mut = true := by
  cases s' <;> cases s <;> simp only [putBack] at h <;> first | (cases h; exact ⟨rfl, rfl⟩) | (split at h; (cases h; exact ⟨rfl, rfl⟩); cases h) | cases h
theorem putBack_twice {s s' s1 s'' s2 : Sl} (h : putBack s s' = some s1) (h' : putBack s1 s'' = some s2) : putBack s s'' = some s2 := by
  cases s' <;> cases s <;> simp only [putBack] at h <;> first
    | (cases h; exact h')
    | (split at h <;> first | (rename_i e; subst e; cases h; exact h') | cases h)
    | cases h
theorem backs_spec : ∀ {ms : List Md} {xs : List EV} {ρ ρ' ρ2 : Ro}, backs ρ ms xs ρ' = some ρ2 → ρ2.length = ρ.length ∧ ∀ j s, ρ2[j]? = some s →
    ((∀ k, ¬ IoAt ms xs k j) ∧ ρ[j]? = some s) ∨ ∃ k s0 s', IoAt ms xs k j ∧ ρ[j]? = some s0 ∧ ρ'[k]? = some s' ∧ putBack s0 s' = some s
  | [], [], ρ, ρ', ρ2, h => by
    simp only [backs, Option.some.injEq] at h
    subst h
    exact ⟨rfl, fun j s e => .inl ⟨fun k z => by simp [IoAt] at z, e⟩⟩
  | .io :: ms, .pk i :: xs, ρ, s' :: ρ', ρ2, h => by
    simp only [backs] at h
    split at h
    · rename_i s e1
      split at h
      · rename_i s2 e2
        obtain ⟨h1, h2⟩ := backs_spec h
        refine ⟨by rw [h1, List.length_set], fun j t e => ?_⟩
        rcases h2 j t e with ⟨q1, q2⟩ | ⟨k, s0, s1, q1, q2, q3, q4⟩
        · rcases getElem?_set_cases q2 with ⟨rfl, rfl, _⟩ | ⟨ne, q2⟩
          · exact .inr ⟨0, s, s', ⟨rfl, rfl⟩, e1, rfl, e2⟩
          · refine .inl ⟨fun k z => ?_, q2⟩
            cases k with
            | zero => obtain ⟨_, z⟩ := z; simp at z; exact ne z.symm
            | succ k => exact q1 k ⟨by simpa using z.1, by simpa using z.2⟩
        · rcases getElem?_set_cases q2 with ⟨rfl, rfl, _⟩ | ⟨ne, q2⟩
          · exact .inr ⟨k + 1, s, s1, ⟨by simpa using q1.1, by simpa using q1.2⟩, e1, by simpa using q3, putBack_twice e2 q4⟩
          · exact .inr ⟨k + 1, s0, s1, ⟨by simpa using q1.1, by simpa using q1.2⟩, q2, by simpa using q3, q4⟩
      · cases h
    · cases h
  | .v :: ms, x :: xs, ρ, s' :: ρ', ρ2, h => by
    obtain ⟨h1, h2⟩ := backs_spec (ms := ms) (xs := xs) (ρ := ρ) (ρ' := ρ') (ρ2 := ρ2) (by simpa [backs] using h)
    refine ⟨h1, fun j t e => ?_⟩
    rcases h2 j t e with ⟨q1, q2⟩ | ⟨k, s0, s1, q1, q2, q3, q4⟩
    · refine .inl ⟨fun k z => ?_, q2⟩
      cases k with
      | zero => obtain ⟨z, _⟩ := z; simp at z
      | succ k => exact q1 k ⟨by simpa using z.1, by simpa using z.2⟩
    · exact .inr ⟨k + 1, s0, s1, ⟨by simpa using q1.1, by simpa using q1.2⟩, q2, by simpa using q3, q4⟩
  | .io :: ms, .val x :: xs, ρ, s' :: ρ', ρ2, h => by
    obtain ⟨h1, h2⟩ := backs_spec (ms := ms) (xs := xs) (ρ := ρ) (ρ' := ρ') (ρ2 := ρ2) (by simpa [backs] using h)
    refine ⟨h1, fun j t e => ?_⟩
    rcases h2 j t e with ⟨q1, q2⟩ | ⟨k, s0, s1, q1, q2, q3, q4⟩
    · refine .inl ⟨fun k z => ?_, q2⟩
      cases k with
      | zero => obtain ⟨_, z⟩ := z; simp at z
      | succ k => exact q1 k ⟨by simpa using z.1, by simpa using z.2⟩
    · exact .inr ⟨k + 1, s0, s1, ⟨by simpa using q1.1, by simpa using q1.2⟩, q2, by simpa using q3, q4⟩
  | .io :: ms, .own x :: xs, ρ, s' :: ρ', ρ2, h => by
    obtain ⟨h1, h2⟩ := backs_spec (ms := ms) (xs := xs) (ρ := ρ) (ρ' := ρ') (ρ2 := ρ2) (by simpa [backs] using h)
    refine ⟨h1, fun j t e => ?_⟩
    rcases h2 j t e with ⟨q1, q2⟩ | ⟨k, s0, s1, q1, q2, q3, q4⟩
    · refine .inl ⟨fun k z => ?_, q2⟩
      cases k with
      | zero => obtain ⟨_, z⟩ := z; simp at z
      | succ k => exact q1 k ⟨by simpa using z.1, by simpa using z.2⟩
    · exact .inr ⟨k + 1, s0, s1, ⟨by simpa using q1.1, by simpa using q1.2⟩, q2, by simpa using q3, q4⟩
  | [], _ :: _, _, _, _, h => by simp [backs] at h
  | _ :: _, [], _, _, _, h => by simp [backs] at h
  | .v :: _, _ :: _, _, [], _, h => by simp [backs] at h
  | .io :: _, .pk _ :: _, _, [], _, h => by simp [backs] at h
  | .io :: _, .val _ :: _, _, [], _, h => by simp [backs] at h
  | .io :: _, .own _ :: _, _, [], _, h => by simp [backs] at h
end VI

set_option Elab.async false
set_option linter.all false
set_option maxRecDepth 100000
set_option maxHeartbeats 4000000
namespace VI
open PySem L2 PySem.Spec PyProof.Rows
open Classical in
/-- the callee's frame -/
noncomputable def frOf (G H : Hp) (ss : List Sl) (vs : List V) : Fr where
  G := G
  H := H
  io := fun k => match ss[k]?, vs[k]? with
    | some s, some (.ref a) => if s.mut = true then some a else none
    | _, _ => none
  pn := fun k => match ss[k]?, vs[k]? with
    | some (.pin _), some (.ref a) => some a
    | _, _ => none
  pin := fun b => if ∃ (k : Nat) (t : T), ss[k]? = some (.pin t) ∧ vs[k]? = some (.ref b) then H b else none
  xs := fun _ => none
theorem Hlds.get {D : Wd} {G : Hp} {σ : L2.St} : ∀ {xs : List EV} {vs : List V} {k : Nat} {x : EV}, Hlds D G σ xs vs → xs[k]? = some x → ∃ v, vs[k]? = some v ∧ Hld D G σ v x
  | _, _, _, _, .nil, h => by simp at h
  | _, _, 0, _, .cons a _, h => by simp at h; subst h; exact ⟨_, rfl, a⟩
  | _, _, k + 1, _, .cons _ b, h => by
    obtain ⟨v, h1, h2⟩ := Hlds.get (k := k) b (by simpa using h)
    exact ⟨v, by simpa using h1, h2⟩
theorem Hlds.len {D : Wd} {G : Hp} {σ : L2.St} {xs : List EV} {vs : List V} (h : Hlds D G σ xs vs) : xs.length = vs.length := by
  induction h with
  | nil => rfl
  | cons _ _ ih => simp [ih]
section
variable {D : Wd} {φ : Fr} {G : Hp} {σ : L2.St} {ρ : Ro} {H : Hp} {ms : List Md} {xs : List EV} {vs : List V} {ss : List Sl}
/-- what an argument's slot is -/
theorem arg_kind (r : Rel D φ G σ ρ H) (hv : Hlds D G σ xs vs) (hs : argSl ρ ms xs = some ss) {k : Nat} {s : Sl} (h : ss[k]? = some s) : ∃ v, vs[k]? = some v ∧
    ((∃ t, s = .val t ∧ Rep D G t v) ∨
     (∃ j a s0, IoAt ms xs k j ∧ v = .ref a ∧ MutAt σ ρ j a ∧ ρ[j]? = some s0 ∧ ((∃ ys, s = .io ys ∧ lstOf s0 = some ys) ∨ ∃ c ks ts, s = .raw c ks ts ∧ s0 = .raw c ks ts)) ∨
     (∃ j a t o, PnAt ms xs k j ∧ s = .pin t ∧ v = .ref a ∧ (MutAt σ ρ j a ∨ φ.pin a = some o) ∧ H a = some o ∧ G a = none ∧ RepP D G o t)) := by
  obtain ⟨m, x, h1, h2, h3⟩ := argSl_get hs h
  obtain ⟨v, h4, h5⟩ := hv.get h2
  refine ⟨v, h4, ?_⟩
  cases x with
  | val t => cases h3; exact .inl ⟨t, rfl, h5⟩
  | own ys => cases h3; exact .inl ⟨_, rfl, h5⟩
  | pk j =>
    have h5' : σ[j]? = some (some v) := h5
    cases m with
    | io =>
      simp only [argS] at h3
      split at h3
      · rename_i ys e; cases h3
        obtain ⟨a, ws, g1, _⟩ := r.slot j _ e
        rw [h5'] at g1; cases g1
        exact .inr (.inl ⟨j, a, _, ⟨h1, h2⟩, rfl, ⟨⟨_, e, rfl⟩, h5'⟩, e, .inl ⟨ys, rfl, rfl⟩⟩)
      · rename_i ys e; cases h3
        obtain ⟨a, ws, g1, _⟩ := r.slot j _ e
        rw [h5'] at g1; cases g1
        exact .inr (.inl ⟨j, a, _, ⟨h1, h2⟩, rfl, ⟨⟨_, e, rfl⟩, h5'⟩, e, .inl ⟨ys, rfl, rfl⟩⟩)
      · rename_i c ks ts e; cases h3
        obtain ⟨a, dx, fs, g1, _⟩ := r.slot j _ e
        rw [h5'] at g1; cases g1
        exact .inr (.inl ⟨j, a, _, ⟨h1, h2⟩, rfl, ⟨⟨_, e, rfl⟩, h5'⟩, e, .inr ⟨c, ks, ts, rfl, rfl⟩⟩)
      · cases h3
    | v =>
      simp only [argS] at h3
      split at h3
      · rename_i ys e; cases h3
        obtain ⟨a, ws, g1, g2, g3, g4, g5⟩ := r.slot j _ e
        rw [h5'] at g1; cases g1
        exact .inr (.inr ⟨j, a, _, _, ⟨h1, h2⟩, rfl, rfl, .inl ⟨⟨_, e, rfl⟩, h5'⟩, g2, g3, ws, rfl, g5⟩)
      · rename_i ys e; cases h3
        obtain ⟨a, ws, g1, g2, g3, g4, g5⟩ := r.slot j _ e
        rw [h5'] at g1; cases g1
        exact .inr (.inr ⟨j, a, _, _, ⟨h1, h2⟩, rfl, rfl, .inl ⟨⟨_, e, rfl⟩, h5'⟩, g2, g3, ws, rfl, g5⟩)
      · rename_i c ks ts e; cases h3
        obtain ⟨a, dx, fs, g1, g2, g3, g4, g5, g6⟩ := r.slot j _ e
        rw [h5'] at g1; cases g1
        exact .inr (.inr ⟨j, a, _, _, ⟨h1, h2⟩, rfl, rfl, .inl ⟨⟨_, e, rfl⟩, h5'⟩, g2, g3, dx, fs, rfl, g5, g6⟩)
      · rename_i t e; cases h3
        obtain ⟨a, o, g1, g0, g2, g3⟩ := r.slot j _ e
        rw [h5'] at g1; cases g1
        exact .inr (.inr ⟨j, a, t, o, ⟨h1, h2⟩, rfl, rfl, .inr g2, (r.pin a o g2).1, (r.pin a o g2).2, g3⟩)
      · rename_i t e; cases h3
        obtain ⟨w, g1, g2⟩ := r.slot j _ e
        rw [h5'] at g1; cases g1
        exact .inl ⟨t, rfl, g2⟩
      · cases h3
theorem okIx_nd (h : okIx ms xs = true) : (ioIx ms xs).Nodup := of_decide_eq_true (Bool.and_eq_true_iff.mp h).1
theorem okIx_apart (h : okIx ms xs = true) {k k' j : Nat} (a : IoAt ms xs k j) (b : PnAt ms xs k' j) : False := by
  have := List.all_eq_true.mp (Bool.and_eq_true_iff.mp h).2 j (ioIx_mem a)
  simp only [Bool.not_eq_true', List.contains_eq_mem, decide_eq_false_iff_not] at this
  exact this (pnIx_mem b)
/-- who may be changed by the callee -/
theorem io_at (r : Rel D φ G σ ρ H) (hv : Hlds D G σ xs vs) (hs : argSl ρ ms xs = some ss) {k : Nat} {a : Addr} (h : (frOf G H ss vs).io k = some a) : ∃ j, IoAt ms xs k j ∧ MutAt σ ρ j a := by
  simp only [frOf] at h
  split at h
  · rename_i s b e1 e2
    split at h
    · rename_i hm
      cases h
      obtain ⟨v, h1, h2⟩ := arg_kind r hv hs e1
      rw [e2] at h1; cases h1
      rcases h2 with ⟨t, rfl, _⟩ | ⟨j, a', s0, q1, q2, q3, _⟩ | ⟨j, a', t, o, q1, rfl, _⟩
      · cases hm
      · cases q2; exact ⟨j, q1, q3⟩
      · cases hm
    · cases h
  · cases h
/-- the state at the callee's entry -/
theorem call_in (r : Rel D φ G σ ρ H) (hv : Hlds D G σ xs vs) (hs : argSl ρ ms xs = some ss) (ok : okIx ms xs = true) : Rel D (frOf G H ss vs) G (vs.map some) ss H := by
  have hl : ss.length = vs.length := by rw [(argSl_len hs).2, hv.len]
  have at_ : ∀ {k : Nat} {v : V}, vs[k]? = some v → (vs.map some)[k]? = some (some v) := fun {k v} e => by rw [List.getElem?_map, e]; rfl
  have mut_ : ∀ {k : Nat} {a : Addr}, MutAt (vs.map some) ss k a → ∃ j, IoAt ms xs k j ∧ MutAt σ ρ j a := fun {k a} ⟨⟨s, h1, h2⟩, h3⟩ => by
    obtain ⟨v, q1, q2⟩ := arg_kind r hv hs h1
    rw [at_ q1] at h3; cases h3
    rcases q2 with ⟨t, rfl, _⟩ | ⟨j, a', s0, q1, q2, q3, _⟩ | ⟨j, a', t, o, q1, rfl, _⟩
    · cases h2
    · cases q2; exact ⟨j, q1, q3⟩
    · cases h2
  have pin_ : ∀ {b : Addr}, (frOf G H ss vs).pin b ≠ none → ∃ (k : Nat) (t : T), ss[k]? = some (.pin t) ∧ vs[k]? = some (.ref b) := fun {b} h => by
    refine Classical.byContradiction fun z => h ?_
    simp only [frOf, if_neg z]
  refine ⟨by rw [List.length_map]; exact hl, r.sub, .refl _, fun b _ h => h, fun b h => h, fun b o h _ => h, fun k s h => ?_, fun i j a h1 h2 => ?_, fun b o h => ?_, fun i a h => ?_, fun i a h => ?_, fun i a h => ?_⟩
  · obtain ⟨v, q1, q2⟩ := arg_kind r hv hs h
    rcases q2 with ⟨t, rfl, q⟩ | ⟨j, a, s0, q2, rfl, q3, q4, q5⟩ | ⟨j, a, t, o, q2, rfl, rfl, q3, q4, q5, q6⟩
    · exact ⟨v, at_ q1, q⟩
    · have hio : (frOf G H ss vs).io k = some a := by
        simp only [frOf, h, q1]
        rcases q5 with ⟨ys, rfl, _⟩ | ⟨c, ks, ts, rfl, _⟩ <;> rfl
      rcases q5 with ⟨ys, rfl, q5⟩ | ⟨c, ks, ts, rfl, rfl⟩
      · obtain ⟨b, ws, g1, g2, g3, g4, g5⟩ := list_at r q4 q5
        have := q3.2; rw [g1] at this; cases this
        exact ⟨_, ws, at_ q1, g2, g3, hio, g4⟩
      · obtain ⟨b, dx, fs, g1, g2, g3, g4, g5, g6⟩ := r.slot j _ q4
        have := q3.2; rw [g1] at this; cases this
        exact ⟨_, dx, fs, at_ q1, g2, g3, hio, g5, g6⟩
    · refine ⟨a, o, at_ q1, by simp only [frOf, h, q1], ?_, q6⟩
      simp only [frOf]
      rw [if_pos ⟨k, t, h, q1⟩]; exact q4
  · obtain ⟨j1, p1, m1⟩ := mut_ h1
    obtain ⟨j2, p2, m2⟩ := mut_ h2
    have := r.disj j1 j2 a m1 m2
    subst this
    exact ioIx_inj (okIx_nd ok) p1 p2
  · obtain ⟨k, t, h1, h2⟩ := pin_ (b := b) (by rw [h]; simp)
    obtain ⟨v, q1, q2⟩ := arg_kind r hv hs h1
    rw [h2] at q1; cases q1
    rcases q2 with ⟨t', z, _⟩ | ⟨j, a, s0, q2, q3, _, _, q5⟩ | ⟨j, a, t', o', q2, _, q3, q4, q5, q6, q7⟩
    · cases z
    · rcases q5 with ⟨ys, z, _⟩ | ⟨c, ks, ts, z, _⟩ <;> cases z
    · cases q3
      have : (frOf G H ss vs).pin b = H b := by simp only [frOf]; rw [if_pos ⟨k, t, h1, h2⟩]
      rw [this] at h
      exact ⟨h, q6⟩
  · obtain ⟨j, p, m⟩ := mut_ h
    refine Classical.byContradiction fun z => ?_
    obtain ⟨k, t, h1, h2⟩ := pin_ z
    obtain ⟨v, q1, q2⟩ := arg_kind r hv hs h1
    rw [h2] at q1; cases q1
    rcases q2 with ⟨t', z, _⟩ | ⟨j', a', s0, q2, q3, _, _, q5⟩ | ⟨j', a', t', o', q2, _, q3, q4, q5, q6, q7⟩
    · cases z
    · rcases q5 with ⟨ys, z, _⟩ | ⟨c, ks, ts, z, _⟩ <;> cases z
    · cases q3
      rcases q4 with q4 | q4
      · have := r.disj j j' a m q4
        subst this
        exact okIx_apart ok p q2
      · have := r.pinM j a m
        rw [q4] at this; cases this
  · simp only [frOf] at h
    split at h
    · rename_i s b e1 e2; exact (List.getElem?_eq_some_iff.mp e1).1
    · cases h
  · simp only [frOf] at h
    split at h
    · rename_i t b e1 e2
      cases h
      obtain ⟨v, q1, q2⟩ := arg_kind r hv hs e1
      rw [e2] at q1; cases q1
      rcases q2 with ⟨t', z, _⟩ | ⟨j, a', s0, q2, q3, _, _, q5⟩ | ⟨j, a', t', o', q2, _, q3, q4, q5, q6, q7⟩
      · cases z
      · rcases q5 with ⟨ys, z, _⟩ | ⟨c, ks, ts, z, _⟩ <;> cases z
      · cases q3
        exact ⟨o', by simp only [frOf]; rw [if_pos ⟨i, t, e1, e2⟩]; exact q5⟩
    · cases h
/-- the state behind the call -/
theorem call_out (r : Rel D φ G σ ρ H) (hv : Hlds D G σ xs vs) (hs : argSl ρ ms xs = some ss) {G' H' : Hp} {ρ' ρ2 : Ro} (f : Fin D (frOf G H ss vs) G' ρ' H') (hb : backs ρ ms xs ρ' = some ρ2) :
    Same G G' ∧ Rel D φ G' σ ρ2 H' ∧ ∀ j a, MutAt σ ρ2 j a → MutAt σ ρ j a := by
  obtain ⟨hl, spec⟩ := backs_spec hb
  have base : Same G G' := f.base
  have of : ∀ j a, MutAt σ ρ2 j a → MutAt σ ρ j a := fun j a ⟨⟨s, h1, h2⟩, h3⟩ => by
    rcases spec j s h1 with ⟨_, q⟩ | ⟨k, s0, s', _, q2, _, q4⟩
    · exact ⟨⟨s, q, h2⟩, h3⟩
    · exact ⟨⟨s0, q2, (putBack_mut q4).2⟩, h3⟩
  have keepN : ∀ b, H b ≠ none → G b = none → G' b = none := fun b h1 h2 => f.keep b h1 h2
  have stay : ∀ {b : Addr} {o : HO}, H b = some o → (∀ k j, IoAt ms xs k j → ¬ MutAt σ ρ j b) → H' b = some o := fun {b o} h1 h2 => f.frame b o h1 fun k z => by
    obtain ⟨j, p, m⟩ := io_at r hv hs z
    exact h2 k j p m
  refine ⟨base, ⟨by rw [hl]; exact r.len, f.sub, r.base.trans base, fun b h1 h2 => keepN b (r.alive b h1) (r.keep b h1 h2), fun b h => f.alive b (r.alive b h), fun b o h n => ?_, fun j s h => ?_, fun i j a h1 h2 => r.disj i j a (of i a h1) (of j a h2), fun b o h => ?_, fun i a h => r.pinM i a (of i a h), fun i a h => by rw [hl]; exact r.ioLt i a h, r.pnOk⟩, of⟩
  · refine stay (r.frame b o h n) fun k j _ m => ?_
    rcases (mut_at r m).2.2 with z | z
    · rw [h] at z; cases z
    · exact n j z
  · rcases spec j s h with ⟨no, q⟩ | ⟨k, s0, s', q1, q2, q3, q4⟩
    · have z := r.slot j s q
      have far : ∀ a, MutAt σ ρ j a → ∀ k i, IoAt ms xs k i → ¬ MutAt σ ρ i a := fun a m k i p m' => by
        have := r.disj j i a m m'
        subst this
        exact no k p
      cases s with
      | no => trivial
      | val t => obtain ⟨v, g1, g2⟩ := z; exact ⟨v, g1, g2.mono base⟩
      | own ys => obtain ⟨a, ws, g1, g2, g3, g4, g5⟩ := z; exact ⟨a, ws, g1, stay g2 (far a ⟨⟨_, q, rfl⟩, g1⟩), keepN a (by rw [g2]; simp) g3, g4, g5.mono base⟩
      | io ys => obtain ⟨a, ws, g1, g2, g3, g4, g5⟩ := z; exact ⟨a, ws, g1, stay g2 (far a ⟨⟨_, q, rfl⟩, g1⟩), keepN a (by rw [g2]; simp) g3, g4, g5.mono base⟩
      | raw c ks ts => obtain ⟨a, dx, fs, g1, g2, g3, g4, g5, g6⟩ := z; exact ⟨a, dx, fs, g1, stay g2 (far a ⟨⟨_, q, rfl⟩, g1⟩), keepN a (by rw [g2]; simp) g3, g4, g5, g6.mono base⟩
      | exn c ks ts => obtain ⟨a, cls, d, g1, g2, g3⟩ := z; exact ⟨a, cls, d, g1, g2, g3.mono base⟩
      | pin t => obtain ⟨a, o, g1, g0, g2, g3⟩ := z; exact ⟨a, o, g1, g0, g2, g3.mono base⟩
      | odc kvs => obtain ⟨a, g1, g2, g3, g4⟩ := z; exact ⟨a, g1, stay g2 (far a ⟨⟨_, q, rfl⟩, g1⟩), keepN a (by rw [g2]; simp) g3, g4⟩
    · -- an argument that the callee may have changed
      obtain ⟨hm2, hm0⟩ := putBack_mut q4
      have hk : ∃ s1, ss[k]? = some s1 := by
        have : k < ss.length := by rw [(argSl_len hs).2]; exact (List.getElem?_eq_some_iff.mp q1.2).1
        exact ⟨_, List.getElem?_eq_getElem this⟩
      obtain ⟨s1, hk⟩ := hk
      obtain ⟨m, x, e1, e2, e3⟩ := argSl_get hs hk
      rw [q1.1] at e1; cases e1
      rw [q1.2] at e2; cases e2
      obtain ⟨v, v1, v2⟩ := hv.get q1.2
      have v2' : σ[j]? = some (some v) := v2
      have z := r.slot j s0 q2
      cases s0 with
      | own ys0 =>
        obtain ⟨a, ws, g1, g2, g3, g4, g5⟩ := z
        rw [g1] at v2'; cases v2'
        simp only [argS, q2] at e3; cases e3
        have hio : (frOf G H ss vs).io k = some a := by simp only [frOf, hk, v1]; rfl
        cases s' with
        | io ys =>
          simp only [putBack, Option.some.injEq] at q4; subst q4
          obtain ⟨us, k1, k2, k3⟩ := f.ioL k a ys hio q3
          exact ⟨a, us, g1, k1, k2, g4, k3⟩
        | raw c ks ts => simp [putBack] at q4
        | _ => simp [putBack] at q4
      | io ys0 =>
        obtain ⟨a, ws, g1, g2, g3, g4, g5⟩ := z
        rw [g1] at v2'; cases v2'
        simp only [argS, q2] at e3; cases e3
        have hio : (frOf G H ss vs).io k = some a := by simp only [frOf, hk, v1]; rfl
        cases s' with
        | io ys =>
          simp only [putBack, Option.some.injEq] at q4; subst q4
          obtain ⟨us, k1, k2, k3⟩ := f.ioL k a ys hio q3
          exact ⟨a, us, g1, k1, k2, g4, k3⟩
        | raw c ks ts => simp [putBack] at q4
        | _ => simp [putBack] at q4
      | raw c0 ks0 ts0 =>
        obtain ⟨a, dx, fs, g1, g2, g3, g4, g5, g6⟩ := z
        rw [g1] at v2'; cases v2'
        simp only [argS, q2] at e3; cases e3
        have hio : (frOf G H ss vs).io k = some a := by simp only [frOf, hk, v1]; rfl
        cases s' with
        | io ys => simp [putBack] at q4
        | raw c ks ts =>
          simp only [putBack] at q4
          split at q4
          · rename_i ec; subst ec
            cases q4
            obtain ⟨dx', fs', k1, k2, k3, k4⟩ := f.ioR k a _ ks ts hio q3
            exact ⟨a, dx', fs', g1, k1, k2, g4, k3, k4⟩
          · cases q4
        | _ => simp [putBack] at q4
      | no => cases hm0
      | val t => cases hm0
      | exn c ks ts => cases hm0
      | pin t => cases hm0
      | odc kvs => simp [argS, q2] at e3
  · have q := r.pin b o h
    refine ⟨stay q.1 fun k j _ m => ?_, keepN b (by rw [q.1]; simp) q.2⟩
    have := r.pinM j b m
    rw [h] at this; cases this
end

/-! ### calls -/
def retE : EV → Ro → R EV
  | .val t, ρ => .ok (.val t) ρ
  | .own xs, ρ => .ok (.own xs) ρ
  | .pk _, _ => .bad
def callM (ms : List Md) (m : Ro → R EV) (xs : List EV) (ρ : Ro) : R EV := match argSl ρ ms xs with
  | none => .bad
  | some ss => if okIx ms xs = true then (match m ss with
      | .ok x ρ' => (match backs ρ ms xs ρ' with
        | some ρ2 => retE x ρ2
        | none => .bad)
      | .ex c ks ts ρ' => (match backs ρ ms xs ρ' with
        | some ρ2 => .ex c ks ts ρ2
        | none => .bad)
      | .bad => .bad) else .bad
def eCall (ms : List Md) (m : Ro → R EV) (fa : AF) : EF := fun ρ => (fa ρ).bind fun xs ρ1 => callM ms m xs ρ1
section
variable {X : Cx} {D : Wd} {φ : Fr} {W : WX} {σ : L2.St} {ms : List Md} {m : Ro → R EV} {fa : AF}
/-- what the callee wants, from what is wanted behind the call -/
theorem call_sp {G0 G H : Hp} {ρ : Ro} {xs : List EV} {vs : List V} {Q : VK} {E : XK} (r : Rel D φ G σ ρ H) (hv : Hlds D G σ xs vs) (hE : ∀ cls d H, W cls d σ H → E cls d H) (s : Same G0 G)
    (p : Post D φ W G0 σ (PV D φ σ Q) (callM ms m xs ρ)) : spM D ms.length m vs H Q E := by
  unfold callM at p
  cases e1 : argSl ρ ms xs with
  | none => simp only [e1] at p; exact p.elim
  | some ss =>
    simp only [e1] at p
    split at p
    · rename_i ok
      have hlen : vs.length = ms.length := by rw [← hv.len, (argSl_len e1).1]
      refine ⟨frOf G H ss vs, ss, hlen, rfl, call_in r hv e1 ok, ?_⟩
      cases e2 : m ss with
      | ok x ρ' =>
        simp only [e2] at p
        intro v G' H' f rr
        cases e3 : backs ρ ms xs ρ' with
        | none => simp only [e3] at p; exact p.elim
        | some ρ2 =>
          simp only [e3] at p
          obtain ⟨s', r', of⟩ := call_out r hv e1 f e3
          cases x with
          | val t => exact p G' H' (s.trans s') r' v rr
          | own ys =>
            obtain ⟨a, ws, g1, g2, g3, g4, g5⟩ := rr
            exact p G' H' (s.trans s') r' v ⟨a, ws, g1, g2, g3, r.gone g4, r.gonePin g4, g5, fun i mm => (mut_at r (of i a mm)).2.1 g4⟩
          | pk i => exact p.elim
      | ex c ks ts ρ' =>
        simp only [e2] at p
        intro cls d G' H' f rr
        cases e3 : backs ρ ms xs ρ' with
        | none => simp only [e3] at p; exact p.elim
        | some ρ2 =>
          simp only [e3] at p
          obtain ⟨s', r', of⟩ := call_out r hv e1 f e3
          exact hE _ _ _ (p cls d G' H' (s.trans s') r' rr)
      | bad => simp only [e2] at p; exact p.elim
    · exact p.elim
variable {k : Nat} {f : Addr} {fd : FuncData} {ps : List Str} {x : Str} {p pos : Pos} {e : Expr} {es : List Expr}
theorem e_call (tk : Takes X W) (F : FnOk X.prog X.w X.K X.mg X.base (L2.CX X.prog X.w) k f fd ps (spM D ms.length m)) (hr : Room k X.A) (hg : Gl X x) (hm : X.mg x = some (.ref f)) (hk : PySem.W.keepIn X.K (.ref f) = true) (hb : Binds X.K fd ps [])
    (ha : AX X D φ W (e :: es) fa) (hdb : (x == ("__debug__" : Str)) = false := by decide) (he : starEach (e :: es) X.env = (false, eval e X.env) :: starEach es X.env := by rfl) (hpl : (backTo pos (starEach es X.env)).any (·.1) = false := by rfl) :
    EX X D φ W (.Call (.Name x p) (e :: es) [] pos) (eCall ms m fa) :=
  ⟨pe_mono (pe_callS F hr hg hm hk hb (fun σ => passAt tk σ) ha.pa hdb he hpl) fun σ H Q ⟨G, ρ, r, pp⟩ =>
    ⟨G, ρ, r, Post.imp (Post.bind pp) fun xs ρ1 G1 H1 s1 r1 p1 vs hvs => call_sp r1 hvs (fun _ _ _ h => h) (.refl _) p1⟩⟩
end
end VI

set_option Elab.async false
set_option linter.all false
set_option maxRecDepth 100000
set_option maxHeartbeats 4000000
namespace VI
open PySem L2 PySem.Spec PyProof.Rows

/-! ### attributes -/
def fget : List Nat → List T → Nat → Option T
  | k' :: ks, t :: ts, k => if k' = k then some t else fget ks ts k
  | _, _, _ => none
def putKs : List Nat → Nat → List Nat
  | [], k => [k]
  | k' :: ks, k => if k' = k then k' :: ks else k' :: putKs ks k
def putTs : List Nat → List T → Nat → T → List T
  | k' :: ks, t' :: ts, k, t => if k' = k then t :: ts else t' :: putTs ks ts k t
  | _, _, _, t => [t]
section
variable {D : Wd} {G : Hp}
theorem fget_lookup : ∀ {ks : List Nat} {ts : List T} {fs : List (Str × V)} {k : Nat} {t : T}, fs.map (·.1) = ks.map D.nm → Reps D G ts (fs.map (·.2)) → fget ks ts k = some t → ∃ v, fs.lookup (D.nm k) = some v ∧ Rep D G t v
  | [], _, _, _, _, _, _, h => by simp [fget] at h
  | _ :: _, [], _, _, _, _, _, h => by simp [fget] at h
  | k' :: ks, t' :: ts, [], _, _, h, _, _ => by simp at h
  | k' :: ks, t' :: ts, (n, v) :: fs, k, t, h1, h2, h => by
    simp only [List.map_cons, List.cons.injEq] at h1
    obtain ⟨w, r, e, q1, q2⟩ := h2
    simp only [List.map_cons, List.cons.injEq] at e
    obtain ⟨e1, e2⟩ := e
    rw [← e2] at q2
    rw [← e1] at q1
    simp only [fget] at h
    split at h
    · rename_i hk; cases h
      exact ⟨v, by rw [List.lookup, h1.1, hk]; simp, q1⟩
    · rename_i hk
      obtain ⟨v', g1, g2⟩ := fget_lookup h1.2 q2 h
      refine ⟨v', ?_, g2⟩
      have : (D.nm k == n) = false := by rw [h1.1]; exact beq_eq_false_iff_ne.mpr fun z => hk (D.inj _ _ z).symm
      rw [List.lookup, this]; exact g1
theorem no_lookup : ∀ {ks : List Nat} {fs : List (Str × V)} {k : Nat}, fs.map (·.1) = ks.map D.nm → ks.contains k = false → fs.lookup (D.nm k) = none
  | [], fs, k, h1, _ => by
    have : fs = [] := List.map_eq_nil_iff.mp h1
    subst this; rfl
  | k' :: ks, [], _, h, _ => by simp at h
  | k' :: ks, (n, v) :: fs, k, h1, h => by
    simp only [List.map_cons, List.cons.injEq] at h1
    simp only [List.contains_cons, Bool.or_eq_false_iff, beq_eq_false_iff_ne] at h
    have : (D.nm k == n) = false := by rw [h1.1]; exact beq_eq_false_iff_ne.mpr fun z => h.1 (D.inj _ _ z)
    rw [List.lookup, this]; exact no_lookup h1.2 h.2
theorem put_keys : ∀ {ks : List Nat} {fs : List (Str × V)} {k : Nat} {v : V}, fs.map (·.1) = ks.map D.nm → (putF (D.nm k) v fs).map (·.1) = (putKs ks k).map D.nm
  | [], fs, k, v, h1 => by
    have : fs = [] := List.map_eq_nil_iff.mp h1
    subst this; rfl
  | k' :: ks, [], _, _, h => by simp at h
  | k' :: ks, (n, w) :: fs, k, v, h1 => by
    simp only [List.map_cons, List.cons.injEq] at h1
    simp only [putF, putKs]
    by_cases hk : k' = k
    · rw [if_pos hk, if_pos (by rw [h1.1, hk])]
      simp [h1.1, h1.2]
    · rw [if_neg hk, if_neg (by rw [h1.1]; exact fun z => hk (D.inj _ _ z))]
      simp [h1.1, put_keys h1.2]
theorem put_vals : ∀ {ks : List Nat} {ts : List T} {fs : List (Str × V)} {k : Nat} {v : V} {t : T}, fs.map (·.1) = ks.map D.nm → Reps D G ts (fs.map (·.2)) → Rep D G t v → Reps D G (putTs ks ts k t) ((putF (D.nm k) v fs).map (·.2))
  | [], ts, fs, k, v, t, h1, h2, h => by
    have : fs = [] := List.map_eq_nil_iff.mp h1
    subst this
    have : putTs [] ts k t = [t] := by cases ts <;> rfl
    rw [this]; exact .cons h .nil
  | k' :: ks, _, [], _, _, _, h, _, _ => by simp at h
  | k' :: ks, [], (n, w) :: fs, _, _, _, _, h, _ => by cases h
  | k' :: ks, t' :: ts, (n, w) :: fs, k, v, t, h1, h2, h => by
    simp only [List.map_cons, List.cons.injEq] at h1
    obtain ⟨w', r, e, q1, q2⟩ := h2
    simp only [List.map_cons, List.cons.injEq] at e
    obtain ⟨e1, e2⟩ := e
    rw [← e2] at q2
    rw [← e1] at q1
    simp only [putF, putTs]
    by_cases hk : k' = k
    · rw [if_pos hk, if_pos (by rw [h1.1, hk])]
      exact .cons h q2
    · rw [if_neg hk, if_neg (by rw [h1.1]; exact fun z => hk (D.inj _ _ z))]
      exact .cons q1 (put_vals h1.2 q2 h)
end
def ClsAt (D : Wd) (k : Nat) : List Nat → Prop
  | [] => True
  | c :: r => (Cls D.K (D.ca c) ∧ NoAttr D.K (D.ca c) (D.nm k)) ∧ ClsAt D k r
theorem ClsAt.of {D : Wd} {k : Nat} : ∀ {cs : List Nat} {c : Nat}, ClsAt D k cs → cs.contains c = true → Cls D.K (D.ca c) ∧ NoAttr D.K (D.ca c) (D.nm k)
  | [], _, _, h => by simp at h
  | c' :: r, c, ⟨h1, h2⟩, h => by
    simp only [List.contains_cons, Bool.or_eq_true, beq_iff_eq] at h
    rcases h with rfl | h
    · exact h1
    · exact h2.of h
def fldG (cs : List Nat) (k : Nat) : T → Out
  | .ins c ks ts => if cs.contains c = true then (match fget ks ts k with | some t => .v t | none => .no) else .no
  | _ => .no
def eFld (cs : List Nat) (k : Nat) (f : EF) : EF := e1 (fldG cs k) f
def sFld (i c k : Nat) (fe : EF) : SF := fun ρ => (fe ρ).bind fun x ρ1 => match ground1 x, ρ1[i]? with
  | some t, some (.raw c' ks ts) => if c' = c ∧ ks.length < 900 then .ok .nx (ρ1.set i (.raw c (putKs ks k) (putTs ks ts k t))) else .bad
  | _, _ => .bad
section
variable {X : Cx} {D : Wd} {φ : Fr} {W : WX} {e o : Expr} {fa fo : EF} {pos : Pos}
theorem e_fld (cs : List Nat) (k : Nat) {n : Str} (hn : D.nm k = n) (hc : ClsAt D k cs) (he : EX X D φ W e fa) (hb : attributeBase e n X.env (eval e X.env) = eval e X.env := by rfl) (hK : X.K = D.K := by rfl) : EX X D φ W (.Attribute e n pos) (eFld cs k fa) :=
  ⟨pe_mono (pe_fld he.pe hb) fun σ H Q h => one (r := fun x H1 Q => ∃ a C dx fs v, x = V.ref a ∧ H1 a = some (HO.ins C dx fs) ∧ Cls X.K C ∧ NoAttr X.K C n ∧ fs.lookup n = some v ∧ Q v H1)
    (fun G H x t Q s ht ho => by
      cases t with
      | ins c ks ts =>
        obtain ⟨a, dx, fs, rfl, h1, h2, h3⟩ := ht
        simp only [fldG] at ho
        split at ho
        · rename_i hcs
          cases e1 : fget ks ts k with
          | none => simp only [e1] at ho; exact ho.elim
          | some t =>
            simp only [e1] at ho
            obtain ⟨v, g1, g2⟩ := fget_lookup h2 h3 e1
            obtain ⟨c1, c2⟩ := hc.of hcs
            exact ⟨a, _, dx, fs, v, rfl, h1, by rw [hK]; exact c1, by rw [hK, ← hn]; exact c2, by rw [← hn]; exact g1, ho v H (.refl _) g2⟩
        · exact ho.elim
      | _ => exact ho.elim) h⟩
theorem s_fld {i c k : Nat} {n : Str} {pos' : Pos} (hn : D.nm k = n) (hC : Cls D.K (D.ca c)) (hno : NoAttr D.K (D.ca c) (D.nm k)) (ho : PE X o (tVar i)) (hv : EX X D φ W e fa) (hs : swapsWith e (some (.Attribute o n pos')) pos.line X.env = pure false := by rfl) (hK : X.K = D.K := by rfl) :
    SX X D φ W (.Assign [.Attribute o n pos'] e pos) (sFld i c k fa) :=
  ⟨ps_mono (ps_fld ho hv.pe hs) fun E σ H ⟨G, ρ, r, p⟩ => by
    refine ⟨G, ρ, r, Post.imp (PostS.bind p) fun x ρ1 G1 H1 s1 r1 p1 v hv => ?_⟩
    obtain ⟨G2, s2, r2, hh⟩ := settle r1 hv
    have p2 := PostS.weak s2 p1
    cases e1 : ground1 x with
    | none => simp only [e1] at p2; exact p2.elim
    | some t =>
      cases e2 : ρ1[i]? with
      | none => simp only [e1, e2] at p2; exact p2.elim
      | some sl =>
        cases sl with
        | raw c' ks ts =>
          simp only [e1, e2] at p2
          split at p2
          · rename_i hc
            obtain ⟨rfl, hl⟩ := hc
            obtain ⟨a, dx, fs, g1, g2, g3, g4, g5, g6⟩ := r2.slot i _ e2
            have hlen : fs.length = ks.length := by have := congrArg List.length g5; simpa using this
            refine ⟨_, g1, a, _, dx, fs, rfl, g2, by rw [hK]; exact hC, by rw [hK, ← hn]; exact hno, by omega, ?_⟩
            refine p2 G2 σ _ (.refl _) (r2.change ⟨⟨_, e2, rfl⟩, g1⟩ rfl ⟨a, dx, _, g1, upd_same, g3, g4, ?_, ?_⟩)
            · rw [← hn]; exact put_keys g5
            · rw [← hn]; exact put_vals g5 g6 (hh.ground e1)
          · exact p2.elim
        | _ => simp only [e1, e2] at p2; exact p2.elim⟩
end

/-! ### a new instance -/
section
variable {X : Cx} {D : Wd} {φ : Fr} {W : WX} {fa fo : EF} {ga : AF} {k : Nat} {f C : Addr} {fd : FuncData} {ps : List Str} {x m : Str} {p pos apos : Pos} {e o : Expr} {es : List Expr} {sp : Sp} {E : L2.St → XK} {ta : TE} {t : TA} {CX : CXT}
theorem run_makeS {pins : List (Addr × Obj)} {σ : L2.St} {H : Hp} {s : Shared} {Q : VK} {us : List Value} {vs : List V} (M : Mk X.K C f) (F : FnOk X.prog X.w X.K X.mg X.base CX k f fd ps sp) (hr : Room (k + 1) X.A) (hb : Binds X.K fd ps [])
    (hx : PassesAt CX X σ (E σ)) (I : Inv X pins σ H s) (r : Vals vs us)
    (h : ∀ x dx, H x = none → H dx = none → dx ≠ x → sp (.ref x :: vs) (upd (upd H dx (.own x)) x (.ins C dx [])) (fun v H2 => v = .non ∧ Q (.ref x) H2) (E σ)) :
    wpAny (model X.prog X.w) X.A (call (.ref C) us) (EP X pins σ Q) X.xe s := by
  have hq := h (s.heap.objs.size + 1) s.heap.objs.size (I.hok.fresh (Nat.le_succ _)) (I.hok.fresh (Nat.le_refl _)) (Nat.ne_of_lt (Nat.lt_succ_self _))
  have I2 := Inv.made (C := C) I
  have r2 : Vals (V.ref (s.heap.objs.size + 1) :: vs) (Value.ref (s.heap.objs.size + 1) :: us) := .cons rfl r
  have hl : (Value.ref (s.heap.objs.size + 1) :: us).length = ps.length := by
    have e := r2.length
    rw [F.len _ _ _ _ hq] at e
    exact e.symm
  have bb := hb _ (Value.ref (s.heap.objs.size + 1) :: us) I2.kIn (by rw [List.append_nil]; exact hl)
  rw [List.append_nil] at bb
  refine wpAny_call (make_map (f := f) I.kIn M.makes M.init (beq_iff_eq.mp M.fn) (codeAny_mono (F.run _ X.stack _ _ ⟨Value.ref (s.heap.objs.size + 1) :: us, []⟩ (Value.ref (s.heap.objs.size + 1) :: us) _ _ (E σ) (hr.make C us [])
    (I2.env0.make C us []) bb r2 hq) fun r s' hq' => ?_))
  cases r with
  | error e => exact hx pins _ _ e s' I2 hq'
  | ok fl =>
    cases fl with
    | ret u =>
      obtain ⟨v, H', I3, rv, ev, q3⟩ := I2.after hq'
      subst ev
      exact ⟨rv, ⟨V.ref (s.heap.objs.size + 1), H', I3, rfl, q3⟩⟩
    | next => exact False.elim hq'
    | brk => exact False.elim hq'
    | cont => exact False.elim hq'
def tMakeS (C : Addr) (sp : Sp) (E : L2.St → XK) (t : TA) : TE := fun σ H Q => t σ H fun vs H1 => ∀ x dx, H1 x = none → H1 dx = none → dx ≠ x →
  sp (.ref x :: vs) (upd (upd H1 dx (.own x)) x (.ins C dx [])) (fun v H2 => v = .non ∧ Q (.ref x) H2) (E σ)
theorem pe_makeS (M : Mk X.K C f) (F : FnOk X.prog X.w X.K X.mg X.base CX k f fd ps sp) (hr : Room (k + 1) X.A) (hg : Gl X x) (hm : X.mg x = some (.ref C)) (hb : Binds X.K fd ps []) (hx : ∀ σ, PassesAt CX X σ (E σ))
    (ha : PA X (e :: es) t) (hdb : (x == ("__debug__" : Str)) = false := by decide) (he : starEach (e :: es) X.env = (false, eval e X.env) :: starEach es X.env := by rfl) (hpl : (backTo pos (starEach es X.env)).any (·.1) = false := by rfl) :
    PE X (.Call (.Name x p) (e :: es) [] pos) (tMakeS C sp E t) := by
  refine ⟨fun pins s σ H Q I h => ?_⟩
  refine wpAny_Call_Name_kw (ld_glob I hg hm ?_ hdb)
  refine PySem.W.callWith_K (h₀ := X.base) I.ok.mod.kin M.kp (thn (ha.run pos pins s σ H _ I h) fun us s1 ⟨vs, H1, I1, r, q⟩ => ⟨I1.kIn, ?_⟩) he hpl
  exact run_makeS M F hr hb (hx σ) I1 r q
def tMethS (C : Addr) (m : Str) (sp : Sp) (E : L2.St → XK) (ta : TE) (t : TA) : TE := fun σ H Q => ta σ H fun x H1 => ∃ a dx fs, x = .ref a ∧ H1 a = some (.ins C dx fs) ∧ fs.lookup m = none ∧
  t σ H1 fun vs H2 => sp (x :: vs) H2 Q (E σ)
theorem pe_methS {pl : Sem Bool} (he : PE X o ta) (c : Cls X.K C) (hm : Meth X.K C m f) (F : FnOk X.prog X.w X.K X.mg X.base CX k f fd ps sp) (hr : Room k X.A) (hb : Binds X.K fd ps []) (hx : ∀ σ, PassesAt CX X σ (E σ)) (ha : PA X (e :: es) t)
    (hst : starEach (e :: es) X.env = (false, eval e X.env) :: starEach es X.env := by rfl) (hpl : (backTo pos (starEach es X.env)).any (·.1) = false := by rfl)
    (ht : eval (.Call (.Attribute o m apos) (e :: es) [] pos) X.env = (do
      let ov ← eval o X.env
      standAt apos.atName
      let (f, first) ← holding [ov] (getMethod ov m pl)
      callWith pos f first (backTo pos (starEach (e :: es) X.env)) (backToKw pos (keywordEach [] X.env))) := by rfl) :
    PE X (.Call (.Attribute o m apos) (e :: es) [] pos) (tMethS C m sp E ta t) := by
  refine ⟨fun pins s σ H Q I h => ?_⟩
  refine PySem.W.methodCall_KW (pl := pl) (thn (he.run pins s σ H _ I h) fun u s1 ⟨x, H1, I1, rx, a, dx, fs, ex, ea, l, q⟩ => ?_) ht
  subst ex
  obtain rfl : u = Value.ref a := rx
  refine getmeth_ok I1 ea c hm l ?_
  refine PySem.W.callWith_K (first := [.ref a]) (h₀ := X.base) I.ok.mod.kin hm.kp (thn (ha.run pos pins s1 σ H1 _ I1 q) fun us s2 ⟨vs, H2, I2, r, q2⟩ => ⟨I2.kIn, ?_⟩) hst hpl
  exact run_fnS (us := .ref a :: us) (vs := .ref a :: vs) F hr hb (hx σ) I2 (.cons rfl r) q2
theorem pe_meth0S {pl : Sem Bool} (he : PE X o ta) (c : Cls X.K C) (hm : Meth X.K C m f) (F : FnOk X.prog X.w X.K X.mg X.base CX k f fd ps sp) (hr : Room k X.A) (hb : Binds X.K fd ps []) (hx : ∀ σ, PassesAt CX X σ (E σ))
    (ht : eval (.Call (.Attribute o m apos) [] [] pos) X.env = (do
      let ov ← eval o X.env
      standAt apos.atName
      let (f, first) ← holding [ov] (getMethod ov m pl)
      callWith pos f first (backTo pos (starEach [] X.env)) (backToKw pos (keywordEach [] X.env))) := by rfl) :
    PE X (.Call (.Attribute o m apos) [] [] pos) (tMethS C m sp E ta tNil) := by
  refine ⟨fun pins s σ H Q I h => ?_⟩
  refine PySem.W.methodCall_KW (pl := pl) (thn (he.run pins s σ H _ I h) fun u s1 ⟨x, H1, I1, rx, a, dx, fs, ex, ea, l, q⟩ => ?_) ht
  subst ex
  obtain rfl : u = Value.ref a := rx
  refine getmeth_ok I1 ea c hm l ?_
  exact PySem.W.callWith_K0 (first := [.ref a]) I1.kIn hm.kp (run_fnS (us := [.ref a]) (vs := [.ref a]) F hr hb (hx σ) I1 (.cons rfl .nil) q)
theorem pe_call0S (F : FnOk X.prog X.w X.K X.mg X.base CX k f fd ps sp) (hr : Room k X.A) (hg : Gl X x) (hm : X.mg x = some (.ref f)) (hk : PySem.W.keepIn X.K (.ref f) = true) (hb : Binds X.K fd ps []) (hx : ∀ σ, PassesAt CX X σ (E σ))
    (hdb : (x == ("__debug__" : Str)) = false := by decide) : PE X (.Call (.Name x p) [] [] pos) (tCallS sp E tNil) := by
  refine ⟨fun pins s σ H Q I h => ?_⟩
  refine wpAny_Call_Name_kw (ld_glob I hg hm ?_ hdb)
  exact PySem.W.callWith_K0 I.kIn hk (run_fnS (us := []) F hr hb (hx σ) I .nil h)

variable {ms : List Md} {mm : Ro → R EV}
theorem e_call0 (tk : Takes X W) (F : FnOk X.prog X.w X.K X.mg X.base (L2.CX X.prog X.w) k f fd ps (spM D 0 mm)) (hr : Room k X.A) (hg : Gl X x) (hm : X.mg x = some (.ref f)) (hk : PySem.W.keepIn X.K (.ref f) = true) (hb : Binds X.K fd ps [])
    (hdb : (x == ("__debug__" : Str)) = false := by decide) : EX X D φ W (.Call (.Name x p) [] [] pos) (eCall [] mm aNil) :=
  ⟨pe_mono (pe_call0S F hr hg hm hk hb (fun σ => passAt tk σ) hdb) fun σ H Q ⟨G, ρ, r, pp⟩ => call_sp (ms := []) r .nil (fun _ _ _ h => h) (.refl _) pp⟩
def eMeth (c mid : Nat) (ms : List Md) (m : Ro → R EV) (fo : EF) (fa : AF) : EF := fun ρ => (fo ρ).bind fun x ρ1 => match deref ρ1 x with
  | some (.ins c' ks ts) => if c' = c ∧ ks.contains mid = false then (fa ρ1).bind fun xs ρ2 => callM ms m (x :: xs) ρ2 else .bad
  | _ => .bad
theorem meth_rd {c mid : Nat} (hm : D.nm mid = m) {σ : L2.St} {H : Hp} {Q : VK} (h : rdE D φ W (eMeth c mid ms mm fo ga) σ H Q) : tMethS (D.ca c) m (spM D ms.length mm) (WE W) (rdE D φ W fo) (rdA D φ W ga) σ H Q := by
  obtain ⟨G, ρ, r, pp⟩ := h
  refine ⟨G, ρ, r, Post.imp (Post.bind pp) fun x ρ1 G1 H1 s1 r1 p1 v hv => ?_⟩
  obtain ⟨G2, s2, r2, hh⟩ := settle r1 hv
  have p2 := Post.weak s2 p1
  split at p2
  · rename_i c' ks ts e1
    split at p2
    · rename_i hc
      obtain ⟨rfl, hk⟩ := hc
      obtain ⟨a, dx, fs, rfl, g1, g2, g3⟩ := hh.use r2 e1
      refine ⟨a, dx, fs, rfl, g1, by rw [← hm]; exact no_lookup g2 hk, G2, ρ1, r2, Post.imp (Post.bind p2) fun xs ρ2 G3 H3 s3 r3 p3 vs hvs => ?_⟩
      exact call_sp (E := WE W σ) r3 (.cons (hh.mono s3) hvs) (fun _ _ _ h => h) (.refl _) p3
    · exact p2.elim
  · exact p2.elim
theorem e_meth (c mid : Nat) (tk : Takes X W) (hm : D.nm mid = m) {pl : Sem Bool} (hC : Cls D.K (D.ca c)) (hM : Meth D.K (D.ca c) m f) (F : FnOk X.prog X.w X.K X.mg X.base (L2.CX X.prog X.w) k f fd ps (spM D ms.length mm)) (hr : Room k X.A) (hb : Binds X.K fd ps []) (ho : EX X D φ W o fo)
    (ha : AX X D φ W (e :: es) ga) (hst : starEach (e :: es) X.env = (false, eval e X.env) :: starEach es X.env := by rfl) (hpl : (backTo pos (starEach es X.env)).any (·.1) = false := by rfl)
    (ht : eval (.Call (.Attribute o m apos) (e :: es) [] pos) X.env = (do
      let ov ← eval o X.env
      standAt apos.atName
      let (f, first) ← holding [ov] (getMethod ov m pl)
      callWith pos f first (backTo pos (starEach (e :: es) X.env)) (backToKw pos (keywordEach [] X.env))) := by rfl) (hK : X.K = D.K := by rfl) :
    EX X D φ W (.Call (.Attribute o m apos) (e :: es) [] pos) (eMeth c mid ms mm fo ga) :=
  ⟨pe_mono (pe_methS ho.pe (by rw [hK]; exact hC) (by rw [hK]; exact hM) F hr hb (fun σ => passAt tk σ) ha.pa hst hpl ht) fun _ _ _ h => meth_rd hm h⟩
theorem e_meth0 (c mid : Nat) (tk : Takes X W) (hm : D.nm mid = m) {pl : Sem Bool} (hC : Cls D.K (D.ca c)) (hM : Meth D.K (D.ca c) m f) (F : FnOk X.prog X.w X.K X.mg X.base (L2.CX X.prog X.w) k f fd ps (spM D ms.length mm)) (hr : Room k X.A) (hb : Binds X.K fd ps []) (ho : EX X D φ W o fo)
    (ht : eval (.Call (.Attribute o m apos) [] [] pos) X.env = (do
      let ov ← eval o X.env
      standAt apos.atName
      let (f, first) ← holding [ov] (getMethod ov m pl)
      callWith pos f first (backTo pos (starEach [] X.env)) (backToKw pos (keywordEach [] X.env))) := by rfl) (hK : X.K = D.K := by rfl) :
    EX X D φ W (.Call (.Attribute o m apos) [] [] pos) (eMeth c mid ms mm fo aNil) :=
  ⟨pe_mono (pe_meth0S ho.pe (by rw [hK]; exact hC) (by rw [hK]; exact hM) F hr hb (fun σ => passAt tk σ) ht) fun σ H Q h => by
    obtain ⟨G, ρ, r, p⟩ := meth_rd hm h
    exact ⟨G, ρ, r, Post.imp p fun x ρ1 G1 H1 s1 r1 q v hv => by
      obtain ⟨a, dx, fs, h1, h2, h3, G2, ρ2, r2, p2⟩ := q v hv
      exact ⟨a, dx, fs, h1, h2, h3, p2 G2 H1 (.refl _) r2 [] .nil⟩⟩⟩

/-! one more slot, for the new instance -/
theorem Rel.push {G : Hp} {σ : L2.St} {ρ : Ro} {H : Hp} {c : Nat} {y dx : Addr} (r : Rel D φ G σ ρ H) (hy : H y = some (.ins (D.ca c) dx [])) (hG : G y = none) (hp : φ.pin y = none) (nm : ∀ i, ¬ MutAt σ ρ i y) :
    Rel D { φ with io := fun k => if k = ρ.length then some y else φ.io k } G (σ ++ [some (.ref y)]) (ρ ++ [.raw c [] []]) H := by
  have hio : φ.io ρ.length = none := by
    cases q : φ.io ρ.length with
    | none => rfl
    | some a => exact absurd (r.ioLt _ _ q) (Nat.lt_irrefl _)
  have old : ∀ {i : Nat} {s : Sl}, (ρ ++ [Sl.raw c [] []])[i]? = some s → (i < ρ.length ∧ ρ[i]? = some s ∧ (σ ++ [some (V.ref y)])[i]? = σ[i]?) ∨ (i = ρ.length ∧ s = .raw c [] []) := fun {i s} h => by
    by_cases hi : i < ρ.length
    · rw [List.getElem?_append_left hi] at h
      exact .inl ⟨hi, h, List.getElem?_append_left (by rw [← r.len]; exact hi)⟩
    · rw [List.getElem?_append_right (by omega)] at h
      by_cases e : i = ρ.length
      · subst e; simp at h; exact .inr ⟨rfl, h.symm⟩
      · rw [List.getElem?_eq_none (by simp; omega)] at h; cases h
  have last : (σ ++ [some (V.ref y)])[ρ.length]? = some (some (.ref y)) := by rw [r.len]; simp
  have m : ∀ i a, MutAt (σ ++ [some (V.ref y)]) (ρ ++ [Sl.raw c [] []]) i a → (i < ρ.length ∧ MutAt σ ρ i a) ∨ (i = ρ.length ∧ a = y) := fun i a ⟨⟨s, h1, h2⟩, h3⟩ => by
    rcases old h1 with ⟨hi, h, e⟩ | ⟨rfl, _⟩
    · exact .inl ⟨hi, ⟨s, h, h2⟩, by rw [← e]; exact h3⟩
    · rw [last] at h3; cases h3; exact .inr ⟨rfl, rfl⟩
  refine ⟨by simp [r.len], r.sub, r.base, r.keep, r.alive, fun b o h n => r.frame b o h fun i z => ?_, fun i s h => ?_, fun i j a h1 h2 => ?_, r.pin, fun i a h => ?_, fun i a h => ?_, r.pnOk⟩
  · by_cases e : i = ρ.length
    · subst e; rw [hio] at z; cases z
    · exact n i (by simp only [if_neg e]; exact z)
  · rcases old h with ⟨hi, h, e⟩ | ⟨rfl, rfl⟩
    · have z := r.slot i s h
      have hne : ¬ i = ρ.length := by omega
      cases s <;> simp only [SlotOk, e, if_neg hne] at z ⊢ <;> exact z
    · exact ⟨y, dx, [], last, hy, hG, by simp, rfl, .nil⟩
  · rcases m i a h1 with ⟨hi, m1⟩ | ⟨rfl, rfl⟩
    · rcases m j a h2 with ⟨hj, m2⟩ | ⟨rfl, rfl⟩
      · exact r.disj i j a m1 m2
      · exact (nm i m1).elim
    · rcases m j a h2 with ⟨hj, m2⟩ | ⟨rfl, _⟩
      · exact (nm j m2).elim
      · rfl
  · rcases m i a h with ⟨hi, m1⟩ | ⟨rfl, rfl⟩
    · exact r.pinM i a m1
    · exact hp
  · rw [List.length_append]
    simp only at h
    split at h
    · rename_i e; subst e; simp
    · have := r.ioLt i a h; simp; omega
theorem Rel.pop {G : Hp} {σ : L2.St} {ρ : Ro} {H : Hp} {n : Nat} {y : Addr} (hn : n = σ.length) (hio : φ.io n = none) (hlt : ∀ i a, φ.io i = some a → i < n) (hy : φ.H y = none)
    (r : Rel D { φ with io := fun k => if k = n then some y else φ.io k } G (σ ++ [some (.ref y)]) ρ H) : Rel D φ G σ (ρ.take n) H := by
  have hl : ρ.length = n + 1 := by rw [r.len, hn]; simp
  have old : ∀ {i : Nat} {s : Sl}, (ρ.take n)[i]? = some s → i < n ∧ ρ[i]? = some s ∧ (σ ++ [some (V.ref y)])[i]? = σ[i]? := fun {i s} h => by
    have hi : i < n := by
      have := (List.getElem?_eq_some_iff.mp h).1
      rw [List.length_take] at this; omega
    rw [List.getElem?_take_of_lt hi] at h
    exact ⟨hi, h, List.getElem?_append_left (by rw [← hn]; exact hi)⟩
  have m : ∀ i a, MutAt σ (ρ.take n) i a → MutAt (σ ++ [some (V.ref y)]) ρ i a := fun i a ⟨⟨s, h1, h2⟩, h3⟩ => by
    obtain ⟨hi, h, e⟩ := old h1
    exact ⟨⟨s, h, h2⟩, by rw [e]; exact h3⟩
  refine ⟨by rw [List.length_take]; omega, r.sub, r.base, r.keep, r.alive, fun b o h q => r.frame b o h fun i z => ?_, fun i s h => ?_, fun i j a h1 h2 => r.disj i j a (m i a h1) (m j a h2), r.pin, fun i a h => r.pinM i a (m i a h), fun i a h => by rw [List.length_take]; have := hlt i a h; omega, r.pnOk⟩
  · simp only at z
    split at z
    · cases z
      have h' : φ.H y = some o := h
      rw [hy] at h'; cases h'
    · exact q i z
  · obtain ⟨hi, h, e⟩ := old h
    have z := r.slot i s h
    have hne : ¬ i = n := by omega
    cases s <;> simp only [SlotOk, e, if_neg hne] at z ⊢ <;> exact z
def eMake (c : Nat) (ms : List Md) (m : Ro → R EV) (fa : AF) : EF := fun ρ => (fa ρ).bind fun xs ρ1 => match callM (.io :: ms) m (.pk ρ1.length :: xs) (ρ1 ++ [.raw c [] []]) with
  | .ok (.val .non) ρ2 => (match ρ2[ρ1.length]? with
    | some (.raw c' ks ts) => if c' = c then .ok (.val (.ins c ks ts)) (ρ2.take ρ1.length) else .bad
    | _ => .bad)
  | .ex c' ks ts ρ2 => .ex c' ks ts (ρ2.take ρ1.length)
  | _ => .bad
theorem e_make (c : Nat) (tk : Takes X W) (M : Mk D.K (D.ca c) f) (F : FnOk X.prog X.w X.K X.mg X.base (L2.CX X.prog X.w) k f fd ps (spM D (ms.length + 1) mm)) (hr : Room (k + 1) X.A) (hg : Gl X x) (hm : X.mg x = some (.ref (D.ca c))) (hb : Binds X.K fd ps [])
    (ha : AX X D φ W (e :: es) ga) (hdb : (x == ("__debug__" : Str)) = false := by decide) (he : starEach (e :: es) X.env = (false, eval e X.env) :: starEach es X.env := by rfl) (hpl : (backTo pos (starEach es X.env)).any (·.1) = false := by rfl) (hK : X.K = D.K := by rfl) :
    EX X D φ W (.Call (.Name x p) (e :: es) [] pos) (eMake c ms mm ga) :=
  ⟨pe_mono (pe_makeS (by rw [hK]; exact M) F hr hg hm hb (fun σ => passAt tk σ) ha.pa hdb he hpl) fun σ H Q ⟨G, ρ, r, pp⟩ => by
    refine ⟨G, ρ, r, Post.imp (Post.bind pp) fun xs ρ1 G1 H1 s1 r1 p1 vs hvs y dx hy hdx hne => ?_⟩
    have sH : Same H1 (upd (upd H1 dx (.own y)) y (.ins (D.ca c) dx [])) := fun b o e => by
      rw [upd_ne (ne_of_none e hy), upd_ne (ne_of_none e hdx)]; exact e
    have r2 := (r1.grow sH).push (c := c) (dx := dx) (y := y) upd_same (same_none r1.sub hy) (r1.gonePin hy) (r1.not_mut hy)
    have last : (σ ++ [some (V.ref y)])[ρ1.length]? = some (some (.ref y)) := by rw [r1.len]; simp
    have hio : φ.io ρ1.length = none := by
      cases q : φ.io ρ1.length with
      | none => rfl
      | some a => exact absurd (r1.ioLt _ _ q) (Nat.lt_irrefl _)
    have hh2 : Hlds D G1 (σ ++ [some (V.ref y)]) xs vs := by
      have ap : ∀ {x : EV} {v : V}, Hld D G1 σ v x → Hld D G1 (σ ++ [some (V.ref y)]) v x := fun {x v} h => by
        cases x with
        | val t => exact h
        | own l => exact h
        | pk i =>
          have h' : σ[i]? = some (some v) := h
          show (σ ++ [some (V.ref y)])[i]? = some (some v)
          rw [List.getElem?_append_left (List.getElem?_eq_some_iff.mp h').1]; exact h'
      clear p1
      induction hvs with
      | nil => exact .nil
      | cons a _ ih => exact .cons (ap a) ih
    have pop : ∀ {G' : Hp} {ρ' : Ro} {H' : Hp}, Rel D { φ with io := fun k => if k = ρ1.length then some y else φ.io k } G' (σ ++ [some (V.ref y)]) ρ' H' → Rel D φ G' σ (ρ'.take ρ1.length) H' := fun {G' ρ' H'} q =>
      Rel.pop r1.len hio r1.ioLt (r1.gone hy) q
    refine call_sp (E := WE W σ) (ms := .io :: ms) (W := fun cls d _ H => W cls d σ H) (xs := .pk ρ1.length :: xs) (G0 := G1) r2 (.cons last hh2) (fun _ _ _ h => h) (.refl _) ?_
    cases e1 : callM (.io :: ms) mm (.pk ρ1.length :: xs) (ρ1 ++ [.raw c [] []]) with
    | bad => simp only [e1] at p1; exact p1.elim
    | ex c' ks ts ρ2 => simp only [e1] at p1; exact fun cls d G' H' s' r' q => p1 cls d G' H' s' (pop r') q
    | ok ev ρ2 =>
      simp only [e1] at p1
      cases ev with
      | own l => exact p1.elim
      | pk i => exact p1.elim
      | val t =>
        cases t with
        | non =>
          simp only at p1
          intro G' H' s' r' v hv
          refine ⟨hv, ?_⟩
          split at p1
          · rename_i c' ks ts e2
            split at p1
            · rename_i hc; subst hc
              obtain ⟨a, dx', fs, g1, g2, g3, g4, g5, g6⟩ := r'.slot _ _ e2
              rw [last] at g1; cases g1
              have s2 : Same G' (upd G' y (.ins (D.ca c') dx' fs)) := Same.fresh_up g3
              have nm : ∀ i, ¬ MutAt σ (ρ2.take ρ1.length) i y := fun i mi => by
                obtain ⟨⟨s, h1, h2⟩, h3⟩ := mi
                have hi : i < ρ1.length := by
                  have := (List.getElem?_eq_some_iff.mp h1).1
                  rw [List.length_take] at this; omega
                have m1 : MutAt (σ ++ [some (V.ref y)]) ρ2 i y := ⟨⟨s, by rw [List.getElem?_take_of_lt hi] at h1; exact h1, h2⟩, by rw [List.getElem?_append_left (by rw [← r1.len]; exact hi)]; exact h3⟩
                have := r'.disj i ρ1.length y m1 ⟨⟨_, e2, rfl⟩, last⟩
                omega
              exact p1 _ H' (s'.trans s2) ((pop r').freeze1 g2 g3 (r1.gone hy) (r1.gonePin hy) nm) _ ⟨y, dx', fs, rfl, upd_same, g5, g6.mono s2⟩
            · exact p1.elim
          · exact p1.elim
        | _ => exact p1.elim⟩
end
end VI

set_option Elab.async false
set_option linter.all false
set_option maxRecDepth 100000
set_option maxHeartbeats 4000000
namespace VI
open PySem L2 PySem.Spec PyProof.Rows

/-! ### comprehensions -/
def wipeR (ρ : Ro) : List Nat → Ro
  | [] => ρ
  | v :: vs => (wipeR ρ vs).set v .no
def backR (ρ : Ro) : List Nat → Ro → Ro
  | [], ρ' => ρ'
  | v :: vs, ρ' => (backR ρ vs ρ').set v (ρ.getD v .no)
def Sl.plain : Sl → Bool
  | .no => true | .val _ => true | _ => false
theorem plain_mut {s : Sl} (h : s.plain = true) (m : s.mut = true) : False := by cases s <;> simp [Sl.plain, Sl.mut] at h m
def plainAt (ρ : Ro) (vs : List Nat) : Bool := vs.all fun v => (ρ.getD v .no).plain
theorem wipeR_len (ρ : Ro) : ∀ vs, (wipeR ρ vs).length = ρ.length
  | [] => rfl
  | v :: vs => by rw [wipeR, List.length_set, wipeR_len ρ vs]
theorem wipeR_get {ρ : Ro} {j : Nat} {s : Sl} : ∀ {vs : List Nat}, (wipeR ρ vs)[j]? = some s → s = .no ∨ (j ∉ vs ∧ ρ[j]? = some s)
  | [], h => .inr ⟨by simp, h⟩
  | v :: vs, h => by
    rcases getElem?_set_cases h with ⟨_, e, _⟩ | ⟨ne, h⟩
    · exact .inl e
    · rcases wipeR_get h with e | ⟨n, e⟩
      · exact .inl e
      · exact .inr ⟨by simp [ne, n], e⟩
theorem backR_len (ρ ρ' : Ro) : ∀ vs, (backR ρ vs ρ').length = ρ'.length
  | [] => rfl
  | v :: vs => by rw [backR, List.length_set, backR_len ρ ρ' vs]
theorem backR_get {ρ ρ' : Ro} {j : Nat} {s : Sl} : ∀ {vs : List Nat}, (backR ρ vs ρ')[j]? = some s → (j ∈ vs ∧ s = ρ.getD j .no) ∨ (j ∉ vs ∧ ρ'[j]? = some s)
  | [], h => .inr ⟨by simp, h⟩
  | v :: vs, h => by
    rcases getElem?_set_cases h with ⟨rfl, e, _⟩ | ⟨ne, h⟩
    · exact .inl ⟨by simp, e⟩
    · rcases backR_get h with ⟨n, e⟩ | ⟨n, e⟩
      · exact .inl ⟨by simp [n], e⟩
      · exact .inr ⟨by simp [ne, n], e⟩
theorem wipe_get {σ : L2.St} {j : Nat} : ∀ {vs : List Nat}, j ∉ vs → (wipe σ vs)[j]? = σ[j]? := fun h => wipe_out h
theorem wipe_in {σ : L2.St} {j : Nat} : ∀ {vs : List Nat}, j ∈ vs → j < σ.length → (wipe σ vs)[j]? = some none
  | v :: vs, h, hl => by
    unfold wipe
    by_cases e : v = j
    · subst e; exact List.getElem?_set_self (by rw [wipe_length]; exact hl)
    · rw [List.getElem?_set_ne e]
      exact wipe_in (by simpa [Ne.symm e] using h) hl
theorem wipe_agr {σ σ' : L2.St} {vs ix : List Nat} (h : Agr ix (wipe σ vs) σ') (hs : ∀ i ∈ ix, i ∈ vs) : wipe σ' vs = wipe σ vs := by
  have hl : σ'.length = σ.length := by rw [h.1, wipe_length]
  refine List.ext_getElem? fun j => ?_
  by_cases hj : j ∈ vs
  · by_cases hlt : j < σ.length
    · rw [wipe_in hj hlt, wipe_in hj (by omega)]
    · rw [List.getElem?_eq_none (by rw [wipe_length]; omega), List.getElem?_eq_none (by rw [wipe_length]; omega)]
  · rw [wipe_get hj, wipe_get hj, h.2 j (fun z => hj (hs j z)), wipe_get hj]
section
variable {D : Wd} {φ : Fr} {G G' : Hp} {σ σ' : L2.St} {ρ ρ' : Ro} {H H' : Hp}
/-- into the block: its names wiped, the new list pinned -/
theorem Rel.block (r : Rel D φ G σ ρ H) (vs : List Nat) {L : Addr} {ys : List V} (hL : H L = some (.lst ys)) (hG : G L = none) (nm : ∀ i, ¬ MutAt σ ρ i L) : Rel D { φ with pin := upd φ.pin L (.lst ys) } G (wipe σ vs) (wipeR ρ vs) H := by
  have m : ∀ i a, MutAt (wipe σ vs) (wipeR ρ vs) i a → MutAt σ ρ i a := fun i a ⟨⟨s, h1, h2⟩, h3⟩ => by
    rcases wipeR_get h1 with e | ⟨n, e⟩
    · subst e; cases h2
    · rw [wipe_get n] at h3; exact ⟨⟨s, e, h2⟩, h3⟩
  refine ⟨by rw [wipeR_len, wipe_length]; exact r.len, r.sub, r.base, r.keep, r.alive, r.frame, fun i s h => ?_, fun i j a h1 h2 => r.disj i j a (m i a h1) (m j a h2), fun b o h => ?_, fun i a h => ?_, fun i a h => by rw [wipeR_len]; exact r.ioLt i a h, fun i a h => ?_⟩
  · rcases wipeR_get h with e | ⟨n, e⟩
    · subst e; trivial
    · have z := r.slot i s e
      cases s with
      | pin t =>
        obtain ⟨a, o, h1, h2, h3, h4⟩ := z
        refine ⟨a, o, by rw [wipe_get n]; exact h1, h2, ?_, h4⟩
        by_cases ha : a = L
        · subst ha
          have := (r.pin a o h3).1
          rw [hL] at this; cases this
          exact upd_same
        · exact (upd_ne ha).trans h3
      | no => trivial
      | _ => simp only [SlotOk, wipe_get n] at z ⊢; exact z
  · by_cases hb : b = L
    · subst hb
      have h' : upd φ.pin b (.lst ys) b = some o := h
      rw [upd_same] at h'; cases h'; exact ⟨hL, hG⟩
    · exact r.pin b o ((upd_ne hb).symm.trans h)
  · have : a ≠ L := fun e => nm i (e ▸ m i a h)
    exact (upd_ne this).trans (r.pinM i a (m i a h))
  · obtain ⟨o, ho⟩ := r.pnOk i a h
    by_cases ha : a = L
    · subst ha; exact ⟨_, upd_same⟩
    · exact ⟨o, (upd_ne ha).trans ho⟩
/-- out of the block -/
theorem Rel.unblock {G0 H0 : Hp} {ρ0 : Ro} {vs : List Nat} {L : Addr} {ys : List V} (r : Rel D { φ with pin := upd φ.pin L (.lst ys) } G σ' ρ' H) (hw : wipe σ' vs = wipe σ vs) (r0 : Rel D φ G0 σ ρ0 H0) (hpin : φ.pin L = none) (s : Same G0 G) (pl : plainAt ρ0 vs = true) :
    Rel D φ G σ (backR ρ0 vs ρ') H := by
  have hlen : σ'.length = σ.length := by have := congrArg List.length hw; rwa [wipe_length, wipe_length] at this
  have out : ∀ {j : Nat}, j ∉ vs → σ[j]? = σ'[j]? := fun {j} h => by
    have := congrArg (·[j]?) hw
    simp only [wipe_get h] at this
    exact this.symm
  have plain : ∀ {j : Nat}, j ∈ vs → (ρ0.getD j .no).plain = true := fun h => List.all_eq_true.mp pl _ h
  have m : ∀ i a, MutAt σ (backR ρ0 vs ρ') i a → MutAt σ' ρ' i a := fun i a ⟨⟨t, h1, h2⟩, h3⟩ => by
    rcases backR_get h1 with ⟨n, rfl⟩ | ⟨n, e⟩
    · exact (plain_mut (plain n) h2).elim
    · exact ⟨⟨t, e, h2⟩, by rw [← out n]; exact h3⟩
  have pinne : ∀ b o, φ.pin b = some o → b ≠ L := fun b o h z => by subst z; rw [hpin] at h; cases h
  refine ⟨by rw [backR_len, r.len, hlen], r.sub, r.base, r.keep, r.alive, r.frame, fun i t h => ?_, fun i j a h1 h2 => r.disj i j a (m i a h1) (m j a h2), fun b o h => r.pin b o ((upd_ne (pinne b o h)).trans h), fun i a h => ?_, fun i a h => by rw [backR_len]; exact r.ioLt i a h, r0.pnOk⟩
  · rcases backR_get h with ⟨n, rfl⟩ | ⟨n, e⟩
    · have pp := plain n
      cases q : ρ0[i]? with
      | none => rw [List.getD_eq_getElem?_getD, q]; trivial
      | some t =>
        have z := r0.slot i t q
        rw [List.getD_eq_getElem?_getD, q] at pp ⊢
        cases t with
        | no => trivial
        | val u => obtain ⟨v, h1, h2⟩ := z; exact ⟨v, h1, h2.mono s⟩
        | _ => cases pp
    · have z := r.slot i t e
      cases t with
      | pin u =>
        obtain ⟨a, o, h1, h2, h3, h4⟩ := z
        obtain ⟨o', ho⟩ := r0.pnOk i a h2
        have h3' : φ.pin a = some o := (upd_ne (pinne a o' ho)).symm.trans h3
        exact ⟨a, o, by rw [out n]; exact h1, h2, h3', h4⟩
      | no => trivial
      | _ => simp only [SlotOk, out n] at z ⊢; exact z
  · cases q : φ.pin a with
    | none => rfl
    | some o =>
      have := r.pinM i a (m i a h)
      have e : upd φ.pin L (.lst ys) a = some o := (upd_ne (pinne a o q)).trans q
      have this' : upd φ.pin L (.lst ys) a = none := this
      rw [e] at this'; cases this'
/-- an object that no one but us knows is changed -/
theorem Rel.other (r : Rel D φ G σ ρ H) {L : Addr} {o : HO} (hG : G L = none) (hH : φ.H L = none) (hp : φ.pin L = none) (nm : ∀ i, ¬ MutAt σ ρ i L) : Rel D φ G σ ρ (upd H L o) := by
  have ne : ∀ b u, G b = some u → b ≠ L := fun b u e z => by subst z; rw [hG] at e; cases e
  have neH : ∀ b u, φ.H b = some u → b ≠ L := fun b u e z => by subst z; rw [hH] at e; cases e
  have neP : ∀ b u, φ.pin b = some u → b ≠ L := fun b u e z => by subst z; rw [hp] at e; cases e
  refine ⟨r.len, fun b u e => by rw [upd_ne (ne b u e)]; exact r.sub b u e, r.base, r.keep, fun b e => ?_, fun b u e n => by rw [upd_ne (neH b u e)]; exact r.frame b u e n, fun i s e => ?_, r.disj, fun b u e => ⟨by rw [upd_ne (neP b u e)]; exact (r.pin b u e).1, (r.pin b u e).2⟩, r.pinM, r.ioLt, r.pnOk⟩
  · by_cases hb : b = L
    · subst hb; rw [upd_same]; simp
    · rw [upd_ne hb]; exact r.alive b e
  · have z := r.slot i s e
    have far : ∀ b, MutAt σ ρ i b → b ≠ L := fun b mb z => nm i (z ▸ mb)
    cases s with
    | own xs => obtain ⟨b, vs, h1, h2, h3⟩ := z; exact ⟨b, vs, h1, by rw [upd_ne (far b ⟨⟨_, e, rfl⟩, h1⟩)]; exact h2, h3⟩
    | io xs => obtain ⟨b, vs, h1, h2, h3⟩ := z; exact ⟨b, vs, h1, by rw [upd_ne (far b ⟨⟨_, e, rfl⟩, h1⟩)]; exact h2, h3⟩
    | raw c ks ts => obtain ⟨b, dx, fs, h1, h2, h3⟩ := z; exact ⟨b, dx, fs, h1, by rw [upd_ne (far b ⟨⟨_, e, rfl⟩, h1⟩)]; exact h2, h3⟩
    | odc kvs => obtain ⟨b, h1, h2, h3⟩ := z; exact ⟨b, h1, by rw [upd_ne (far b ⟨⟨_, e, rfl⟩, h1⟩)]; exact h2, h3⟩
    | _ => exact z
end

def loopC (g : T → Ro → Option Ro) (test : TF) (fe : EF) (vs : List Nat) : List T → List T → Ro → R EV
  | [], acc, ρ => .ok (.own acc) ρ
  | t :: ts, acc, ρ => match g t (wipeR ρ vs) with
    | none => .bad
    | some ρ2 => match test ρ2 with
      | .ok b ρ3 => if b = true then (match fe ρ3 with
          | .ok x ρ4 => (match ground1 x with
            | some u => loopC g test fe vs ts (acc ++ [u]) (backR ρ vs ρ4)
            | none => .bad)
          | _ => .bad) else loopC g test fe vs ts acc (backR ρ vs ρ3)
      | _ => .bad
def eLc (fi : Ro → R (List T)) (g : T → Ro → Option Ro) (test : TF) (fe : EF) (vs : List Nat) : EF := fun ρ => (fi ρ).bind fun ts ρ1 => if plainAt ρ1 vs = true ∧ ts.length ≤ 100000 then loopC g test fe vs ts [] ρ1 else .bad
def tTrue : TF := fun ρ => .ok true ρ
abbrev W0 : WX := fun _ _ _ _ => False
def PTex (D : Wd) (g : TF) : TT := fun σ H Q => ∃ φ : Fr, rdT D φ W0 g σ H Q
def PEex (D : Wd) (f : EF) : TE := fun σ H Q => ∃ φ : Fr, rdE D φ W0 f σ H Q
def PGex (D : Wd) (ix : List Nat) (g : T → Ro → Option Ro) : TG := fun v σ H Q => ∃ φ : Fr, rdG D φ ix g v σ H Q
section
variable {X : Cx} {D : Wd}
theorem pe_ex {e : Expr} {f : EF} (h : ∀ φ, EX X D φ W0 e f) : PE X e (PEex D f) := ⟨fun pins s σ H Q I ⟨φ, q⟩ => (h φ).pe.run pins s σ H Q I q⟩
theorem pt_ex {e : Expr} {f : TF} (h : ∀ φ, TX X D φ W0 e f) : PT X e (PTex D f) := ⟨fun pins s σ H Q I ⟨φ, q⟩ => (h φ).pt.run pins s σ H Q I q⟩
theorem pg_ex {e : Expr} {ix : List Nat} {g : T → Ro → Option Ro} (h : ∀ φ, GX X D φ ix e g) : PG X e (PGex D ix g) := ⟨fun pins s σ H v u Q I r ⟨φ, q⟩ => (h φ).pg.run pins s σ H v u Q I r q⟩
theorem pts_ex {f : TF} {e : Expr} (h : ∀ φ, TX X D φ W0 e f) : PTs X [e] (PTex D f) := pts_one (pt_ex h)
theorem pts_true : PTs X [] (PTex D tTrue) := ⟨fun pins s σ H Q I ⟨φ, G, ρ, r, p⟩ => pts_nil.run pins s σ H Q I (p G H (.refl _) r)⟩
theorem takesW0 {X : Cx} : Takes X W0 := takes0
/-- one turn's work, in the block -/
theorem lc_turn {φ : Fr} {G2 : Hp} {σ : L2.St} {ρ : Ro} {H H' : Hp} {g : T → Ro → Option Ro} {test : TF} {fe : EF} {vs ix : List Nat} {W : WX} {G : Hp} {L : Addr} {acc : List T} {ys : List V} {t : T} {ts : List T} {x : V} {Q : EV → Ro → Hp → Hp → Prop} {Nx : Hp → Prop}
    (r : Rel D φ G σ ρ H) (sub : Same G2 G) (hL : H L = some (.lst ys)) (hG : G L = none) (hH : φ.H L = none) (hp : φ.pin L = none) (nm : ∀ i, ¬ MutAt σ ρ i L) (pl : plainAt ρ vs = true) (hix : ∀ i ∈ ix, i ∈ vs) (ra : Reps D G acc ys)
    (hY : ∀ φ : Fr, YOk D φ G2 t H x H') (sH : Same H H') (small : ys.length < sizeLine) (p : Post D φ W G σ Q (loopC g test fe vs (t :: ts) acc ρ))
    (next : ∀ G' ρ' H' acc' ys', Same G G' → Rel D φ G' σ ρ' H' → H' L = some (.lst ys') → G' L = none → (∀ i, ¬ MutAt σ ρ' i L) → plainAt ρ' vs = true → Reps D G' acc' ys' → acc'.length ≤ acc.length + 1 → Post D φ W G' σ Q (loopC g test fe vs ts acc' ρ') → Nx H') :
    PGex D ix g x (wipe σ vs) H' fun σ2 H2 => wipe σ2 vs = wipe σ vs ∧ PTex D test σ2 H2 fun b H3 =>
      if b = true then PEex D fe σ2 H3 fun y H4 => ∃ acc, H4 L = some (.lst acc) ∧ acc.length < sizeLine ∧ Nx (upd H4 L (.lst (acc ++ [y]))) else Nx H3 := by
  have rb := r.block vs hL hG nm
  obtain ⟨G1, s1, r1, hx⟩ := (hY _).to G (wipe σ vs) (wipeR ρ vs) sub rb
  rw [loopC] at p
  cases e1 : g t (wipeR ρ vs) with
  | none => rw [e1] at p; exact p.elim
  | some ρ2 =>
    simp only [e1] at p
    refine ⟨_, G1, wipeR ρ vs, t, r1, hx, ρ2, e1, fun σ2 ag r2 => ⟨wipe_agr ag hix, ?_⟩⟩
    have hw : wipe σ2 vs = wipe σ vs := wipe_agr ag hix
    refine ⟨_, G1, ρ2, r2, ?_⟩
    have plb : ∀ (ρ' : Ro), plainAt (backR ρ vs ρ') vs = true := fun ρ' => List.all_eq_true.mpr fun v hv => by
      have pv := List.all_eq_true.mp pl v hv
      cases q : (backR ρ vs ρ')[v]? with
      | none => rw [List.getD_eq_getElem?_getD, q]; rfl
      | some s =>
        rw [List.getD_eq_getElem?_getD, q]
        rcases backR_get q with ⟨_, e⟩ | ⟨n, _⟩
        · rw [show (some s).getD Sl.no = s from rfl, e]; exact pv
        · exact absurd hv n
    have leave : ∀ {G' : Hp} {ρ' : Ro} {H' : Hp}, Same G1 G' → Rel D { φ with pin := upd φ.pin L (.lst ys) } G' σ2 ρ' H' → Rel D φ G' σ (backR ρ vs ρ') H' ∧ H' L = some (.lst ys) ∧ G' L = none ∧ ∀ i, ¬ MutAt σ (backR ρ vs ρ') i L := fun {G' ρ' H'} s' r' => by
      obtain ⟨q1, q2⟩ := r'.pin L (.lst ys) upd_same
      refine ⟨r'.unblock hw r hp (s1.trans s') pl, q1, q2, fun i mi => ?_⟩
      obtain ⟨⟨u, h1, h2⟩, h3⟩ := mi
      rcases backR_get h1 with ⟨n, rfl⟩ | ⟨n, e⟩
      · exact (plain_mut (List.all_eq_true.mp pl _ n) h2).elim
      · have e3 : σ[i]? = σ2[i]? := by
          have := congrArg (·[i]?) hw
          simp only [wipe_get n] at this
          exact this.symm
        have z := r'.pinM i L ⟨⟨u, e, h2⟩, by rw [← e3]; exact h3⟩
        have z' : upd φ.pin L (.lst ys) L = none := z
        rw [upd_same] at z'; cases z'
    cases e2 : test ρ2 with
    | bad => simp only [e2] at p; exact p.elim
    | ex c ks us ρ3 => simp only [e2] at p; exact p.elim
    | ok b ρ3 =>
      simp only [e2] at p
      intro G3 H3 s3 r3
      cases b with
      | false =>
        simp only [Bool.false_eq_true, if_false] at p ⊢
        obtain ⟨l1, l2, l3, l4⟩ := leave s3 r3
        exact next G3 _ H3 acc ys (s1.trans s3) l1 l2 l3 l4 (plb _) (ra.mono (s1.trans s3)) (Nat.le_succ _) (Post.weak (s1.trans s3) p)
      | true =>
        simp only [if_true] at p ⊢
        refine ⟨_, G3, ρ3, r3, ?_⟩
        cases e3 : fe ρ3 with
        | bad => simp only [e3] at p; exact p.elim
        | ex c ks us ρ4 => simp only [e3] at p; exact p.elim
        | ok ev ρ4 =>
          simp only [e3] at p
          intro G4 H4 s4 r4 y hy
          cases e4 : ground1 ev with
          | none => simp only [e4] at p; exact p.elim
          | some u =>
            simp only [e4] at p
            obtain ⟨G5, s5, r5, hh⟩ := settle r4 hy
            have s15 : Same G1 G5 := (s3.trans s4).trans s5
            obtain ⟨l1, l2, l3, l4⟩ := leave s15 r5
            exact ⟨ys, l2, small, next G5 _ _ (acc ++ [u]) (ys ++ [y]) (s1.trans s15) (l1.other l3 hH hp l4) upd_same l3 l4 (plb _) ((ra.mono (s1.trans s15)).snoc (hh.ground e4)) (by simp) (Post.weak (s1.trans s15) p)⟩
theorem lc_rd {φ : Fr} {W : WX} {fi : Ro → R (List T)} {g : T → Ro → Option Ro} {test : TF} {fe : EF} {ix vs : List Nat} (hix : ∀ i ∈ ix, i ∈ vs) {σ : L2.St} {H : Hp} {Q : VK} (h : rdE D φ W (eLc fi g test fe vs) σ H Q) : tLc (rdI D φ W fi) (PGex D ix g) (PTex D test) (PEex D fe) vs σ H Q := by
    obtain ⟨G, ρ, r, p⟩ := h
    refine ⟨G, ρ, r, Post.imp (Post.bind p) fun ts ρ1 G1 H1 s1 r1 p1 J G2 s2 r2 it L hL => ?_⟩
    split at p1
    · rename_i cond
      obtain ⟨pl, few⟩ := cond
      obtain ⟨Gp, Y, w, hG, hY⟩ := it
      have hH := r2.gone hL
      have hp := r2.gonePin hL
      refine lc_it w (fun i H => ∃ G ρ acc ys, Same G2 G ∧ Rel D φ G σ ρ H ∧ H L = some (.lst ys) ∧ G L = none ∧ (∀ i, ¬ MutAt σ ρ i L) ∧ plainAt ρ vs = true ∧ Reps D G acc ys ∧ acc.length ≤ i ∧ Post D φ W G σ (PV D φ σ Q) (loopC g test fe vs (ts.drop i) acc ρ))
        ⟨G2, ρ1, [], [], .refl _, r2.grow (Same.fresh_up hL), upd_same, same_none r2.sub hL, r2.not_mut hL, pl, .nil, Nat.le_refl _, Post.weak s2 p1⟩
        (fun i H _ ⟨G, ρ, _, _, s, r, _⟩ => hG φ G σ ρ H (PinUp.refl _) s r) ?_ ?_
      · rintro i x H H' hi ⟨G3, ρ3, acc, ys, s3, r3, l1, l2, l3, l4, l5, l6, p3⟩ y
        have ht' : ts[i]? = some ts[i] := by simp [hi]
        obtain ⟨hY1, hY2⟩ := hY i H x H' _ ht' (s3.trans r3.sub) y
        rw [List.drop_eq_getElem_cons hi] at p3
        refine lc_turn r3 s3 l1 l2 hH hp l3 l4 hix l5 hY1 hY2 ?_ p3 fun G' ρ' H' acc' ys' s' r' k1 k2 k3 k4 k5 k6 p' => ⟨G', ρ', acc', ys', s3.trans s', r', k1, k2, k3, k4, k5, by omega, p'⟩
        rw [l5.len, sizeLine_eq]; omega
      · rintro H ⟨G3, ρ3, acc, ys, s3, r3, l1, l2, l3, l4, l5, l6, p3⟩
        rw [List.drop_length] at p3
        exact p3 G3 H (.refl _) r3 _ ⟨L, ys, rfl, l1, l2, hH, hp, l5, l3⟩
    · exact p1.elim
theorem e_lc {φ : Fr} {W : WX} {elt tg iter : Expr} {ifs : List Expr} {scope : Scope} {own : List (Str × Nat)} {pos : Pos} {fi : Ro → R (List T)} {g : T → Ro → Option Ro} {test : TF} {fe : EF} {ix : List Nat} (hc : X.calm = true) (hN : X.N.Nodup) (hi : IX X D φ W tg iter fi) (ok : BlkOk X.N X.env.scope scope own)
    (hix : ∀ i ∈ ix, i ∈ own.map (·.2))
    (hg : ∀ (s : Shared) (H : Hp) (C : Addr) (cl : List (Str × Addr)) (fp : List Addr) (φ : Fr), GX (X.blk s H scope (compEnvC scope cl C X.env) fp) D φ ix tg g) (ht : ∀ (s : Shared) (H : Hp) (C : Addr) (cl : List (Str × Addr)) (fp : List Addr), PTs (X.blk s H scope (compEnvC scope cl C X.env) fp) ifs (PTex D test))
    (he : ∀ (s : Shared) (H : Hp) (C : Addr) (cl : List (Str × Addr)) (fp : List Addr) (φ : Fr), EX (X.blk s H scope (compEnvC scope cl C X.env) fp) D φ W0 elt fe) (hs : ∀ x, foldedSetIterable iter X.env x = pure x := by intro _; rfl) :
    EX X D φ W (.ListComp elt [⟨tg, iter, ifs, 0⟩] scope pos) (eLc fi g test fe (own.map (·.2))) :=
  ⟨pe_mono (pe_lc hc hN hi.pi ok (fun s H C cl fp => pg_ex (hg s H C cl fp)) ht (fun s H C cl fp => pe_ex (he s H C cl fp)) hs) fun σ H Q h => lc_rd hix h⟩
/-- name = [..] -/
theorem s_setLc {φ : Fr} {W : WX} {i : Nat} {y : Str} {py : Pos} {elt tg iter : Expr} {ifs : List Expr} {scope : Scope} {own : List (Str × Nat)} {pos spos : Pos} {fi : Ro → R (List T)} {g : T → Ro → Option Ro} {test : TF} {fe : EF} {ix : List Nat} (hc : X.calm = true) (hN : X.N.Nodup) (hy : X.N[i]? = some y) (hyl : X.env.scope.names.lookup y = some .local)
    (hi : IX X D φ W tg iter fi) (ok : BlkOk X.N X.env.scope scope own) (hix : ∀ i ∈ ix, i ∈ own.map (·.2))
    (hg : ∀ (s : Shared) (H : Hp) (C : Addr) (cl : List (Str × Addr)) (fp : List Addr) (φ : Fr), GX (X.blk s H scope (compEnvC scope cl C X.env) fp) D φ ix tg g) (ht : ∀ (s : Shared) (H : Hp) (C : Addr) (cl : List (Str × Addr)) (fp : List Addr), PTs (X.blk s H scope (compEnvC scope cl C X.env) fp) ifs (PTex D test))
    (he : ∀ (s : Shared) (H : Hp) (C : Addr) (cl : List (Str × Addr)) (fp : List Addr) (φ : Fr), EX (X.blk s H scope (compEnvC scope cl C X.env) fp) D φ W0 elt fe)
    (hsw : swapsWith (.ListComp elt [⟨tg, iter, ifs, 0⟩] scope pos) (some (.Name y py)) spos.line X.env = pure true := by rfl) (hs : ∀ x, foldedSetIterable iter X.env x = pure x := by intro _; rfl) :
    SX X D φ W (.Assign [.Name y py] (.ListComp elt [⟨tg, iter, ifs, 0⟩] scope pos) spos) (sSet i (eLc fi g test fe (own.map (·.2)))) :=
  ⟨ps_mono (ps_setLc hc hN hy hyl hsw hi.pi ok (fun s H C cl fp => pg_ex (hg s H C cl fp)) ht (fun s H C cl fp => pe_ex (he s H C cl fp)) hs) fun E σ H ⟨G, ρ, r, p⟩ => by
    refine lc_rd (φ := φ) (W := W) hix ⟨G, ρ, r, Post.imp (PostS.bind p) fun x ρ1 G1 H1 s1 r1 p1 v hv => ?_⟩
    cases x with
    | val t => exact p1 G1 _ H1 (.refl _) (r1.store hv)
    | own xs => exact p1 G1 _ H1 (.refl _) (r1.storeOwn hv)
    | pk i => exact p1.elim⟩
end
end VI

set_option Elab.async false
set_option linter.all false
set_option maxRecDepth 100000
set_option maxHeartbeats 4000000
namespace VI
open PySem L2 PySem.Spec PyProof.Rows

/-! ### int operations -/
def bigOk (i : Int) : Bool := decide (i.natAbs.log2 < 400000)
def divOk (j : Int) : Bool := decide (0 < j) && decide (j.natAbs.log2 < 9000)
def opAdd : T → T → Out
  | .int i, .int j => .v (.int (i + j))
  | .str a, .str b => if a.length + b.length ≤ 100000 then .v (.str (a ++ b)) else .no
  | .lst a, .lst b => if a.length + b.length ≤ 100000 then .l (a ++ b) else .no
  | .tup a, .tup b => if a.length + b.length ≤ 100000 then (match a, b with
    | [], b => .v (.tup b)
    | a, [] => .v (.tup a)
    | a, b => .u (a ++ b)) else .no
  | _, _ => .no
def opSub : T → T → Out
  | .int i, .int j => .v (.int (i - j))
  | _, _ => .no
def opMul : T → T → Out
  | .int i, .int j => if bigOk i = true ∧ bigOk j = true then .v (.int (i * j)) else .no
  | .lst a, .int k => if -100000 ≤ k ∧ a.length * k.toNat ≤ 100000 ∧ k ≤ 100000 then .l (List.replicate k.toNat a).flatten else .no
  | _, _ => .no
def opFdiv : T → T → Out
  | .int i, .int j => if divOk j = true then .v (.int (i / j)) else .no
  | _, _ => .no
def opMod : T → T → Out
  | .int i, .int j => if 0 < j then .v (.int (i % j)) else .no
  | _, _ => .no
def opPow : T → T → Out
  | .int i, .int j => if 0 ≤ j ∧ j ≤ 100 ∧ i.natAbs ≤ 1000 then .v (.int (i ^ j.toNat)) else .no
  | _, _ => .no
def opNeg : T → Out
  | .int i => .v (.int (-i))
  | _ => .no
def opLt : T → T → Out
  | .int i, .int j => .v (.bl (decide (i < j)))
  | _, _ => .no
def opLe : T → T → Out
  | .int i, .int j => .v (.bl (decide (i ≤ j)))
  | _, _ => .no
def opGt : T → T → Out
  | .int i, .int j => .v (.bl (decide (j < i)))
  | _, _ => .no
def opGe : T → T → Out
  | .int i, .int j => .v (.bl (decide (j ≤ i)))
  | _, _ => .no
/-! ### == of data -/
mutual
def pd : T → Option PyData
  | .non => some .none
  | .bl b => some (.bool b)
  | .int i => some (.int i)
  | .str x => some (.str x)
  | .tup ts => (pds ts).map .tuple
  | .lst ts => (pds ts).map .list
  | .sq ts => (pds ts).map .list
  | .ins _ _ _ => none
  | .dct _ => none
  | .tf _ => none
def pds : List T → Option (List PyData)
  | [] => some []
  | t :: ts => match pd t, pds ts with
    | some d, some ds => some (d :: ds)
    | _, _ => none
end
def eqD (neg : Bool) (t u : T) : Out := match pd t, pd u with
  | some d, some e => if SeqAt.shaped d = true ∧ SeqAt.shaped e = true then .v (.bl (if neg then !PyData.eqv d e else PyData.eqv d e)) else .no
  | _, _ => .no
def toV : T → V
  | .bl b => .bl b
  | .int i => .int i
  | .str x => .str x
  | _ => .non
def flatT : T → Bool
  | .non => true
  | .bl _ => true
  | .int _ => true
  | .str _ => true
  | _ => false
def inT (x : T) (ts : List T) : Bool := ts.any fun y => eqV (toV y) (toV x)
def opIn (neg : Bool) : T → T → Out
  | x, .lst ts => if flatT x = true ∧ ts.all flatT = true then .v (.bl (if neg then !inT x ts else inT x ts)) else .no
  | x, .tup ts => if flatT x = true ∧ ts.all flatT = true then .v (.bl (if neg then !inT x ts else inT x ts)) else .no
  | x, .sq ts => if flatT x = true ∧ ts.all flatT = true then .v (.bl (if neg then !inT x ts else inT x ts)) else .no
  | _, _ => .no
def isN : T → Bool
  | .non => true
  | _ => false
def opIsN (neg : Bool) (t : T) : Out := .v (.bl (if neg then !isN t else isN t))
def isB (b : Bool) : T → Bool
  | .bl c => c == b
  | _ => false
def opIsB (b : Bool) : T → T → Out := fun t _ => .v (.bl (isB b t))
def opIx : T → T → Out
  | .lst ts, .int i => (match (atIx ts.length i).bind fun j => ts[j]? with | some t => .v t | none => .no)
  | .tup ts, .int i => (match (atIx ts.length i).bind fun j => ts[j]? with | some t => .v t | none => .no)
  | .sq ts, .int i => (match (atIx ts.length i).bind fun j => ts[j]? with | some t => .v t | none => .no)
  | _, _ => .no
section
variable {D : Wd} {X : Cx}
theorem line_le {n : Nat} (h : n ≤ 100000) : n ≤ sizeLine := line_of h
theorem op2_sub : Op2 D (rI0 fun i j => .int (i - j)) opSub := fun G H x y t u Q s ht hu ho => by
  cases t <;> cases u <;> first | exact ho.elim | (cases ht; cases hu; exact ⟨_, _, rfl, rfl, ho _ H (.refl _) rfl⟩)
theorem op2_fdiv : Op2 D (rI CDivW fun i j => .int (i / j)) opFdiv := fun G H x y t u Q s ht hu ho => by
  cases t <;> cases u <;> first | exact ho.elim | skip
  cases ht; cases hu
  simp only [opFdiv] at ho
  split at ho
  · rename_i h
    simp only [divOk, Bool.and_eq_true, decide_eq_true_eq] at h
    exact ⟨_, _, rfl, rfl, h, ho _ H (.refl _) rfl⟩
  · exact ho.elim
theorem op2_mod : Op2 D (rI (fun _ j => 0 < j) fun i j => .int (i % j)) opMod := fun G H x y t u Q s ht hu ho => by
  cases t <;> cases u <;> first | exact ho.elim | skip
  cases ht; cases hu
  simp only [opMod] at ho
  split at ho
  · rename_i h; exact ⟨_, _, rfl, rfl, h, ho _ H (.refl _) rfl⟩
  · exact ho.elim
theorem op2_pow : Op2 D (rI CPow fun i j => .int (i ^ j.toNat)) opPow := fun G H x y t u Q s ht hu ho => by
  cases t <;> cases u <;> first | exact ho.elim | skip
  cases ht; cases hu
  simp only [opPow] at ho
  split at ho
  · rename_i h; exact ⟨_, _, rfl, rfl, ⟨h.1, by omega, by have := h.2.2; omega⟩, ho _ H (.refl _) rfl⟩
  · exact ho.elim
theorem op2_lt : Op2 D (rI0 fun i j => .bl (decide (i < j))) opLt := fun G H x y t u Q s ht hu ho => by
  cases t <;> cases u <;> first | exact ho.elim | (cases ht; cases hu; exact ⟨_, _, rfl, rfl, ho _ H (.refl _) rfl⟩)
theorem op2_le : Op2 D (rI0 fun i j => .bl (decide (i ≤ j))) opLe := fun G H x y t u Q s ht hu ho => by
  cases t <;> cases u <;> first | exact ho.elim | (cases ht; cases hu; exact ⟨_, _, rfl, rfl, ho _ H (.refl _) rfl⟩)
theorem op2_gt : Op2 D (rI0 fun i j => .bl (decide (j < i))) opGt := fun G H x y t u Q s ht hu ho => by
  cases t <;> cases u <;> first | exact ho.elim | (cases ht; cases hu; exact ⟨_, _, rfl, rfl, ho _ H (.refl _) rfl⟩)
theorem op2_ge : Op2 D (rI0 fun i j => .bl (decide (j ≤ i))) opGe := fun G H x y t u Q s ht hu ho => by
  cases t <;> cases u <;> first | exact ho.elim | (cases ht; cases hu; exact ⟨_, _, rfl, rfl, ho _ H (.refl _) rfl⟩)
theorem op1_neg : Op1 D (rU fun i => .int (-i)) opNeg := fun G H x t Q s ht ho => by
  cases t <;> first | exact ho.elim | (cases ht; exact ⟨_, rfl, ho _ H (.refl _) rfl⟩)
def rAddA (K : PySem.W.Frag) : R2 := fun x y H Q => (((rI0 fun i j => .int (i + j)) x y H Q ∨ (∃ i j, x = V.str i ∧ y = V.str j ∧ i.length + j.length ≤ sizeLine ∧ Q (.str (i ++ j)) H)) ∨ rCat x y H Q) ∨ rCatA K x y H Q
theorem op_addA : OpR X (binaryOp .Add) (rAddA X.K) := ((op_add.or op_add_str).or op_cat).or op_catA
theorem op2_add : Op2 D (rAddA D.K) opAdd := fun G H x y t u Q s ht hu ho => by
  cases t with
  | int i =>
    cases u <;> first | exact ho.elim | (cases ht; cases hu; exact .inl (.inl (.inl ⟨_, _, rfl, rfl, ho _ H (.refl _) rfl⟩)))
  | str a =>
    cases u <;> first | exact ho.elim | skip
    cases ht; cases hu
    simp only [opAdd] at ho
    split at ho
    · rename_i h; exact .inl (.inl (.inr ⟨_, _, rfl, rfl, line_le h, ho _ H (.refl _) rfl⟩))
    · exact ho.elim
  | lst a =>
    cases u <;> first | exact ho.elim | skip
    obtain ⟨p, vs, rfl, h1, h2⟩ := ht
    obtain ⟨q, ws, rfl, h3, h4⟩ := hu
    simp only [opAdd] at ho
    split at ho
    · rename_i h; exact .inl (.inr ⟨p, q, vs, ws, rfl, rfl, h1, h3, by rw [h2.len, h4.len]; exact line_le h, fun n hn => ho n _ _ (Same.fresh_up hn) hn upd_same (h2.append h4)⟩)
    · exact ho.elim
  | tup a =>
    cases u <;> first | exact ho.elim | skip
    rename_i b
    have ht0 := ht
    have hu0 := hu
    obtain ⟨p, vs, rfl, h1, h2⟩ := ht
    obtain ⟨q, ws, rfl, h3, h4⟩ := hu
    have l2 := h2.len
    have l4 := h4.len
    simp only [opAdd] at ho
    split at ho
    · rename_i hl
      refine .inr ⟨p, q, vs, ws, rfl, rfl, same_t s h1, same_t s h3, by rw [l2, l4]; exact line_le hl, fun e => ?_, fun e1 e2 => ?_, fun e1 e2 n hn => ?_⟩
      · subst e
        cases a with
        | nil => exact ho _ H (.refl _) hu0
        | cons _ _ => cases l2
      · subst e2
        cases b with
        | cons _ _ => cases l4
        | nil =>
          cases a with
          | nil => exact absurd (List.length_eq_zero_iff.mp (by simpa using l2)) e1
          | cons _ _ => exact ho _ H (.refl _) ht0
      · cases a with
        | nil => exact absurd (List.length_eq_zero_iff.mp (by simpa using l2)) e1
        | cons _ _ =>
          cases b with
          | nil => exact absurd (List.length_eq_zero_iff.mp (by simpa using l4)) e2
          | cons _ _ => exact ho n _ _ (Same.fresh_up hn) hn upd_same (h2.append h4)
    · exact ho.elim
  | _ => exact ho.elim
theorem Reps.rep {G : Hp} {ts : List T} {vs : List V} (h : Reps D G ts vs) : ∀ k : Nat, Reps D G (List.replicate k ts).flatten (List.replicate k vs).flatten
  | 0 => .nil
  | k + 1 => by rw [List.replicate_succ, List.replicate_succ, List.flatten_cons, List.flatten_cons]; exact h.append (h.rep k)
def rMulA : R2 := fun x y H Q => (rI CMulW fun i j => .int (i * j)) x y H Q ∨ rRep x y H Q
theorem op_mulA : OpR X (binaryOp .Mult) rMulA := op_mulW.or op_rep
theorem op2_mul : Op2 D rMulA opMul := fun G H x y t u Q s ht hu ho => by
  cases t with
  | int i =>
    cases u <;> first | exact ho.elim | skip
    cases ht; cases hu
    simp only [opMul] at ho
    split at ho
    · rename_i h
      simp only [bigOk, decide_eq_true_eq] at h
      exact .inl ⟨_, _, rfl, rfl, by unfold CMulW; omega, ho _ H (.refl _) rfl⟩
    · exact ho.elim
  | lst a =>
    cases u <;> first | exact ho.elim | skip
    obtain ⟨p, vs, rfl, h1, h2⟩ := ht
    cases hu
    simp only [opMul] at ho
    split at ho
    · rename_i k h
      exact .inr ⟨p, k, vs, rfl, rfl, h1, by omega, by omega, by rw [h2.len]; exact line_le h.2.1, fun n hn => ho n _ _ (Same.fresh_up hn) hn upd_same (h2.rep _)⟩
    · exact ho.elim
  | _ => exact ho.elim

mutual
theorem pd_dp {G H : Hp} (s : Same G H) : ∀ {t : T} {d : PyData} {v : V}, pd t = some d → Rep D G t v → Dp D.K H v d
  | .non, d, v, h, r => by cases h; cases r; exact .non
  | .bl b, d, v, h, r => by cases h; cases r; exact .bl b
  | .int i, d, v, h, r => by cases h; cases r; exact .int i
  | .str x, d, v, h, r => by cases h; cases r; exact .str x
  | .tup ts, d, v, h, r => by
    simp only [pd, Option.map_eq_some_iff] at h
    obtain ⟨ds, e, rfl⟩ := h
    obtain ⟨a, vs, rfl, q, r⟩ := r
    exact .tup (same_t s q) (pds_dp s e r)
  | .lst ts, d, v, h, r => by
    simp only [pd, Option.map_eq_some_iff] at h
    obtain ⟨ds, e, rfl⟩ := h
    obtain ⟨a, vs, rfl, q, r⟩ := r
    exact .lst (.of (s _ _ q)) (pds_dp s e r)
  | .sq ts, d, v, h, r => by
    simp only [pd, Option.map_eq_some_iff] at h
    obtain ⟨ds, e, rfl⟩ := h
    obtain ⟨a, vs, rfl, q, r⟩ := r
    exact .lst (same_l s q) (pds_dp s e r)
  | .ins _ _ _, d, v, h, r => by cases h
  | .dct _, d, v, h, r => by cases h
  | .tf _, d, v, h, r => by cases h
theorem pds_dp {G H : Hp} (s : Same G H) : ∀ {ts : List T} {ds : List PyData} {vs : List V}, pds ts = some ds → Reps D G ts vs → DpAll D.K H vs ds
  | [], ds, vs, h, r => by cases h; cases r; exact .nil
  | t :: ts, ds, vs, h, r => by
    obtain ⟨v, r', rfl, r1, r2⟩ := r
    simp only [pds] at h
    split at h
    · rename_i d ds' e1 e2
      cases h
      exact .cons (pd_dp s e1 r1) (pds_dp s e2 r2)
    · cases h
end
theorem pdU {G H : Hp} (s : Same G H) {t : T} {d : PyData} {v : V} (h : pd t = some d) (r : RepU D G H t v) : Dp D.K H v d := by
  cases t with
  | lst ts =>
    simp only [pd, Option.map_eq_some_iff] at h
    obtain ⟨ds, e, rfl⟩ := h
    obtain ⟨a, vs, rfl, q, r⟩ := r
    exact .lst (.of q) (pds_dp s e r)
  | ins _ _ _ => cases h
  | _ => exact pd_dp s h r
theorem op2_eq : Op2 D (rEqD D.K) (eqD false) := fun G H x y t u Q s ht hu ho => by
  unfold eqD at ho
  split at ho
  · rename_i d e e1 e2
    split at ho
    · rename_i h; exact ⟨d, e, pdU s e1 ht, pdU s e2 hu, h.1, h.2, ho _ H (.refl _) rfl⟩
    · exact ho.elim
  · exact ho.elim
theorem op2_ne : Op2 D (rNeD D.K) (eqD true) := fun G H x y t u Q s ht hu ho => by
  unfold eqD at ho
  split at ho
  · rename_i d e e1 e2
    split at ho
    · rename_i h; exact ⟨d, e, pdU s e1 ht, pdU s e2 hu, h.1, h.2, ho _ H (.refl _) rfl⟩
    · exact ho.elim
  · exact ho.elim
theorem flat_rep {G : Hp} {t : T} {v : V} (f : flatT t = true) (r : Rep D G t v) : v = toV t ∧ flatV v = true := by
  cases t <;> first | (cases r; exact ⟨rfl, rfl⟩) | exact nomatch f
theorem flat_use {G H : Hp} {t : T} {v : V} (f : flatT t = true) (r : RepU D G H t v) : v = toV t ∧ flatV v = true := by
  cases t <;> first | (cases r; exact ⟨rfl, rfl⟩) | exact nomatch f
theorem flats {G : Hp} : ∀ {ts : List T} {vs : List V}, ts.all flatT = true → Reps D G ts vs → vs = ts.map toV ∧ vs.all flatV = true
  | [], _, _, r => by cases r; exact ⟨rfl, rfl⟩
  | t :: ts, _, f, ⟨v, r, e, r1, r2⟩ => by
    subst e
    simp only [List.all_cons, Bool.and_eq_true] at f
    obtain ⟨h1, h2⟩ := flat_rep f.1 r1
    obtain ⟨h3, h4⟩ := flats f.2 r2
    exact ⟨by rw [h1, h3]; rfl, by simp [h2, h4]⟩
theorem inV_map {x : T} {ts : List T} : inV (toV x) (ts.map toV) = inT x ts := by
  unfold inV inT; rw [List.any_map]; rfl
theorem op2_in (neg : Bool) : Op2 D (rIn D.K neg) (opIn neg) := fun G H x y t u Q s ht hu ho => by
  cases u <;> first | exact ho.elim | skip
  all_goals
    rename_i ts
    simp only [opIn] at ho
    split at ho
    · rename_i h
      obtain ⟨p, vs, rfl, h1, h2⟩ := hu
      obtain ⟨e1, f1⟩ := flat_use h.1 ht
      obtain ⟨e2, f2⟩ := flats h.2 h2
      have q : inV x vs = inT t ts := by rw [e1, e2, inV_map]
      refine ⟨p, vs, rfl, ?_, f1, f2, by rw [q]; exact ho _ H (.refl _) rfl⟩
      first
        | exact .inl (.of h1)
        | exact .inl (same_l s h1)
        | exact .inr (same_t s h1)
    · exact ho.elim
theorem rep_non {G : Hp} {t : T} {v : V} (r : Rep D G t v) : decide (v = .non) = isN t := by
  cases t with
  | non => cases r; rfl
  | bl _ => cases r; rfl
  | int _ => cases r; rfl
  | str _ => cases r; rfl
  | tup _ => obtain ⟨a, vs, rfl, _⟩ := r; rfl
  | lst _ => obtain ⟨a, vs, rfl, _⟩ := r; rfl
  | sq _ => obtain ⟨a, vs, rfl, _⟩ := r; rfl
  | ins _ _ _ => obtain ⟨a, dx, vs, rfl, _⟩ := r; rfl
  | dct _ => obtain ⟨a, rfl, _⟩ := r; rfl
  | tf _ => obtain ⟨a, vs, o, rfl, _⟩ := r; rfl
theorem use_non {G H : Hp} {t : T} {v : V} (r : RepU D G H t v) : decide (v = .non) = isN t := by
  cases t with
  | lst _ => obtain ⟨a, vs, rfl, _⟩ := r; rfl
  | ins _ _ _ => obtain ⟨a, dx, vs, rfl, _⟩ := r; rfl
  | non => exact rep_non (D := D) (G := G) r
  | bl _ => exact rep_non (D := D) (G := G) r
  | int _ => exact rep_non (D := D) (G := G) r
  | str _ => exact rep_non (D := D) (G := G) r
  | tup _ => exact rep_non (D := D) (G := G) r
  | sq _ => exact rep_non (D := D) (G := G) r
  | dct _ => exact rep_non (D := D) (G := G) r
  | tf _ => exact rep_non (D := D) (G := G) r
theorem op2_isN : Op2 D (fun x y H Q => y = .non ∧ Q (.bl (decide (x = .non))) H) (fun t u => match u with | .non => opIsN false t | _ => .no) := fun G H x y t u Q s ht hu ho => by
  cases u <;> first | exact ho.elim | skip
  cases hu
  exact ⟨rfl, by rw [use_non ht]; exact ho _ H (.refl _) rfl⟩
theorem op2_notN : Op2 D (fun x y H Q => y = .non ∧ Q (.bl (!decide (x = .non))) H) (fun t u => match u with | .non => opIsN true t | _ => .no) := fun G H x y t u Q s ht hu ho => by
  cases u <;> first | exact ho.elim | skip
  cases hu
  exact ⟨rfl, by rw [use_non ht]; exact ho _ H (.refl _) rfl⟩
/-- x is True, x is False -/
def rIsC (b : Bool) : R2 := fun x y H Q => y = .bl b ∧ Q (.bl (decide (x = .bl b))) H
theorem op_isC (b : Bool) : OpR X (compareOp .Is) (rIsC b) := by
  intro pins s σ H x y v u Q I rx ry h
  obtain ⟨rfl, q⟩ := h
  cases (show u = Value.bool b from ry)
  by_cases e : x = .bl b
  · subst e
    cases (show v = Value.bool b from rx)
    exact wpAny_is_self rfl ⟨.bl true, H, I, rfl, by simpa using q⟩
  · have ne : v ≠ Value.bool b := fun z => by
      subst z
      exact e (rx.inj (show RelV (.bl b) (Value.bool b) from rfl))
    refine wpAny_is_other ?_ ne ⟨.bl false, H, I, rfl, by simpa [e] using q⟩
    cases x with
    | non => cases rx; rfl
    | bl _ => cases rx; rfl
    | int _ => obtain ⟨t, rfl⟩ := rx; rfl
    | str _ => obtain ⟨t, rfl⟩ := rx; rfl
    | byt _ => obtain ⟨t, rfl⟩ := rx; rfl
    | flt _ => obtain ⟨t, rfl⟩ := rx; rfl
    | ref _ => cases rx; rfl
    | ty _ => cases rx; rfl
theorem use_bl {G H : Hp} {t : T} {v : V} {b : Bool} (r : RepU D G H t v) : decide (v = .bl b) = isB b t := by
  cases t with
  | bl c => cases r; simp [isB]; cases c <;> cases b <;> rfl
  | lst _ => obtain ⟨a, vs, rfl, _⟩ := r; rfl
  | ins _ _ _ => obtain ⟨a, dx, vs, rfl, _⟩ := r; rfl
  | tup _ => obtain ⟨a, vs, rfl, _⟩ := r; rfl
  | sq _ => obtain ⟨a, vs, rfl, _⟩ := r; rfl
  | dct _ => obtain ⟨a, rfl, _⟩ := r; rfl
  | tf _ => obtain ⟨a, vs, o, rfl, _⟩ := r; rfl
  | _ => cases r; rfl
theorem op2_isC (b : Bool) : Op2 D (rIsC b) (fun t u => match u with | .bl c => if c = b then .v (.bl (isB b t)) else .no | _ => .no) := fun G H x y t u Q s ht hu ho => by
  cases u <;> first | exact ho.elim | skip
  rename_i c
  cases hu
  simp only at ho
  split at ho
  · rename_i e; subst e; exact ⟨rfl, by rw [use_bl ht]; exact ho _ H (.refl _) rfl⟩
  · exact ho.elim
theorem atI_of {ts : List T} {vs : List V} {G : Hp} {i : Int} {t : T} (r : Reps D G ts vs) (h : ((atIx ts.length i).bind fun j => ts[j]?) = some t) : ∃ v, atI vs i = some v ∧ Rep D G t v := by
  cases e : atIx ts.length i with
  | none => rw [e] at h; cases h
  | some j =>
    rw [e] at h
    obtain ⟨v, h1, h2⟩ := r.get h
    refine ⟨v, ?_, h2⟩
    unfold atI
    rw [r.len, ← atIx_eq, e]; exact h1
theorem op2_ix : Op2 D (rIx D.K) opIx := fun G H x y t u Q s ht hu ho => by
  cases t <;> first | exact ho.elim | skip
  all_goals
    cases u <;> first | exact ho.elim | skip
    simp only [opIx] at ho
    split at ho
    · rename_i t' e
      obtain ⟨p, vs, rfl, h1, h2⟩ := ht
      cases hu
      obtain ⟨v, g1, g2⟩ := atI_of h2 e
      first
        | exact .inl ⟨p, vs, _, v, rfl, rfl, .of h1, g1, ho v H (.refl _) g2⟩
        | exact .inl ⟨p, vs, _, v, rfl, rfl, same_l s h1, g1, ho v H (.refl _) g2⟩
        | exact .inr (.inl ⟨p, vs, _, v, rfl, rfl, same_t s h1, g1, ho v H (.refl _) g2⟩)
    · exact ho.elim

/-! ### built-in calls -/
def bLen : List T → Out
  | [.lst ts] => .v (.int ts.length)
  | [.tup ts] => .v (.int ts.length)
  | [.sq ts] => .v (.int ts.length)
  | [.str x] => if x.length ≤ 100000 then .v (.int x.length) else .no
  | _ => .no
theorem RepUs.one_of {G H : Hp} {t : T} {xs : List V} (h : RepUs D G H [t] xs) : ∃ x, xs = [x] ∧ RepU D G H t x := by
  cases h with | cons a b => cases b; exact ⟨_, rfl, a⟩
theorem RepUs.two_of {G H : Hp} {t u : T} {xs : List V} (h : RepUs D G H [t, u] xs) : ∃ x y, xs = [x, y] ∧ RepU D G H t x ∧ RepU D G H u y := by
  cases h with | cons a b => cases b with | cons b c => cases c; exact ⟨_, _, rfl, a, b⟩
theorem opN_len : OpN D (fun xs H Q => ∃ x n, xs = [x] ∧ LenV D.K x H n ∧ Q (.int n) H) bLen := fun G H xs ts Q s h ho => by
  unfold bLen at ho
  split at ho
  · obtain ⟨x, rfl, a, vs, rfl, h1, h2⟩ := h.one_of
    exact ⟨_, _, rfl, .inl ⟨vs, .of h1, rfl⟩, by rw [h2.len]; exact ho _ H (.refl _) rfl⟩
  · obtain ⟨x, rfl, a, vs, rfl, h1, h2⟩ := h.one_of
    exact ⟨_, _, rfl, .inr ⟨vs, same_t s h1, rfl⟩, by rw [h2.len]; exact ho _ H (.refl _) rfl⟩
  · obtain ⟨x, rfl, a, vs, rfl, h1, h2⟩ := h.one_of
    exact ⟨_, _, rfl, .inl ⟨vs, same_l s h1, rfl⟩, by rw [h2.len]; exact ho _ H (.refl _) rfl⟩
  · split at ho
    · rename_i hl
      obtain ⟨x, rfl, e⟩ := h.one_of
      cases e
      exact ⟨_, _, rfl, ⟨line_le hl, rfl⟩, ho _ H (.refl _) rfl⟩
    · exact ho.elim
  · exact ho.elim
def bAbs : List T → Out
  | [.int i] => .v (.int (if i < 0 then -i else i))
  | _ => .no
theorem opN_abs : OpN D (fun xs H Q => ∃ i, xs = [.int i] ∧ Q (.int (if i < 0 then -i else i)) H) bAbs := fun G H xs ts Q s h ho => by
  unfold bAbs at ho
  split at ho
  · obtain ⟨x, rfl, e⟩ := h.one_of; cases e; exact ⟨_, rfl, ho _ H (.refl _) rfl⟩
  · exact ho.elim
def bInt : List T → Out
  | [.int i] => .v (.int i)
  | [.bl b] => .v (.int (if b then 1 else 0))
  | _ => .no
theorem opN_int : OpN D (fun xs H Q => (∃ i, xs = [.int i] ∧ Q (.int i) H) ∨ ∃ k, xs = [.bl k] ∧ Q (.int (if k then 1 else 0)) H) bInt := fun G H xs ts Q s h ho => by
  unfold bInt at ho
  split at ho
  · obtain ⟨x, rfl, e⟩ := h.one_of; cases e; exact .inl ⟨_, rfl, ho _ H (.refl _) rfl⟩
  · obtain ⟨x, rfl, e⟩ := h.one_of; cases e; exact .inr ⟨_, rfl, ho _ H (.refl _) rfl⟩
  · exact ho.elim
def bMin : List T → Out
  | [.int i, .int j] => .v (.int (if j < i then j else i))
  | _ => .no
def bMax : List T → Out
  | [.int i, .int j] => .v (.int (if j > i then j else i))
  | _ => .no
theorem opN_min : OpN D (fun xs H Q => ∃ i j, xs = [.int i, .int j] ∧ Q (.int (if j < i then j else i)) H) bMin := fun G H xs ts Q s h ho => by
  unfold bMin at ho
  split at ho
  · obtain ⟨x, y, rfl, e, e'⟩ := h.two_of; cases e; cases e'; exact ⟨_, _, rfl, ho _ H (.refl _) rfl⟩
  · exact ho.elim
theorem opN_max : OpN D (fun xs H Q => ∃ i j, xs = [.int i, .int j] ∧ Q (.int (if j > i then j else i)) H) bMax := fun G H xs ts Q s h ho => by
  unfold bMax at ho
  split at ho
  · obtain ⟨x, y, rfl, e, e'⟩ := h.two_of; cases e; cases e'; exact ⟨_, _, rfl, ho _ H (.refl _) rfl⟩
  · exact ho.elim
def bList : List T → Out
  | [.lst ts] => .l ts
  | [.tup ts] => .l ts
  | [.sq ts] => .l ts
  | _ => .no
def bTuple : List T → Out
  | [.lst ts] => .u ts
  | [.sq ts] => .u ts
  | [.tup ts] => .v (.tup ts)
  | _ => .no
theorem opN_list : OpN D (fun xs H Q => ∃ p ys, xs = [.ref p] ∧ (SqL D.K H p ys ∨ SqT D.K H p ys) ∧ ∀ l, H l = none → Q (.ref l) (upd H l (.lst ys))) bList := fun G H xs ts Q s h ho => by
  unfold bList at ho
  split at ho
  · obtain ⟨x, rfl, a, vs, rfl, h1, h2⟩ := h.one_of
    exact ⟨a, vs, rfl, .inl (.of h1), fun l hl => ho l vs _ (Same.fresh_up hl) hl upd_same h2⟩
  · obtain ⟨x, rfl, a, vs, rfl, h1, h2⟩ := h.one_of
    exact ⟨a, vs, rfl, .inr (same_t s h1), fun l hl => ho l vs _ (Same.fresh_up hl) hl upd_same h2⟩
  · obtain ⟨x, rfl, a, vs, rfl, h1, h2⟩ := h.one_of
    exact ⟨a, vs, rfl, .inl (same_l s h1), fun l hl => ho l vs _ (Same.fresh_up hl) hl upd_same h2⟩
  · exact ho.elim
theorem opN_tuple : OpN D (fun xs H Q => ∃ p ys, xs = [.ref p] ∧ ((SqL D.K H p ys ∧ ∀ l, H l = none → Q (.ref l) (upd H l (.tup ys))) ∨ (SqT D.K H p ys ∧ Q (.ref p) H))) bTuple := fun G H xs ts Q s h ho => by
  unfold bTuple at ho
  split at ho
  · obtain ⟨x, rfl, a, vs, rfl, h1, h2⟩ := h.one_of
    exact ⟨a, vs, rfl, .inl ⟨.of h1, fun l hl => ho l vs _ (Same.fresh_up hl) hl upd_same h2⟩⟩
  · obtain ⟨x, rfl, a, vs, rfl, h1, h2⟩ := h.one_of
    exact ⟨a, vs, rfl, .inl ⟨same_l s h1, fun l hl => ho l vs _ (Same.fresh_up hl) hl upd_same h2⟩⟩
  · obtain ⟨x, rfl, hh⟩ := h.one_of
    obtain ⟨a, vs, rfl, h1, h2⟩ := id hh
    exact ⟨a, vs, rfl, .inr ⟨same_t s h1, ho _ H (.refl _) hh⟩⟩
  · exact ho.elim
def intsT : List T → Option (List Int)
  | [] => some []
  | .int i :: ts => (intsT ts).map (i :: ·)
  | _ :: _ => none
theorem intsT_map : ∀ ns : List Int, intsT (ns.map T.int) = some ns
  | [] => rfl
  | n :: ns => by rw [List.map_cons, intsT, intsT_map ns]; rfl
theorem intsT_of : ∀ {ts : List T} {ns : List Int}, intsT ts = some ns → ts = ns.map T.int
  | [], ns, h => by cases h; rfl
  | .int i :: ts, ns, h => by
    simp only [intsT, Option.map_eq_some_iff] at h
    obtain ⟨ms, e, rfl⟩ := h
    rw [intsT_of e]; rfl
  | .non :: _, _, h => by cases h
  | .bl _ :: _, _, h => by cases h
  | .str _ :: _, _, h => by cases h
  | .tup _ :: _, _, h => by cases h
  | .lst _ :: _, _, h => by cases h
  | .sq _ :: _, _, h => by cases h
  | .ins _ _ _ :: _, _, h => by cases h
def srt (ns : List Int) : List Int := ns.mergeSort (fun a b => decide (a ≤ b))
theorem srt_perm (ns : List Int) : (srt ns).Perm ns := List.mergeSort_perm ns _
theorem srt_sorted (ns : List Int) : (srt ns).Pairwise (· ≤ ·) := by
  have := List.pairwise_mergeSort (le := fun a b : Int => decide (a ≤ b)) (fun a b c h1 h2 => by simp only [decide_eq_true_eq] at *; omega) (fun a b => by simp only [Bool.or_eq_true, decide_eq_true_eq]; omega) ns
  exact this.imp (by simp)
theorem sorted_unique : ∀ {xs ys : List Int}, xs.Perm ys → xs.Pairwise (· ≤ ·) → ys.Pairwise (· ≤ ·) → xs = ys := fun p a b => p.eq_of_pairwise (fun x y _ _ h1 h2 => by omega) a b
def bSorted : List T → Out
  | [.lst ts] => (match intsT ts with | some ns => .l ((srt ns).map T.int) | none => .no)
  | _ => .no
theorem opN_sorted : OpN D (rSortedI D.K) bSorted := fun G H xs ts Q s h ho => by
  unfold bSorted at ho
  split at ho
  · split at ho
    · rename_i ns e
      obtain ⟨x, rfl, a, vs, rfl, h1, h2⟩ := h.one_of
      rw [intsT_of e] at h2
      have hv := reps_ints.mp h2
      subst hv
      exact ⟨a, ns, rfl, .of h1, fun ns' p hp hs hn => by
        have : ns' = srt ns := sorted_unique (hp.trans (srt_perm ns).symm) hs (srt_sorted ns)
        subst this
        exact ho p _ _ (Same.fresh_up hn) hn upd_same (reps_ints.mpr rfl)⟩
    · exact ho.elim
  · exact ho.elim
end

/-! ### isinstance -/
inductive Kind where | non | bl | int | str | tup | lst | ins (c : Nat)
def kindOf : T → Kind
  | .non => .non | .bl _ => .bl | .int _ => .int | .str _ => .str | .tup _ => .tup | .lst _ => .lst | .sq _ => .lst | .ins c _ _ => .ins c | .dct _ => .non | .tf _ => .non
def T.isD : T → Bool | .dct _ => true | .tf _ => true | _ => false
def kval (D : Wd) : Kind → Value
  | .non => .type "NoneType" | .bl => .type "bool" | .int => .type "int" | .str => .type "str" | .tup => .type "tuple" | .lst => .type "list" | .ins c => .ref (D.ca c)
structure InsT (K : PySem.W.Frag) (C : Addr) : Prop where
  cl : Cls K C
  ha : PySem.W.findIn K (.ref C) "__class__" = some (some (.builtin "object.__class__"))
  hn : PySem.W.specialIn K (.builtin "object.__class__") "__get__" = some (some (.builtin "getset_descriptor.__get__"))
  ht : PySem.W.takesIn K (.builtin "object.__class__") = some true
  hm : PySem.W.mroIn K C (.type "object") = some true
structure KitOk (D : Wd) (cv : V) (tab : Kind → Option Bool) : Prop where
  ok : ∃ u, ClsV cv u ∧ (∀ k b, tab k = some b → PySem.W.kitOne D.K (kval D k) u = some b) ∧ ∀ c b, tab (.ins c) = some b → InsT D.K (D.ca c)
def bIsi (tab : Kind → Option Bool) (t : T) : Out := match t.isD, tab (kindOf t) with | false, some b => .v (.bl b) | _, _ => .no
def eIsi (tab : Kind → Option Bool) (fa : EF) : EF := e1 (bIsi tab) fa
section
variable {X : Cx} {D : Wd} {φ : Fr} {W : WX} {a c : Expr} {fa : EF} {p pos : Pos}
theorem tyX_of {G H : Hp} (s : Same G H) {t : T} {v : V} (hd : t.isD = false) (r : RepU D G H t v) (hi : ∀ c, kindOf t = .ins c → InsT D.K (D.ca c)) : TyX D.K H v (kval D (kindOf t)) := by
  cases t with
  | non => cases r; exact .base .non
  | bl b => cases r; exact .base (.bl b)
  | int i => cases r; exact .base (.int i)
  | str x => cases r; exact .base (.str x)
  | tup ts =>
    obtain ⟨p, vs, rfl, h1, _⟩ := r
    rcases same_t s h1 with (h | ⟨o, h⟩) | ⟨o, its, n, h, hc, _⟩
    · exact .base (.tup h)
    · exact .fTuple h
    · exact .kTuple h hc
  | lst ts => obtain ⟨p, vs, rfl, h1, _⟩ := r; exact .base (.lst h1)
  | sq ts =>
    obtain ⟨p, vs, rfl, h1, _⟩ := r
    rcases same_l s h1 with (h | ⟨o, h⟩) | ⟨o, its, n, h, hc, _⟩
    · exact .base (.lst h)
    · exact .base (.frz h)
    · exact .kList h hc
  | ins c ks ts =>
    obtain ⟨p, dx, fs, rfl, h1, _⟩ := r
    have z := hi c rfl
    exact .base (.ins h1 z.cl z.ha z.hn z.ht z.hm)
  | dct _ => cases hd
  | tf _ => cases hd
theorem e_isi {cv : V} {tab : Kind → Option Bool} (k : KitOk D cv tab) (hg : Gl X "isinstance") (hm : X.mg "isinstance" = none) (ha : EX X D φ W a fa) (hc : PE X c (tC cv)) (h1 : starEach (a :: [c]) X.env = (false, eval a X.env) :: starEach [c] X.env := by rfl)
    (h2 : starEach (c :: []) X.env = (false, eval c X.env) :: starEach [] X.env := by rfl) (hpl : (backTo pos (starEach [c] X.env)).any (·.1) = false := by rfl) (hK : X.K = D.K := by rfl) : EX X D φ W (.Call (.Name "isinstance" p) [a, c] [] pos) (eIsi tab fa) :=
  ⟨pe_mono (pe_callB call_isi hg hm boot_isinstance (pa_cons ha.pe (pa_cons hc pa_nil h2) h1) (by decide) (by decide) h1 hpl) fun σ H Q h => by
    have q := one (r := fun x H1 Q => rIsi X.K [x, cv] H1 Q) (fun G H x t Q s ht ho => by
      unfold bIsi at ho
      split at ho
      · rename_i b hd e
        obtain ⟨u, k1, k2, k3⟩ := k.ok
        exact ⟨x, cv, kval D (kindOf t), u, b, rfl, k1, by rw [hK]; exact tyX_of s hd ht (fun c hc => k3 c b (by rw [← hc]; exact e)), by rw [hK]; exact k2 _ b e, ho _ H (.refl _) rfl⟩
      · exact ho.elim) h
    exact q⟩
end
end VI

set_option Elab.async false
set_option linter.all false
set_option maxRecDepth 100000
set_option maxHeartbeats 4000000
namespace VI
open PySem L2 PySem.Spec PyProof.Rows

/-! ### raise -/
section
variable {X : Cx} {C : Addr} {bmB : List Value} {B newId initId : String}
/-- X() -/
theorem pmk_own0 {x : Str} {p pos : Pos} (F : ExcBaseFacts B newId initId bmB) (q : PySem.W.excIn X.K C bmB newId = true) (gC : X.mg x = some (.ref C)) (kC : PySem.W.keepIn X.K (.ref C) = true) (r : Raises X (.ref C)) (hg : Gl X x)
    (hdb : (x == ("__debug__" : Str)) = false := by decide) : PMk X (.Call (.Name x p) [] [] pos) (fun _ H Q => Q (.ref C) none H) := by
  intro pins s σ H Q I h
  refine wpAny_Call_Name_kw (ld_glob I hg gC ?_ hdb)
  refine PySem.W.callWith_K0 I.kIn kC ?_
  show wpAny _ _ (call (.ref C) []) _ _ _
  obtain ⟨bm, N, nm, qn, bs, hdct, sn, sub, ab, col, dd, k0, k1, k2, k3, k5, mN, hC, hN, hni, T⟩ := exc_obj I.kIn q
  refine wpAny_call_exc_subT F T hC hN hni (fun h' e hm => ?_) (by show 0 ≤ sizeLine; rw [sizeLine_eq]; omega)
  exact mk_of I hm r h (I.hok.gone hm.new)
end
def sRaise (c : Nat) : SF := fun ρ => .ex c [] [] ρ
section
variable {X : Cx} {D : Wd} {φ : Fr} {W : WX}
theorem s_raise0 (c : Nat) {e : Expr} {pos : Pos} (hc : X.calm = true) (tk : Takes X W) (he : PMk X e (fun _ H Q => Q (.ref (D.ca c)) none H)) : SX X D φ W (.Raise (some e) none pos) (sRaise c) :=
  ⟨ps_mono (ps_raise hc tk he) fun E σ H ⟨G, ρ, r, p⟩ => p _ none G σ H (.refl _) r ⟨rfl, .inl ⟨rfl, rfl, rfl⟩⟩⟩
end

/-! ### try -/
def xsAt (φ : Fr) (i : Nat) (a : Addr) (cls : Value) (d : Option Addr) : Fr := { φ with xs := fun k => if k = i then some (a, cls, d) else φ.xs k }
section
variable {D : Wd} {φ : Fr} {G : Hp} {σ : L2.St} {ρ : Ro} {H : Hp}
theorem Rel.catch (r : Rel D φ G σ ρ H) (i : Nat) {a : Addr} {cls : Value} {d : Option Addr} {c : Nat} {ks : List Nat} {ts : List T} (h : RepX D G cls d c ks ts) :
    Rel D (xsAt φ i a cls d) G (σ.set i (some (.ref a))) (ρ.set i (.exn c ks ts)) H := by
  have m : ∀ j b, MutAt (σ.set i (some (.ref a))) (ρ.set i (.exn c ks ts)) j b → MutAt σ ρ j b := fun j b ⟨⟨s, h1, h2⟩, h3⟩ => by
    rcases getElem?_set_cases h1 with ⟨_, rfl, _⟩ | ⟨ne, h1⟩
    · cases h2
    · rw [List.getElem?_set_ne (Ne.symm ne)] at h3; exact ⟨⟨s, h1, h2⟩, h3⟩
  refine ⟨by rw [List.length_set, List.length_set]; exact r.len, r.sub, r.base, r.keep, r.alive, r.frame, fun j s e => ?_, fun j k b h1 h2 => r.disj j k b (m j b h1) (m k b h2), r.pin, fun j b h => r.pinM j b (m j b h), fun j b h => by rw [List.length_set]; exact r.ioLt j b h, r.pnOk⟩
  rcases getElem?_set_cases e with ⟨rfl, rfl, hl⟩ | ⟨ne, e⟩
  · exact ⟨a, cls, d, List.getElem?_set_self (by rw [← r.len]; exact hl), by simp [xsAt], h⟩
  · have z := slot_ne (D := D) (φ := φ) (o := some (.ref a)) ne (r.slot j s e)
    cases s with
    | exn c' ks' ts' =>
      obtain ⟨b, cl, d', g1, g2, g3⟩ := z
      exact ⟨b, cl, d', g1, by simp only [xsAt, if_neg ne]; exact g2, g3⟩
    | _ => exact z
theorem Rel.uncatch {i : Nat} {a : Addr} {cls : Value} {d : Option Addr} (r : Rel D (xsAt φ i a cls d) G σ ρ H) : Rel D φ G (σ.set i none) (ρ.set i .no) H := by
  have m : ∀ j b, MutAt (σ.set i none) (ρ.set i .no) j b → MutAt σ ρ j b := fun j b ⟨⟨s, h1, h2⟩, h3⟩ => by
    rcases getElem?_set_cases h1 with ⟨_, rfl, _⟩ | ⟨ne, h1⟩
    · cases h2
    · rw [List.getElem?_set_ne (Ne.symm ne)] at h3; exact ⟨⟨s, h1, h2⟩, h3⟩
  refine ⟨by rw [List.length_set, List.length_set]; exact r.len, r.sub, r.base, r.keep, r.alive, r.frame, fun j s e => ?_, fun j k b h1 h2 => r.disj j k b (m j b h1) (m k b h2), r.pin, fun j b h => r.pinM j b (m j b h), fun j b h => by rw [List.length_set]; exact r.ioLt j b h, r.pnOk⟩
  rcases getElem?_set_cases e with ⟨rfl, rfl, hl⟩ | ⟨ne, e⟩
  · trivial
  · have z := slot_ne (o := none) ne (r.slot j s e)
    cases s with
    | exn c' ks' ts' =>
      obtain ⟨b, cl, d', g1, g2, g3⟩ := z
      simp only [xsAt, if_neg ne] at g2
      exact ⟨b, cl, d', g1, g2, g3⟩
    | _ => exact z
theorem Fin.of_xs {f : Nat → Option (Addr × Value × Option Addr)} (h : Fin D { φ with xs := f } G ρ H) : Fin D φ G ρ H := ⟨h.sub, h.base, h.keep, h.frame, h.alive, h.ioL, h.ioR⟩
end
/-- a handler's class, by the classes that may come -/
def sTryAs (tab : List (Nat × Bool)) (i : Nat) (fb fs : SF) : SF := fun ρ => match fb ρ with
  | .ex c ks ts ρ1 => (match tab.lookup c with
    | some true => (match fs (ρ1.set i (.exn c ks ts)) with
      | .ok fl ρ2 => .ok fl (ρ2.set i .no)
      | _ => .bad)
    | some false => .ex c ks ts ρ1
    | none => .bad)
  | r => r
def sTryOnly (tab : List (Nat × Bool)) (fb fs : SF) : SF := fun ρ => match fb ρ with
  | .ex c ks ts ρ1 => (match tab.lookup c with
    | some true => (match fs ρ1 with
      | .ok fl ρ2 => .ok fl ρ2
      | _ => .bad)
    | some false => .ex c ks ts ρ1
    | none => .bad)
  | r => r
def ExTab (D : Wd) (cv : Value) : List (Nat × Bool) → Prop
  | [] => True
  | (c, b) :: r => PySem.W.exmOne D.K (.ref (D.ca c)) cv = some b ∧ ExTab D cv r
theorem ExTab.of {D : Wd} {cv : Value} : ∀ {tab : List (Nat × Bool)} {c : Nat} {b : Bool}, ExTab D cv tab → tab.lookup c = some b → PySem.W.exmOne D.K (.ref (D.ca c)) cv = some b
  | [], _, _, _, h => by cases h
  | (c', b') :: r, c, b, ⟨h1, h2⟩, h => by
    rw [List.lookup] at h
    split at h
    · rename_i e; cases h; rw [show c = c' from by simpa using e]; exact h1
    · exact h2.of h
section
variable {X : Cx} {D : Wd} {φ : Fr} {W : WX} {x n : Str} {cv : Value} {i : Nat} {body suite : List Stmt} {b₀ : Stmt} {np pos pos' : Pos} {fb fs : SF} {tab : List (Nat × Bool)}
/-- a try's body, under any wish -/
def Body (X : Cx) (D : Wd) (φ : Fr) (body : List Stmt) (fb : SF) : Prop := ∀ (W : WX) (pn : List (Addr × Obj)) (xe : Value → Shared → Prop), Takes (X.tr pn xe) W → PassesOwn (model X.prog X.w) X.A X.env xe → BX (X.tr pn xe) D φ W body fb
theorem s_try_as (hs : X.stack = X.env :: X.outer) (hf : X.env.frame = some X.env.locals) (hN : X.N.Nodup) (hi : X.N[i]? = some n) (hln : X.env.kindOf n = some .local) (hc : Names X x cv) (tk : Takes X W) (ht : ExTab D cv tab)
    (hb : Body X D φ body fb)
    (hsu : ∀ (a : Addr) (oe : Obj) (cls : Value) (d : Option Addr) (pn : List (Addr × Obj)), Zc cls d oe → (∃ vs, oe.data = .fields vs) → BX (X.suite a ((a, oe) :: pn)) D (xsAt φ i a cls d) W0 (b₀ :: suite) fs) (hK : X.K = D.K := by rfl) :
    SX X D φ W (.Try body [.ExceptHandler (some (.Name x np)) (some n) (b₀ :: suite) pos'] [] [] pos) (sTryAs tab i fb fs) :=
  ⟨ps_mono (ps_try_as hs hf hN hi hln hc tk (tb := fun W => rdS D φ W fb) (ts := fun a cls d => rdS D (xsAt φ i a cls d) W0 fs) (fun W pn xe t p => (hb W pn xe t p).ps) (fun a oe cls d pn z f => (hsu a oe cls d pn z f).ps)) fun E σ H ⟨G, ρ, r, p⟩ => by
    refine ⟨G, ρ, r, ?_⟩
    unfold sTryAs at p
    cases e1 : fb ρ with
    | ok a ρ1 => rw [e1] at p; cases a <;> exact p
    | bad => rw [e1] at p; exact p
    | ex c ks ts ρ1 =>
      simp only [e1] at p
      intro cls d G1 σ1 H1 s1 r1 hx
      have hcls := hx.1
      cases e2 : tab.lookup c with
      | none => simp only [e2] at p; exact p.elim
      | some b =>
        simp only [e2] at p
        refine ⟨b, by rw [hK, hcls]; exact ht.of e2, fun hb' a ha => ?_, fun hb' => ?_⟩
        · subst hb'
          simp only at p
          refine ⟨G1, ρ1.set i (.exn c ks ts), r1.catch i hx, ?_⟩
          cases e3 : fs (ρ1.set i (.exn c ks ts)) with
          | ok fl ρ2 =>
            simp only [e3] at p
            cases fl with
            | nx => exact fun G2 σ2 H2 s2 r2 => p G2 _ H2 (s1.trans s2) r2.uncatch
            | rt ev => exact fun v G2 H2 s2 f2 q => p v G2 H2 (s1.trans s2) (by
                have f3 := Fin.of_xs f2
                refine ⟨f3.sub, f3.base, f3.keep, f3.frame, f3.alive, fun j b xs h e => ?_, fun j b c ks ts h e => ?_⟩
                · rcases getElem?_set_cases e with ⟨_, z, _⟩ | ⟨_, e⟩
                  · cases z
                  · exact f3.ioL j b xs h e
                · rcases getElem?_set_cases e with ⟨_, z, _⟩ | ⟨_, e⟩
                  · cases z
                  · exact f3.ioR j b c ks ts h e) (by cases ev <;> exact q)
            | bk => exact fun G2 σ2 H2 s2 r2 => p G2 _ H2 (s1.trans s2) r2.uncatch
            | ct => exact fun G2 σ2 H2 s2 r2 => p G2 _ H2 (s1.trans s2) r2.uncatch
          | ex c ks ts ρ2 => simp only [e3] at p; exact p.elim
          | bad => simp only [e3] at p; exact p.elim
        · subst hb'; exact p cls d G1 σ1 H1 s1 r1 hx⟩
theorem s_try_only (hs : X.stack = X.env :: X.outer) (hf : X.env.frame = some X.env.locals) (hc : Names X x cv) (tk : Takes X W) (ht : ExTab D cv tab) (hb : Body X D φ body fb)
    (hsu : ∀ (a : Addr) (oe : Obj) (cls : Value) (d : Option Addr) (pn : List (Addr × Obj)), Zc cls d oe → (∃ vs, oe.data = .fields vs) → BX (X.suite a ((a, oe) :: pn)) D φ W0 (b₀ :: suite) fs) (hK : X.K = D.K := by rfl) :
    SX X D φ W (.Try body [.ExceptHandler (some (.Name x np)) none (b₀ :: suite) pos'] [] [] pos) (sTryOnly tab fb fs) :=
  ⟨ps_mono (ps_try_only hs hf hc tk (tb := fun W => rdS D φ W fb) (ts := fun a cls d => rdS D φ W0 fs) (fun W pn xe t p => (hb W pn xe t p).ps) (fun a oe cls d pn z f => (hsu a oe cls d pn z f).ps)) fun E σ H ⟨G, ρ, r, p⟩ => by
    refine ⟨G, ρ, r, ?_⟩
    unfold sTryOnly at p
    cases e1 : fb ρ with
    | ok a ρ1 => rw [e1] at p; cases a <;> exact p
    | bad => rw [e1] at p; exact p
    | ex c ks ts ρ1 =>
      simp only [e1] at p
      intro cls d G1 σ1 H1 s1 r1 hx
      have hcls := hx.1
      cases e2 : tab.lookup c with
      | none => simp only [e2] at p; exact p.elim
      | some b =>
        simp only [e2] at p
        refine ⟨b, by rw [hK, hcls]; exact ht.of e2, fun hb' a ha => ?_, fun hb' => ?_⟩
        · subst hb'
          simp only at p
          refine ⟨G1, ρ1, r1, ?_⟩
          cases e3 : fs ρ1 with
          | ok fl ρ2 => simp only [e3] at p; cases fl <;> exact PostS.weak (W := W) s1 p
          | ex c ks ts ρ2 => simp only [e3] at p; exact p.elim
          | bad => simp only [e3] at p; exact p.elim
        · subst hb'; exact p cls d G1 σ1 H1 s1 r1 hx⟩

/-! ### in an except suite: isinstance(e, C) -/
def eIsx (tab : List (Nat × Bool)) (i : Nat) : EF := fun ρ => match ρ[i]? with
  | some (.exn c [] []) => (match tab.lookup c with | some b => .ok (.val (.bl b)) ρ | none => .bad)
  | _ => .bad
def IsTab (D : Wd) (cv : Value) : List (Nat × Bool) → Prop
  | [] => True
  | (c, b) :: r => (ExcC D.K (D.ca c) ∧ PySem.W.kitOne D.K (.ref (D.ca c)) cv = some b) ∧ IsTab D cv r
theorem IsTab.of {D : Wd} {cv : Value} : ∀ {tab : List (Nat × Bool)} {c : Nat} {b : Bool}, IsTab D cv tab → tab.lookup c = some b → ExcC D.K (D.ca c) ∧ PySem.W.kitOne D.K (.ref (D.ca c)) cv = some b
  | [], _, _, _, h => by cases h
  | (c', b') :: r, c, b, ⟨h1, h2⟩, h => by
    rw [List.lookup] at h
    split at h
    · rename_i e; cases h; rw [show c = c' from by simpa using e]; exact h1
    · exact h2.of h
theorem e_isx {a : Addr} {oe : Obj} {cls : Value} {d : Option Addr} {pn : List (Addr × Obj)} {j : Nat} {e ce : Expr} {cb : V} {p : Pos} (hz : Zc cls d oe) (hf : ∃ vs, oe.data = .fields vs) (hx : φ.xs i = some (a, cls, d)) (ht : IsTab D cv tab) (hcv : ClsV cb cv)
    (hg : Gl (X.suite a ((a, oe) :: pn)) "isinstance") (hm : X.mg "isinstance" = none) (he : PE (X.suite a ((a, oe) :: pn)) e (tVar i)) (hce : PE (X.suite a ((a, oe) :: pn)) ce (tC cb))
    (h1 : starEach (e :: [ce]) X.env = (false, eval e X.env) :: starEach [ce] X.env := by rfl) (h2 : starEach (ce :: []) X.env = (false, eval ce X.env) :: starEach [] X.env := by rfl) (hpl : (backTo pos (starEach [ce] X.env)).any (·.1) = false := by rfl) (hK : X.K = D.K := by rfl) :
    EX (X.suite a ((a, oe) :: pn)) D φ W (.Call (.Name "isinstance" p) [e, ce] [] pos) (eIsx tab i) := by
  refine ⟨⟨fun pins s σ H Q I hh => ?_⟩⟩
  obtain ⟨G, ρ, r, pp⟩ := hh
  unfold eIsx at pp
  split at pp
  · rename_i c q
    split at pp
    · rename_i b e2
      obtain ⟨a', cls', d', g1, g2, g3⟩ := r.slot i _ q
      rw [hx] at g2; cases g2
      obtain ⟨hcls, hd⟩ := g3
      have hd' : d = none := by
        rcases hd with ⟨h, _, _⟩ | ⟨h, _⟩
        · exact h
        · exact (h rfl).elim
      subst hd' hcls
      obtain ⟨k1, k2⟩ := ht.of e2
      have hp := pe_callB (X := X.suite a ((a, oe) :: pn)) (call_isE (X := X) (pn := pn) (D := D.ca c) (by rw [hK]; exact k1) hz hf) hg hm boot_isinstance (pa_cons he (pa_cons hce pa_nil h2) h1) (by decide) (by decide) h1 hpl (pos := pos) (p := p)
      exact hp.run pins s σ H Q I ⟨_, g1, cb, cv, b, rfl, fun u hu => hcv.eq hu, by rw [hK]; exact k2, pp G H (.refl _) r _ rfl⟩
    · exact pp.elim
  · exact pp.elim
end
end VI

set_option Elab.async false
set_option linter.all false
set_option maxRecDepth 100000
set_option maxHeartbeats 4000000
namespace VI
open PySem L2 PySem.Spec PyProof.Rows

/-! ### own operators -/
structure OwnM (K : PySem.W.Frag) (C : Addr) (n : Str) (f : Addr) : Prop where
  hs : PySem.W.findIn K (.ref C) n = some (some (.ref f))
  hf : PySem.W.isFn K (.ref f) = true
/-- x op y, both of class c -/
def eOwn2 (c : Nat) (m : Ro → R EV) (fa fb : EF) : EF := fun ρ => (fa ρ).bind fun x ρ1 => (fb ρ1).bind fun y ρ2 => match deref ρ2 x, deref ρ2 y with
  | some (.ins c1 _ _), some (.ins c2 _ _) => if c1 = c ∧ c2 = c then callM [.v, .v] m [x, y] ρ2 else .bad
  | _, _ => .bad
/-- x in y, y of class c -/
def eOwnIn (neg : Bool) (c : Nat) (m : Ro → R EV) (fa fb : EF) : EF := fun ρ => (fa ρ).bind fun x ρ1 => (fb ρ1).bind fun y ρ2 => match deref ρ2 y with
  | some (.ins c2 _ _) => if c2 = c then (callM [.v, .v] m [y, x] ρ2).bind fun z ρ3 => match z with
      | .val (.bl b) => .ok (.val (.bl (if neg then !b else b))) ρ3
      | _ => .bad
    else .bad
  | _ => .bad
/-- len(x), bool(x), -x, ~x -/
def eOwn1 (c : Nat) (m : Ro → R EV) (fa : EF) : EF := fun ρ => (fa ρ).bind fun x ρ1 => match deref ρ1 x with
  | some (.ins c1 _ _) => if c1 = c then callM [.v] m [x] ρ1 else .bad
  | _ => .bad
def eLenI (f : EF) : EF := fun ρ => (f ρ).bind fun z ρ1 => match z with
  | .val (.int n) => if 0 ≤ n ∧ n < 2 ^ 63 then .ok (.val (.int n)) ρ1 else .bad
  | _ => .bad
def eBlI (f : EF) : EF := fun ρ => (f ρ).bind fun z ρ1 => match z with
  | .val (.bl b) => .ok (.val (.bl b)) ρ1
  | _ => .bad
section
variable {X : Cx} {D : Wd} {φ : Fr} {W : WX} {e a b : Expr} {fa fb : EF} {pos p : Pos} {m : Ro → R EV} {k : Nat} {f : Addr} {fd : FuncData} {ps : List Str} {sp : Sp} {CX : CXT}
theorem own2_rd {c : Nat} {σ : L2.St} {H : Hp} {Q : VK} (h : rdE D φ W (eOwn2 c m fa fb) σ H Q) : rdE D φ W fa σ H fun x H1 => rdE D φ W fb σ H1 fun y H2 =>
    ∃ a b dx dy fs gs, x = .ref a ∧ y = .ref b ∧ H2 a = some (.ins (D.ca c) dx fs) ∧ H2 b = some (.ins (D.ca c) dy gs) ∧ spM D 2 m [x, y] H2 Q (WE W σ) := by
  obtain ⟨G, ρ, r, pp⟩ := h
  refine ⟨G, ρ, r, Post.imp (Post.bind pp) fun x ρ1 G1 H1 s1 r1 p1 v hv => ?_⟩
  obtain ⟨G2, s2, r2, hh⟩ := settle r1 hv
  refine ⟨G2, ρ1, r2, Post.imp (Post.bind (Post.weak s2 p1)) fun y ρ2 G3 H3 s3 r3 p3 w hw => ?_⟩
  obtain ⟨G4, s4, r4, hw'⟩ := settle r3 hw
  have hh' := hh.mono (s3.trans s4)
  split at p3
  · rename_i c1 ks1 ts1 c2 ks2 ts2 e1 e2
    split at p3
    · rename_i hc
      obtain ⟨rfl, rfl⟩ := hc
      obtain ⟨a, dx, fs, rfl, g1, _⟩ := hh'.use r4 e1
      obtain ⟨b, dy, gs, rfl, g2, _⟩ := hw'.use r4 e2
      exact ⟨a, b, dx, dy, fs, gs, rfl, rfl, g1, g2, call_sp (ms := [.v, .v]) (E := WE W σ) r4 (.cons hh' (.cons hw' .nil)) (fun _ _ _ h => h) s4 p3⟩
    · exact p3.elim
  · exact p3.elim
theorem ownIn_rd {neg : Bool} {c : Nat} {σ : L2.St} {H : Hp} {Q : VK} (h : rdE D φ W (eOwnIn neg c m fa fb) σ H Q) : rdE D φ W fa σ H fun x H1 => rdE D φ W fb σ H1 fun y H2 =>
    ∃ b dy gs, y = .ref b ∧ H2 b = some (.ins (D.ca c) dy gs) ∧ spM D 2 m [y, x] H2 (fun z H3 => ∃ b, z = .bl b ∧ Q (.bl (if neg then !b else b)) H3) (WE W σ) := by
  obtain ⟨G, ρ, r, pp⟩ := h
  refine ⟨G, ρ, r, Post.imp (Post.bind pp) fun x ρ1 G1 H1 s1 r1 p1 v hv => ?_⟩
  obtain ⟨G2, s2, r2, hh⟩ := settle r1 hv
  refine ⟨G2, ρ1, r2, Post.imp (Post.bind (Post.weak s2 p1)) fun y ρ2 G3 H3 s3 r3 p3 w hw => ?_⟩
  obtain ⟨G4, s4, r4, hw'⟩ := settle r3 hw
  have hh' := hh.mono (s3.trans s4)
  split at p3
  · rename_i c2 ks2 ts2 e2
    split at p3
    · rename_i hc
      subst hc
      obtain ⟨b, dy, gs, rfl, g2, _⟩ := hw'.use r4 e2
      refine ⟨b, dy, gs, rfl, g2, call_sp (ms := [.v, .v]) (E := WE W σ) r4 (.cons hw' (.cons hh' .nil)) (fun _ _ _ h => h) s4 (Post.imp (Post.bind p3) fun z ρ3 G5 H5 s5 r5 p5 u hu => ?_)⟩
      cases z with
      | own l => exact p5.elim
      | pk i => exact p5.elim
      | val t =>
        cases t with
        | bl b => cases (show u = .bl b from hu); exact ⟨b, rfl, p5 G5 H5 (.refl _) r5 _ rfl⟩
        | _ => exact p5.elim
    · exact p3.elim
  · exact p3.elim
theorem own1_rd {c : Nat} {σ : L2.St} {H : Hp} {Q : VK} (h : rdE D φ W (eOwn1 c m fa) σ H Q) : rdE D φ W fa σ H fun x H1 => ∃ a dx fs, x = .ref a ∧ H1 a = some (.ins (D.ca c) dx fs) ∧ spM D 1 m [x] H1 Q (WE W σ) := by
  obtain ⟨G, ρ, r, pp⟩ := h
  refine ⟨G, ρ, r, Post.imp (Post.bind pp) fun x ρ1 G1 H1 s1 r1 p1 v hv => ?_⟩
  obtain ⟨G2, s2, r2, hh⟩ := settle r1 hv
  split at p1
  · rename_i c1 ks ts e1
    split at p1
    · rename_i hc; subst hc
      obtain ⟨a, dx, fs, rfl, g1, _⟩ := hh.use r2 e1
      exact ⟨a, dx, fs, rfl, g1, call_sp (ms := [.v]) (E := WE W σ) r2 (.cons hh .nil) (fun _ _ _ h => h) s2 p1⟩
    · exact p1.elim
  · exact p1.elim
theorem relV_noNot {v : V} {u : Value} {Q : Value → Shared → Prop} {s : Shared} (r : RelV v u) (h : Q u s) : PySem.W.CmpBack Q u s := by
  cases v with
  | non => cases r; exact h
  | bl _ => cases r; exact h
  | int _ => obtain ⟨t, rfl⟩ := r; exact h
  | str _ => obtain ⟨t, rfl⟩ := r; exact h
  | byt _ => obtain ⟨t, rfl⟩ := r; exact h
  | flt _ => obtain ⟨t, rfl⟩ := r; exact h
  | ref _ => cases r; exact h
  | ty _ => cases r; exact h
/-- the instance as the library's rules take it -/
theorem ins_at {pins : List (Addr × Obj)} {σ : L2.St} {H : Hp} {s : Shared} {a C dx : Addr} {fs : List (Str × V)} (I : Inv X pins σ H s) (h : H a = some (.ins C dx fs)) : ∃ od, PySem.W.InstAt s.heap a (PySem.W.instObj C dx) C (some od) := by
  obtain ⟨mA, J, _⟩ := ins_get I.hok h
  obtain ⟨od, J, _⟩ := J.look
  exact ⟨od, J⟩
theorem own_cmp {op : CmpOp} {c : Nat} {n : Str} (tk : Takes X W) (hop : compareOp op = richCompare op) (O : OwnM D.K (D.ca c) n f) (hn : (cmpInfo op).2.1 = n) (F : FnOk X.prog X.w X.K X.mg X.base (L2.CX X.prog X.w) k f fd ps (spM D 2 m)) (hr : Room k X.A) (hb : Binds X.K fd ps []) (hK : X.K = D.K)
    {pins : List (Addr × Obj)} {σ : L2.St} {H : Hp} {s : Shared} {Q : VK} {x y : V} {v u : Value} (I : Inv X pins σ H s) (rx : RelV x v) (ry : RelV y u)
    (q : ∃ a b dx dy fs gs, x = .ref a ∧ y = .ref b ∧ H a = some (.ins (D.ca c) dx fs) ∧ H b = some (.ins (D.ca c) dy gs) ∧ spM D 2 m [x, y] H Q (WE W σ)) : wpAny (model X.prog X.w) X.A (compareOp op v u) (EP X pins σ Q) X.xe s := by
  obtain ⟨a, b, dx, dy, fs, gs, rfl, rfl, ha, hb', hsp⟩ := q
  cases rx
  cases ry
  obtain ⟨od, J⟩ := ins_at I ha
  obtain ⟨od', J'⟩ := ins_at I hb'
  obtain ⟨mm, hF⟩ := I.fr
  rw [hop]
  refine PySem.W.cmp_K (op := op) (tb := .ref (D.ca c)) hr.units0 hF I.ok.mod.kin J J'.type (by simp [PySem.W.notFirst]) (by rw [hK, hn]; exact O.hs) (by rw [hK]; exact O.hf) ?_
  exact thn (run_fnS (us := [.ref a, .ref b]) (vs := [.ref a, .ref b]) F hr hb (passAt tk σ) I (.cons rfl (.cons rfl .nil)) hsp) fun w s' hq => by
    obtain ⟨z, H', I', rz, q⟩ := hq
    exact relV_noNot rz ⟨z, H', I', rz, q⟩
theorem e_ownEq {c : Nat} (tk : Takes X W) (O : OwnM D.K (D.ca c) "__eq__" f) (F : FnOk X.prog X.w X.K X.mg X.base (L2.CX X.prog X.w) k f fd ps (spM D 2 m)) (hr : Room k X.A) (hb : Binds X.K fd ps []) (ha : EX X D φ W a fa) (hb' : EX X D φ W b fb) (hm : behindInMarks .Eq b = false := by rfl) (hK : X.K = D.K := by rfl) :
    EX X D φ W (.Compare a [.Eq] [b] pos) (eOwn2 c m fa fb) :=
  ⟨⟨fun pins s σ H Q I h => wpAny_Compare1 (binT ha.pe hb'.pe I (own2_rd h) fun v u s2 x y H2 I2 rx ry q => own_cmp tk rfl O rfl F hr hb hK I2 rx ry q) hm⟩⟩
theorem t_cmp_of {op : CmpOp} {ff : EF} {Rr : L2.St → V → V → Hp → VK → Prop} (hd : ∀ σ H Q, rdE D φ W ff σ H Q → rdE D φ W fa σ H fun x H1 => rdE D φ W fb σ H1 fun y H2 => Rr σ x y H2 Q) (ha : EX X D φ W a fa) (hb' : EX X D φ W b fb)
    (ho : ∀ {pins : List (Addr × Obj)} {σ : L2.St} {H : Hp} {s : Shared} {Q : VK} {x y : V} {v u : Value}, Inv X pins σ H s → RelV x v → RelV y u → Rr σ x y H Q → wpAny (model X.prog X.w) X.A (compareOp op v u) (EP X pins σ Q) X.xe s) (hm : behindInMarks op b = false) :
    TX X D φ W (.Compare a [op] [b] pos) (tOf ff) :=
  ⟨⟨fun pins s σ H Q I h => by
    refine wpAny_isTrue_Compare1 (binT ha.pe hb'.pe I (hd σ H _ (rd_of h)) fun v u s2 x y H2 I2 rx ry q => thn (ho I2 rx ry q) fun c s3 ⟨z, H3, I3, r3, k, e, q3⟩ => ?_) hm
    subst e
    cases r3
    exact wpAny_truthy_bool ⟨H3, I3, q3⟩⟩⟩
theorem t_ownEq {c : Nat} (tk : Takes X W) (O : OwnM D.K (D.ca c) "__eq__" f) (F : FnOk X.prog X.w X.K X.mg X.base (L2.CX X.prog X.w) k f fd ps (spM D 2 m)) (hr : Room k X.A) (hb : Binds X.K fd ps []) (ha : EX X D φ W a fa) (hb' : EX X D φ W b fb) (hm : behindInMarks .Eq b = false := by rfl) (hK : X.K = D.K := by rfl) :
    TX X D φ W (.Compare a [.Eq] [b] pos) (tOf (eOwn2 c m fa fb)) :=
  t_cmp_of (fun _ _ _ h => own2_rd h) ha hb' (fun I rx ry q => own_cmp tk rfl O rfl F hr hb hK I rx ry q) hm
theorem own_in {c : Nat} {neg : Bool} (tk : Takes X W) (O : OwnM D.K (D.ca c) "__contains__" f) (F : FnOk X.prog X.w X.K X.mg X.base (L2.CX X.prog X.w) k f fd ps (spM D 2 m)) (hr : Room k X.A) (hb : Binds X.K fd ps []) (hK : X.K = D.K)
    {pins : List (Addr × Obj)} {σ : L2.St} {H : Hp} {s : Shared} {Q : VK} {x y : V} {v u : Value} (I : Inv X pins σ H s) (rx : RelV x v) (ry : RelV y u)
    (q : ∃ b dy gs, y = .ref b ∧ H b = some (.ins (D.ca c) dy gs) ∧ spM D 2 m [y, x] H (fun z H3 => ∃ b, z = .bl b ∧ Q (.bl (if neg then !b else b)) H3) (WE W σ)) : wpAny (model X.prog X.w) X.A (compareOp (if neg then .NotIn else .In) v u) (EP X pins σ Q) X.xe s := by
  obtain ⟨b, dy, gs, rfl, hb', hsp⟩ := q
  cases ry
  obtain ⟨od, J⟩ := ins_at I hb'
  obtain ⟨mm, hF⟩ := I.fr
  have run := run_fnS (us := [.ref b, v]) (vs := [.ref b, x]) F hr hb (passAt tk σ) I (.cons rfl (.cons rx .nil)) hsp
  cases neg with
  | false =>
    refine PySem.W.in_K hF I.ok.mod.kin J (by rw [hK]; exact O.hs) (by rw [hK]; exact O.hf) (thn run fun w s' hq => ?_)
    obtain ⟨z, H', I', rz, b, rfl, q⟩ := hq
    cases rz
    exact wpAny_truthy_bool ⟨.bl b, H', I', rfl, q⟩
  | true =>
    refine PySem.W.notIn_K hF I.ok.mod.kin J (by rw [hK]; exact O.hs) (by rw [hK]; exact O.hf) (thn run fun w s' hq => ?_)
    obtain ⟨z, H', I', rz, b, rfl, q⟩ := hq
    cases rz
    exact wpAny_truthy_bool ⟨.bl (!b), H', I', rfl, q⟩
theorem e_ownIn {c : Nat} (tk : Takes X W) (O : OwnM D.K (D.ca c) "__contains__" f) (F : FnOk X.prog X.w X.K X.mg X.base (L2.CX X.prog X.w) k f fd ps (spM D 2 m)) (hr : Room k X.A) (hb : Binds X.K fd ps []) (ha : EX X D φ W a fa) (hb' : EX X D φ W b fb) (hm : behindInMarks .In b = false := by rfl) (hK : X.K = D.K := by rfl) :
    EX X D φ W (.Compare a [.In] [b] pos) (eOwnIn false c m fa fb) :=
  ⟨⟨fun pins s σ H Q I h => wpAny_Compare1 (binT ha.pe hb'.pe I (ownIn_rd h) fun v u s2 x y H2 I2 rx ry q => own_in (neg := false) tk O F hr hb hK I2 rx ry q) hm⟩⟩
theorem t_ownIn {c : Nat} (tk : Takes X W) (O : OwnM D.K (D.ca c) "__contains__" f) (F : FnOk X.prog X.w X.K X.mg X.base (L2.CX X.prog X.w) k f fd ps (spM D 2 m)) (hr : Room k X.A) (hb : Binds X.K fd ps []) (ha : EX X D φ W a fa) (hb' : EX X D φ W b fb) (hm : behindInMarks .In b = false := by rfl) (hK : X.K = D.K := by rfl) :
    TX X D φ W (.Compare a [.In] [b] pos) (tOf (eOwnIn false c m fa fb)) :=
  t_cmp_of (fun _ _ _ h => ownIn_rd h) ha hb' (fun I rx ry q => own_in (neg := false) tk O F hr hb hK I rx ry q) hm

/-- the callee runs one unit deeper (a built-in calls it) -/
theorem run_in1 {pins : List (Addr × Obj)} {σ : L2.St} {H : Hp} {s : Shared} {Q : VK} {us : List Value} {vs : List V} {E : L2.St → XK} (F : FnOk X.prog X.w X.K X.mg X.base CX k f fd ps sp) (hr : Room (k + 1) X.A) (hb : Binds X.K fd ps []) (hx : PassesAt CX X σ (E σ))
    (I : Inv X pins σ H s) (r : Vals vs us) (h : sp vs H Q (E σ)) : wpAny (model X.prog X.w) X.A.in1 (call (.ref f) us) (EP X pins σ Q) X.xe s := by
  have hl : us.length = ps.length := by rw [← r.length]; exact F.len _ _ _ _ h
  have b := hb s us I.kIn (by rw [List.append_nil]; exact hl)
  rw [List.append_nil] at b
  refine wpAny_call (codeAny_mono (F.run X.A.in1 X.stack s H ⟨us, []⟩ us vs Q (E σ) hr.in1 I.env0.in1 b r h) fun r s' hq => ?_)
  cases r with
  | error e => exact hx pins H s e s' I hq
  | ok fl =>
    cases fl with
    | ret u => exact I.after hq
    | next => exact False.elim hq
    | brk => exact False.elim hq
    | cont => exact False.elim hq
theorem e_ownLen {c : Nat} (tk : Takes X W) (O : OwnM D.K (D.ca c) "__len__" f) (F : FnOk X.prog X.w X.K X.mg X.base (L2.CX X.prog X.w) k f fd ps (spM D 1 m)) (hr : Room (k + 1) X.A) (hb : Binds X.K fd ps []) (hg : Gl X "len") (hm : X.mg "len" = none) (ha : EX X D φ W a fa)
    (h1 : starEach (a :: []) X.env = (false, eval a X.env) :: starEach [] X.env := by rfl) (hpl : (backTo pos (starEach [] X.env)).any (·.1) = false := by rfl) (hK : X.K = D.K := by rfl) : EX X D φ W (.Call (.Name "len" p) [a] [] pos) (eLenI (eOwn1 c m fa)) :=
  ⟨⟨fun pins s σ H Q I h => by
    have h' : rdE D φ W (eOwn1 c m fa) σ H (fun z H1 => ∃ n : Int, z = .int n ∧ 0 ≤ n ∧ n < 2 ^ 63 ∧ Q (.int n) H1) := by
      obtain ⟨G, ρ, r, pp⟩ := h
      refine ⟨G, ρ, r, Post.imp (Post.bind pp) fun z ρ1 G1 H1 s1 r1 p1 v hv => ?_⟩
      cases z with
      | own l => exact p1.elim
      | pk i => exact p1.elim
      | val t =>
        cases t with
        | int n =>
          simp only at p1
          split at p1
          · rename_i hn; cases (show v = .int n from hv); exact ⟨n, rfl, hn.1, hn.2, p1 G1 H1 (.refl _) r1 _ rfl⟩
          · exact p1.elim
        | _ => exact p1.elim
    have hp := (pa_cons ha.pe pa_nil h1).run pos pins s σ H (fun vs H1 => ∃ x, vs = [x] ∧ ∃ a dx fs, x = .ref a ∧ H1 a = some (.ins (D.ca c) dx fs) ∧ spM D 1 m [x] H1 (fun z H1 => ∃ n : Int, z = .int n ∧ 0 ≤ n ∧ n < 2 ^ 63 ∧ Q (.int n) H1) (WE W σ)) I ?_
    · refine wpAny_Call_Name_kw (ld_blt I hg hm PySem.boot_len ?_ (by decide) (by decide))
      refine PyProof.Rows.callWith_builtin1 (thn hp fun us s1 ⟨vs, H1, I1, r1, x, ev, y, dx, fs, ex, g1, hsp⟩ => ?_) h1 hpl
      subst ev ex
      obtain ⟨u, rfl, ru⟩ := vals1 r1
      cases ru
      obtain ⟨od, J⟩ := ins_at I1 g1
      obtain ⟨mm, hF⟩ := I1.fr
      refine PySem.W.len_K hF I1.ok.mod.kin J (by rw [hK]; exact O.hs) (by rw [hK]; exact O.hf) (thn (run_in1 (us := [.ref y]) (vs := [.ref y]) (E := WE W) F hr hb (passAt tk σ) I1 (.cons rfl .nil) hsp) fun w s' hq => ?_)
      obtain ⟨z, H', I', rz, n, rfl, n0, n1, q⟩ := hq
      obtain ⟨t, rfl⟩ := rz
      exact ⟨⟨n0, n1⟩, .int n, H', I'.tok _, ⟨_, rfl⟩, q⟩
    · obtain ⟨G, ρ, r, pp⟩ := own1_rd h'
      exact ⟨G, ρ, r, Post.imp pp fun z ρ1 G1 H1 s1 r1 p1 v hv => ⟨v, rfl, p1 v hv⟩⟩⟩⟩
end
end VI

set_option Elab.async false
set_option linter.all false
set_option maxRecDepth 100000
set_option maxHeartbeats 4000000
namespace VIB
open PySem PySem.Spec PySem.Calls PyProof.Rows
section
variable {prog : Program} {w : World} {A : Around} {E : Value → Shared → Prop} {s : Shared}
/-- the making itself: the truth of x -/
theorem bool_new_in {x : Value} {R : Result → Shared → Prop} (h : wpAny (model prog w) A.in1 (truthy x) (fun b s' => R (.ok (.ret (.bool b))) s') (fun e s' => R (.error e) s') s) :
    codeAny (model prog w) A (.call (.builtin "bool.__new__") ⟨[.type "bool", x], []⟩) R s := by
  refine codeAny_call_builtin F.called_bool.plain F.entry_bool_new (wpAny_of_eq (F.newCall_bool_1 x) ?_)
  obtain ⟨hp, g, d, tk, os⟩ := s
  have f1 := F.conv_sub_bool
  repeat (any_goals (first | assumption | (show wpAny _ _ (truthy x) _ _ _; exact wpAny_mono h (fun b s' q => wpAny_pure q) fun _ _ z => z) | wp_step))
theorem bool_of_truth {x : Value} {Q : Value → Shared → Prop} (h : wpAny (model prog w) A.in1.in1 (truthy x) (fun b s' => Q (.bool b) s') E s) : wpAny (model prog w) A (call (.type "bool") [x]) Q E s := by
  have ft := F.called_bool
  obtain ⟨c, tl, hmro⟩ := ft.mro
  have hmade := ft.made
  have hsub := ft.sub
  have hct := F.typeCall_bool_1 x
  refine wpAny_call (codeAny_of_tree ?_)
  show wpAny _ _ (callAny (.type "bool") _) _ _ _
  refine wpAny_pure ⟨Code.quiet_builtin _ (by decide +kernel), codeAny_builtin F.entry_type_call ?_⟩
  rw [Around.under_plain (weight_type_call_type "bool" [x] []) (units_type_call_type "bool" [x] [])]
  have h1 := ft.notType
  have h2 := ft.canCreate
  repeat (any_goals (first | assumption | wp_step))
  refine bool_new_in ?_
  refine wpAny_mono h (fun b s₁ q => ?_) fun _ _ z => z
  have hli := ft.init.lookup
  have hbi := ft.init.bind (.bool b)
  repeat (any_goals (first | assumption | wp_step))
  have hT : s₁.TypeIs (.bool b) "bool" := rfl
  have init : codeAny (model prog w) A.in1 (.call (.builtin "object.__init__") ⟨[.bool b, x], []⟩) (fun r s2 => r = .ok (.ret .none) ∧ s2 = s₁) s₁ :=
    codeAny_call_builtin ft.init.plain F.entry_object_init (ft.init.check _ _ _ _ _ _ _ _ hT (F.args_object_init_2 (.bool b) x) (object_init_meets ft.init.lookup ft.made F.newNe_bool prog w A.in1 (fun r s2 => r = .ok (.ret .none) ∧ s2 = s₁) s₁ ⟨hT, rfl, rfl⟩))
  refine codeAny_mono init fun r s2 hr => ?_
  obtain ⟨rfl, rfl⟩ := hr
  repeat (any_goals (first | assumption | wp_step))
end
end VIB
namespace VI
open PySem L2 PySem.Spec PyProof.Rows
section
variable {X : Cx} {D : Wd} {φ : Fr} {W : WX} {e a b : Expr} {fa fb : EF} {pos p : Pos} {m : Ro → R EV} {k : Nat} {f : Addr} {fd : FuncData} {ps : List Str} {sp : Sp} {CX : CXT}
/-- bool(a tuple) -/
theorem call_boolT : CallR X (.type "bool") (fun xs H Q => ∃ (a : Addr) (zs : List V), xs = [.ref a] ∧ SqT X.K H a zs ∧ Q (.bl (!zs.isEmpty)) H) := by
  intro pins s σ H xs us Q I r h
  obtain ⟨a, zs, rfl, hq, q⟩ := h
  obtain rfl := Vals.ref1 r
  obtain ⟨its, rv, pl, hz⟩ := I.tuple hq
  have hl := line63
  have hlen := rv.length
  refine VIB.bool_of_truth (truthy_tuple pl (by simp only [List.size_toArray]; omega) ?_)
  exact ⟨.bl (!zs.isEmpty), H, I.tok _, by rw [isEmpty_of rv]; rfl, q⟩
def bBool : List T → Out
  | [.tup ts] => .v (.bl (!ts.isEmpty))
  | [.int i] => .v (.bl (i != 0))
  | [.bl b] => .v (.bl b)
  | [.lst ts] => .v (.bl (!ts.isEmpty))
  | _ => .no
def rBoolA (K : PySem.W.Frag) : List V → Hp → VK → Prop := fun xs H Q => (((∃ i, xs = [V.int i] ∧ Q (.bl (i != 0)) H) ∨ ∃ k, xs = [.bl k] ∧ Q (.bl k) H) ∨ (∃ (a : Addr) (zs : List V), xs = [.ref a] ∧ SqL K H a zs ∧ Q (.bl (!zs.isEmpty)) H)) ∨ ∃ (a : Addr) (zs : List V), xs = [.ref a] ∧ SqT K H a zs ∧ Q (.bl (!zs.isEmpty)) H
theorem call_boolA : CallR X (.type "bool") (rBoolA X.K) := (call_bool1.or call_boolL).or call_boolT
theorem empty_of {G : Hp} {ts : List T} {vs : List V} (h : Reps D G ts vs) : (!vs.isEmpty) = !ts.isEmpty := by
  cases ts with
  | nil => cases h; rfl
  | cons t ts => obtain ⟨v, r, rfl, _⟩ := h; rfl
theorem opN_bool : OpN D (rBoolA D.K) bBool := fun G H xs ts Q s h ho => by
  unfold bBool at ho
  split at ho
  · obtain ⟨x, rfl, a, vs, rfl, h1, h2⟩ := h.one_of
    exact .inr ⟨a, vs, rfl, same_t s h1, by rw [empty_of h2]; exact ho _ H (.refl _) rfl⟩
  · obtain ⟨x, rfl, e⟩ := h.one_of; cases e; exact .inl (.inl (.inl ⟨_, rfl, ho _ H (.refl _) rfl⟩))
  · obtain ⟨x, rfl, e⟩ := h.one_of; cases e; exact .inl (.inl (.inr ⟨_, rfl, ho _ H (.refl _) rfl⟩))
  · obtain ⟨x, rfl, a, vs, rfl, h1, h2⟩ := h.one_of
    exact .inl (.inr ⟨a, vs, rfl, .of h1, by rw [empty_of h2]; exact ho _ H (.refl _) rfl⟩)
  · exact ho.elim
theorem bl_rd {σ : L2.St} {H : Hp} {Q : VK} (h : rdE D φ W (eBlI fa) σ H Q) : rdE D φ W fa σ H (fun z H1 => ∃ b, z = .bl b ∧ Q (.bl b) H1) := by
  obtain ⟨G, ρ, r, pp⟩ := h
  refine ⟨G, ρ, r, Post.imp (Post.bind pp) fun z ρ1 G1 H1 s1 r1 p1 v hv => ?_⟩
  cases z with
  | own l => exact p1.elim
  | pk i => exact p1.elim
  | val t =>
    cases t with
    | bl b => cases (show v = .bl b from hv); exact ⟨b, rfl, p1 G1 H1 (.refl _) r1 _ rfl⟩
    | _ => exact p1.elim
/-- the callee runs two units deeper -/
theorem run_in2 {pins : List (Addr × Obj)} {σ : L2.St} {H : Hp} {s : Shared} {Q : VK} {us : List Value} {vs : List V} {E : L2.St → XK} (F : FnOk X.prog X.w X.K X.mg X.base CX k f fd ps sp) (hr : Room (k + 2) X.A) (hb : Binds X.K fd ps []) (hx : PassesAt CX X σ (E σ))
    (I : Inv X pins σ H s) (r : Vals vs us) (h : sp vs H Q (E σ)) : wpAny (model X.prog X.w) X.A.in1.in1 (call (.ref f) us) (EP X pins σ Q) X.xe s := by
  have hl : us.length = ps.length := by rw [← r.length]; exact F.len _ _ _ _ h
  have b := hb s us I.kIn (by rw [List.append_nil]; exact hl)
  rw [List.append_nil] at b
  refine wpAny_call (codeAny_mono (F.run X.A.in1.in1 X.stack s H ⟨us, []⟩ us vs Q (E σ) hr.in1.in1 I.env0.in1.in1 b r h) fun r s' hq => ?_)
  cases r with
  | error e => exact hx pins H s e s' I hq
  | ok fl =>
    cases fl with
    | ret u => exact I.after hq
    | next => exact False.elim hq
    | brk => exact False.elim hq
    | cont => exact False.elim hq
/-- bool(x), x of class c with its own truth -/
theorem e_ownBool {c : Nat} (tk : Takes X W) (O : OwnM D.K (D.ca c) "__bool__" f) (F : FnOk X.prog X.w X.K X.mg X.base (L2.CX X.prog X.w) k f fd ps (spM D 1 m)) (hr : Room (k + 2) X.A) (hb : Binds X.K fd ps []) (hg : Gl X "bool") (hm : X.mg "bool" = none) (ha : EX X D φ W a fa)
    (h1 : starEach (a :: []) X.env = (false, eval a X.env) :: starEach [] X.env := by rfl) (hpl : (backTo pos (starEach [] X.env)).any (·.1) = false := by rfl) (hK : X.K = D.K := by rfl) : EX X D φ W (.Call (.Name "bool" p) [a] [] pos) (eBlI (eOwn1 c m fa)) :=
  ⟨⟨fun pins s σ H Q I h => by
    have hp := (pa_cons ha.pe pa_nil h1).run pos pins s σ H (fun vs H1 => ∃ x, vs = [x] ∧ ∃ a dx fs, x = .ref a ∧ H1 a = some (.ins (D.ca c) dx fs) ∧ spM D 1 m [x] H1 (fun z H1 => ∃ b, z = .bl b ∧ Q (.bl b) H1) (WE W σ)) I ?_
    · refine wpAny_Call_Name_kw (ld_blt I hg hm (by decide +kernel : bootBuiltins "bool" = some (.type "bool")) ?_ (by decide) (by decide))
      refine PyProof.Rows.callWith_type1 (thn hp fun us s1 ⟨vs, H1, I1, r1, x, ev, y, dx, fs, ex, g1, hsp⟩ => ?_) h1 hpl
      subst ev ex
      obtain ⟨u, rfl, ru⟩ := vals1 r1
      cases ru
      obtain ⟨od, J⟩ := ins_at I1 g1
      obtain ⟨mm, hF⟩ := I1.fr
      refine VIB.bool_of_truth (PySem.W.truthy_K hF I1.ok.mod.kin J (by rw [hK]; exact O.hs) (by rw [hK]; exact O.hf) (thn (run_in2 (us := [.ref y]) (vs := [.ref y]) (E := WE W) F hr hb (passAt tk σ) I1 (.cons rfl .nil) hsp) fun w s' hq => ?_))
      obtain ⟨z, H', I', rz, b, rfl, q⟩ := hq
      cases rz
      exact ⟨.bl b, H', I', rfl, q⟩
    · obtain ⟨G, ρ, r, pp⟩ := own1_rd (bl_rd h)
      exact ⟨G, ρ, r, Post.imp pp fun z ρ1 G1 H1 s1 r1 p1 v hv => ⟨v, rfl, p1 v hv⟩⟩⟩⟩
end
end VI

set_option Elab.async false
set_option linter.all false
set_option maxRecDepth 100000
set_option maxHeartbeats 4000000
namespace VI
open PySem L2 PySem.Spec PyProof.Rows

/-! ### own __iter__ over a tuple that is held -/
/-- at it an iterator over the tuple at l, the next place is i -/
def ItT (l it : Addr) (i : Nat) : HO := .ext fun h => h.IsTupleIter it l i
theorem itT_ok {P : Program} {w : World} {H : Hp} {h : Heap} {l it : Addr} {i : Nat} (e : h.IsTupleIter it l i) : ObjOk P w H h it (ItT l it i) := by
  obtain ⟨o, ho, r⟩ := id e
  exact ⟨e, ⟨o, ho⟩, fun h1 h2 q k => by obtain ⟨o, ho, r⟩ := q; exact ⟨o, k _ ho, r⟩⟩
section
variable {prog : Program} {w : World} {A : Around} {E : Value → Shared → Prop} {s : Shared} {l : Addr} {items : Array Value}
theorem call_iter_tup {Q : Value → Shared → Prop} (hl : s.heap.IsTuple l items) (h : Q (.ref s.heap.objs.size) { s with heap := s.heap.push { cls := .type "tuple_iterator", data := .fields #[.ref l, .int 0 0] } }) : wpAny (model prog w) A (call (.builtin "iter") [.ref l]) Q E s := by
  refine Calls.call_function_entry (by decide +kernel) (by decide +kernel) PySem.W.kdk_entry_iter (PySem.W.kdk_args_iter _) ?_
  unfold Builtin.«iter»
  refine wpAny_bind (m := someArgs "iter" 1 2 _) (wpAny_of_eq (a := [Value.ref l]) (by first | rfl | kernel_rfl!) ?_)
  show wpAny _ _ (pyIter (.ref l) >>= _) _ _ _
  refine wpAny_bind (wpAny_pyIter_tuple hl ?_)
  exact wpAny_pure ⟨_, rfl, h⟩
end
def rIterT (K : PySem.W.Frag) (n : Nat) : List V → Hp → VK → Prop := fun xs H Q => ∃ (l : Addr) (zs : List V), xs = [.ref l] ∧ SqT K H l zs ∧ ∀ it, H it = none → n ≤ it → Q (.ref it) (upd H it (ItT l it 0))
theorem call_iterT {X : Cx} : CallR X (.builtin "iter") (rIterT X.K X.s_0.heap.objs.size) := by
  intro pins s σ H xs us Q I r h
  obtain ⟨l, zs, rfl, hq, q⟩ := h
  obtain rfl := Vals.ref1 r
  obtain ⟨its, rv, pl, hz⟩ := I.tuple hq
  refine call_iter_tup (show s.heap.IsTuple l its.toArray from pl) ?_
  exact ⟨.ref s.heap.objs.size, _, I.laid (t' := s.toks) (fun b u e => Heap.get?_push_of_some _ e) (Nat.le_refl _) (itT_ok ⟨_, Heap.get?_push_size _ rfl, rfl, rfl⟩), rfl, q _ (I.hok.fresh (Nat.le_refl _)) I.sz⟩
theorem boot_iter : bootBuiltins "iter" = some (.builtin "iter") := by decide +kernel
/-- what such an __iter__ does -/
def tIt (K : PySem.W.Frag) (C : Addr) (nm : Str) (n : Nat) : TS := fun E σ H => ∃ (a dx : Addr) (fs : List (Str × V)) (p : Addr) (zs : List V), σ[0]? = some (some (.ref a)) ∧ H a = some (.ins C dx fs) ∧ fs.lookup nm = some (.ref p) ∧ SqT K H p zs ∧ ∀ it, H it = none → n ≤ it → E.rt (.ref it) (upd H it (ItT p it 0))
theorem ps_iter {X : Cx} {C : Addr} {sn nm : Str} {p1 p2 p3 p4 p5 : Pos} (h0 : PE X (.Name sn p2) (tVar 0)) (hC : Cls X.K C) (hno : NoAttr X.K C nm) (hg : Gl X "iter") (hm : X.mg "iter" = none)
    (hb : attributeBase (.Name sn p2) nm X.env (eval (.Name sn p2) X.env) = eval (.Name sn p2) X.env := by rfl) : PSs X [.Return (some (.Call (.Name "iter" p1) [.Attribute (.Name sn p2) nm p3] [] p4)) p5] (tIt X.K C nm X.s_0.heap.objs.size) :=
  pss_mono (pss_one (ps_ret (pe_callB call_iterT hg hm boot_iter (pa_cons (pe_fld h0 hb) pa_nil)))) fun E σ H ⟨a, dx, fs, p, zs, h1, h2, h3, h4, h5⟩ =>
    ⟨_, h1, a, C, dx, fs, _, rfl, h2, hC, hno, h3, p, zs, rfl, h4, h5⟩
/-- a call of it makes an iterator that is younger than the call -/
structure ItFn (P : Program) (w : World) (K : PySem.W.Frag) (mg : Str → Option Value) (base : Heap) (k : Nat) (f C : Addr) (nm : Str) : Prop where
  run : ∀ (A : Around) (outer : List Env) (s : Shared) (H : Hp) (a dx : Addr) (fs : List (Str × V)) (p : Addr) (zs : List V), Room k A → Env0 P w K mg base A outer s H → H a = some (.ins C dx fs) → fs.lookup nm = some (.ref p) → SqT K H p zs →
    codeAny (model P w) A (.call (.ref f) ⟨[.ref a], []⟩) (fun r s' => ∃ u, r = .ok (.ret u) ∧ CE outer P w H s (fun v H' => ∃ it, v = .ref it ∧ H it = none ∧ s.heap.objs.size ≤ it ∧ H' = upd H it (ItT p it 0)) u s') s
theorem fn_iter {P : Program} {w : World} {K : PySem.W.Frag} {mg : Str → Option Value} {base : Heap} {x qual nm sn : Str} {st : Stmt} {f C : Addr} {fd : FuncData} {N : List Str} (k : Nat) (F : Fun K x qual st f fd) (S : FnScope N [sn] (defScope st)) (hb : Binds K fd [sn] [])
    (hbody : ∀ (cdv : Value) (A : Around) (outer : List Env) (s : Shared) (H : Hp) (E : XK), PSs (cxOf (L2.CX P w) P w K mg base N qual (defScope st) f cdv A outer s H E) (defBody st) (tIt K C nm s.heap.objs.size)) :
    ItFn P w K mg base (k + 1) f C nm := by
  obtain ⟨oc, od, kV, doc, pm, an, cdv, ct, osl, rfl, lk, hcd⟩ := F.ex
  refine ⟨fun A outer s H a dx fs p zs hr e0 ha hl hz => ?_⟩
  have KX : K.In s.heap := e0.mod.kin.keeps fun b o e => (e0.bs b o e).1
  have bb := hb s [.ref a] KX rfl
  have hk : ∀ y ∈ [sn].zip [Value.ref a], (defScope st).names.lookup y.1 = some .local ∨ ((defScope st).names.lookup y.1 = some .cell ∧ ((cellsFrom (s.heap.objs.size + 1) (defScope st).names []).lookup y.1).isSome = true) := fun y hy => by
    have hy1 : y.1 = sn := by simpa using congrArg Prod.fst (List.mem_singleton.mp hy)
    rw [hy1]
    rcases S.par sn (by simp) with q | q
    · exact .inl q
    · exact .inr ⟨q, PySem.W.cellsFrom_some _ _ _ (.inl q)⟩
  refine codeAny_call_function hr.depth (KX _ _ lk) rfl S.co S.gen rfl (PySem.W.codeRec_of KX hcd) (bb _ _ _ _ ?_)
  refine wpAny_newFunctionEnv_cells S.kind hk fun env he s1 y => ?_
  subst he
  refine ⟨(e0.mod.nolimit.keeps fun b o e => (e0.bs b o e).1).keeps y.toInCall.keep, codeAny_func ?_⟩
  have I : Inv (cxOf (L2.CX P w) P w K mg base N qual (defScope st) f cdv A outer s H (fun _ _ _ => False)) [] (L2.start N [V.ref a]) H s1 := inv_start S hr.hd e0 rfl (.cons rfl .nil) y
  have go := (hbody cdv A outer s H (fun _ _ _ => False)).run [] s1 (L2.start N [V.ref a]) H { nx := fun _ _ => False, rt := fun v H' => ∃ it, v = .ref it ∧ H it = none ∧ s.heap.objs.size ≤ it ∧ H' = upd H it (ItT p it 0) } I
    ⟨a, dx, fs, p, zs, by unfold L2.start; rfl, ha, hl, hz, fun it h1 h2 => ⟨it, rfl, h1, h2, rfl⟩⟩
  refine wpAny_mono go (fun fl s' hs => ?_) fun e s' hs => ?_
  · cases fl with
    | ret u =>
      obtain ⟨v, σ', H', J, rv, q⟩ := hs
      exact ⟨u, rfl, v, H', J.os, J.bare, J.base, J.hok, rv, q⟩
    | next =>
      obtain ⟨_, _, _, q⟩ := hs
      exact False.elim q
    | brk =>
      obtain ⟨_, _, _, q⟩ := hs
      exact False.elim q
    | cont =>
      obtain ⟨_, _, _, q⟩ := hs
      exact False.elim q
  · refine wpAny_mono hs (fun _ s'' z => ?_) fun _ s'' z => ?_
    · obtain ⟨_, _, _, _, _, _, _, _, _, _, _, _, hE⟩ := z
      exact hE.elim
    · obtain ⟨_, _, _, _, _, _, _, _, _, _, _, _, hE⟩ := z
      exact hE.elim

section
variable {X : Cx} {D : Wd} {φ : Fr} {W : WX} {e a b : Expr} {fa fb : EF} {pos p : Pos} {m : Ro → R EV} {k : Nat} {f : Addr} {fd : FuncData} {ps : List Str} {sp : Sp}
/-- the callee raises nothing, somewhere below the body -/
theorem run_sub0 {pins : List (Addr × Obj)} {σ : L2.St} {H : Hp} {s : Shared} {Q : VK} {us : List Value} {vs : List V} {A : Around} {E' : Value → Shared → Prop} {R : Value → Shared → Prop} (F : FnOk X.prog X.w X.K X.mg X.base (L2.CX X.prog X.w) k f fd ps sp) (sb : Sub X k A) (hb : Binds X.K fd ps [])
    (I : Inv X pins σ H s) (r : Vals vs us) (h : sp vs H Q (fun _ _ _ => False)) (hR : ∀ u s', CE X.stack X.prog X.w H s Q u s' → R u s') : wpAny (model X.prog X.w) A (call (.ref f) us) R E' s := by
  have hl : us.length = ps.length := by rw [← r.length]; exact F.len _ _ _ _ h
  have bb := hb s us I.kIn (by rw [List.append_nil]; exact hl)
  rw [List.append_nil] at bb
  have e0 : Env0 X.prog X.w X.K X.mg X.base A X.stack s H := by
    have e := I.env0
    exact ⟨by rw [sb.fr]; exact e.frames, e.mod, e.bs, e.bsz, e.funs, e.frf, e.hok, e.bare⟩
  refine wpAny_call (codeAny_mono (F.run A X.stack s H ⟨us, []⟩ us vs Q (fun _ _ _ => False) sb.room e0 bb r h) fun r s' hq => ?_)
  cases r with
  | error e =>
    obtain ⟨a, B, H', cls, d, _, _, _, _, _, _, _, hE⟩ := hq
    exact hE.elim
  | ok fl =>
    cases fl with
    | ret u => exact hR u s' hq
    | next => exact False.elim hq
    | brk => exact False.elim hq
    | cont => exact False.elim hq
/-- pyIter of the instance: an iterator that no one knows -/
theorem own_iter {pins : List (Addr × Obj)} {σ : L2.St} {H : Hp} {s : Shared} {x C dx l : Addr} {fs : List (Str × V)} {zs : List V} {nm : Str} {A : Around} {E' : Value → Shared → Prop} {R : Value → Shared → Prop} (O : OwnM X.K C "__iter__" f) (F : ItFn X.prog X.w X.K X.mg X.base k f C nm) (sb : Sub X k A)
    (I : Inv X pins σ H s) (hx : H x = some (.ins C dx fs)) (hl : fs.lookup nm = some (.ref l)) (hz : SqT X.K H l zs)
    (h : ∀ it s', H it = none → s.heap.objs.size ≤ it → Inv X pins σ (upd H it (ItT l it 0)) s' → Inv X pins σ H s' → FpOk X pins H it → s'.heap.IsTupleIter it l 0 → R (.ref it) s') : wpAny (model X.prog X.w) A (pyIter (.ref x)) R E' s := by
  obtain ⟨od, J⟩ := ins_at I hx
  obtain ⟨mm, hF⟩ := I.fr
  refine PySem.W.owit_iter hF I.ok.mod.kin J O.hs O.hf ?_
  have e0 : Env0 X.prog X.w X.K X.mg X.base A X.stack s H := by
    have e := I.env0
    exact ⟨by rw [sb.fr]; exact e.frames, e.mod, e.bs, e.bsz, e.funs, e.frf, e.hok, e.bare⟩
  refine wpAny_call (codeAny_mono (F.run A X.stack s H x dx fs l zs sb.room e0 hx hl hz) fun r s' hq => ?_)
  obtain ⟨u, rfl, hq⟩ := hq
  obtain ⟨v, H', I', rv, it, ev, hit, hge, eH⟩ := I.after hq
  subst ev eH
  cases rv
  have st : s'.heap.IsTupleIter it l 0 := (I'.hok it _ upd_same).1
  have I2 := ItX.inv_drop I' (upd_same (o := ItT l it 0))
  rw [ItX.dropH_upd hit] at I2
  show PySem.W.OwitIt _ _ R E' (.ref it) s'
  unfold PySem.W.OwitIt
  obtain ⟨o, ho, hc, hd⟩ := id st
  refine wpAny_specialOf (name := Str.ofString "__next__") ⟨o, ho, hc⟩ PySem.F.slot_tuple_iterator_next.lookup ?_
  exact h it s' hit hge I' I2 (I.fpOk hge hit) st
end
end VI

set_option Elab.async false
set_option linter.all false
set_option maxRecDepth 100000
set_option maxHeartbeats 4000000
namespace VI
open PySem L2 PySem.Spec PyProof.Rows

section
variable {X : Cx} {D : Wd} {φ : Fr} {W : WX} {e a b : Expr} {fa fb : EF} {pos p : Pos} {m : Ro → R EV} {k : Nat} {f : Addr} {fd : FuncData} {ps : List Str} {sp : Sp}
def heldT (c k : Nat) : Option T → Option (List T)
  | some (.ins c' ks ts) => if c' = c then (match fget ks ts k with | some (.tup us) => some us | _ => none) else none
  | _ => none
theorem held_of {G H : Hp} (s : Same G H) {c k : Nat} {t : T} {v : V} {us : List T} {n : Str} (hn : D.nm k = n) (h : heldT c k (some t) = some us) (r : RepU D G H t v) :
    ∃ x dx fs l zs, v = .ref x ∧ H x = some (.ins (D.ca c) dx fs) ∧ fs.lookup n = some (.ref l) ∧ SqT D.K G l zs ∧ Reps D G us zs := by
  cases t with
  | ins c' ks ts =>
    simp only [heldT] at h
    split at h
    · rename_i hc; subst hc
      split at h
      · rename_i us' e
        cases h
        obtain ⟨x, dx, fs, rfl, h1, h2, h3⟩ := r
        obtain ⟨w, g1, g2⟩ := fget_lookup h2 h3 e
        obtain ⟨l, zs, rfl, g3, g4⟩ := g2
        exact ⟨x, dx, fs, l, zs, rfl, h1, by rw [← hn]; exact g1, g3, g4⟩
      · cases h
    · cases h
  | _ => cases h
def iOwn (c k : Nat) (fa : EF) : Ro → R (List T) := fun ρ => (fa ρ).bind fun x ρ1 => match heldT c k (deref ρ1 x) with
  | some us => .ok us ρ1
  | none => .bad
theorem i_own {c kk : Nat} {n : Str} (hn : D.nm kk = n) (O : OwnM D.K (D.ca c) "__iter__" f) (F : ItFn X.prog X.w X.K X.mg X.base k f (D.ca c) n) (hr : Room k X.A) (he : EX X D φ W e fa) (hK : X.K = D.K := by rfl) {tg : Expr} : IX X D φ W tg e (iOwn c kk fa) := by
  refine ⟨⟨fun pins s σ H S I h => ?_⟩⟩
  obtain ⟨G, ρ, r, p⟩ := h
  refine thn (he.pe.run pins s σ H (fun v H1 => ∃ x dx fs l zs, v = .ref x ∧ H1 x = some (.ins (D.ca c) dx fs) ∧ fs.lookup n = some (.ref l) ∧ SqT D.K H1 l zs ∧ S (Itt D.K l) H1) I ⟨G, ρ, r, Post.imp (Post.bind p) fun x ρ1 G1 H1 s1 r1 p1 v hv => ?_⟩) fun v s1 ⟨y, H1, I1, r1, x, dx, fs, l, zs, ey, h1, h2, h3, h4⟩ => ?_
  · obtain ⟨G2, s2, r2, hh⟩ := settle r1 hv
    cases e1 : deref ρ1 x with
    | none => simp only [e1, heldT] at p1; exact p1.elim
    | some t =>
      rw [e1] at p1
      cases e2 : heldT c kk (some t) with
      | none => simp only [e2] at p1; exact p1.elim
      | some us =>
        simp only [e2] at p1
        obtain ⟨x, dx, fs, l, zs, rfl, g1, g2, g3, g4⟩ := held_of r2.sub hn e2 (hh.use r2 e1)
        exact ⟨x, dx, fs, l, zs, rfl, g1, g2, same_t r2.sub g3, p1 G1 H1 (.refl _) r1 _ G2 s2 r2 (itok_tup g3 g4)⟩
  · subst ey
    cases r1
    refine own_iter (by rw [hK]; exact O) F ⟨hr, rfl⟩ I1 h1 h2 (by rw [hK]; exact h3) fun it s' hit hge I' I2 hf st => ?_
    refine ⟨it, [it], _, _, H1, rfl, I2, turn_tuple l it, st, fun b hb => ?_, by rw [hK]; exact h4⟩
    have eb : b = it := by simpa using hb
    subst eb
    exact hf

/-! ### pins -/
theorem Rel.pinUp {G : Hp} {σ : L2.St} {ρ : Ro} {H : Hp} (r : Rel D φ G σ ρ H) {L : Addr} {o : HO} (hL : H L = some o) (hG : G L = none) (hp : φ.pin L = none) (nm : ∀ i, ¬ MutAt σ ρ i L) : Rel D { φ with pin := upd φ.pin L o } G σ ρ H := by
  have ne : ∀ b u, φ.pin b = some u → b ≠ L := fun b u h z => by subst z; rw [hp] at h; cases h
  refine ⟨r.len, r.sub, r.base, r.keep, r.alive, r.frame, fun i s h => ?_, r.disj, fun b u h => ?_, fun i a h => ?_, r.ioLt, fun i a h => ?_⟩
  · have z := r.slot i s h
    cases s with
    | pin t => obtain ⟨a, u, h1, h2, h3, h4⟩ := z; exact ⟨a, u, h1, h2, (upd_ne (ne a u h3)).trans h3, h4⟩
    | _ => exact z
  · by_cases hb : b = L
    · subst hb
      have h' : upd φ.pin b o b = some u := h
      rw [upd_same] at h'; cases h'; exact ⟨hL, hG⟩
    · exact r.pin b u ((upd_ne hb).symm.trans h)
  · have : a ≠ L := fun e => nm i (e ▸ h)
    exact (upd_ne this).trans (r.pinM i a h)
  · obtain ⟨u, hu⟩ := r.pnOk i a h
    exact ⟨u, (upd_ne (ne a u hu)).trans hu⟩
theorem Rel.pinDown {G : Hp} {σ : L2.St} {ρ : Ro} {H : Hp} {L : Addr} {o : HO} (r : Rel D { φ with pin := upd φ.pin L o } G σ ρ H) (hp : φ.pin L = none) (hpn : ∀ i a, φ.pn i = some a → ∃ o, φ.pin a = some o) :
    Rel D φ G σ ρ H ∧ H L = some o ∧ G L = none ∧ ∀ i, ¬ MutAt σ ρ i L := by
  have ne : ∀ b u, φ.pin b = some u → b ≠ L := fun b u h z => by subst z; rw [hp] at h; cases h
  obtain ⟨q1, q2⟩ := r.pin L o upd_same
  refine ⟨⟨r.len, r.sub, r.base, r.keep, r.alive, r.frame, fun i s h => ?_, r.disj, fun b u h => r.pin b u ((upd_ne (ne b u h)).trans h), fun i a h => ?_, r.ioLt, hpn⟩, q1, q2, fun i h => ?_⟩
  · have z := r.slot i s h
    cases s with
    | pin t =>
      obtain ⟨a, u, h1, h2, h3, h4⟩ := z
      obtain ⟨u', hu⟩ := hpn i a h2
      exact ⟨a, u, h1, h2, (upd_ne (ne a u' hu)).symm.trans h3, h4⟩
    | _ => exact z
  · cases q : φ.pin a with
    | none => rfl
    | some u =>
      have := r.pinM i a h
      have e : upd φ.pin L o a = some u := (upd_ne (ne a u q)).trans q
      have this' : upd φ.pin L o a = none := this
      rw [e] at this'; cases this'
  · have := r.pinM i L h
    have this' : upd φ.pin L o L = none := this
    rw [upd_same] at this'; cases this'
open ItX in
theorem Rel.drop {G : Hp} {σ : L2.St} {ρ : Ro} {H : Hp} (r : Rel D φ G σ ρ H) {L : Addr} (hG : G L = none) (hH : φ.H L = none) (hp : φ.pin L = none) (nm : ∀ i, ¬ MutAt σ ρ i L) : Rel D φ G σ ρ (dropH H L) := by
  have ne : ∀ b u, G b = some u → b ≠ L := fun b u e z => by subst z; rw [hG] at e; cases e
  have neH : ∀ b u, φ.H b = some u → b ≠ L := fun b u e z => by subst z; rw [hH] at e; cases e
  have neP : ∀ b u, φ.pin b = some u → b ≠ L := fun b u e z => by subst z; rw [hp] at e; cases e
  refine ⟨r.len, fun b u e => by rw [dropH_ne (ne b u e)]; exact r.sub b u e, r.base, r.keep, fun b e => ?_, fun b u e n => by rw [dropH_ne (neH b u e)]; exact r.frame b u e n, fun i s e => ?_, r.disj, fun b u e => ⟨by rw [dropH_ne (neP b u e)]; exact (r.pin b u e).1, (r.pin b u e).2⟩, r.pinM, r.ioLt, r.pnOk⟩
  · cases q : φ.H b with
    | none => exact absurd q e
    | some u => rw [dropH_ne (neH b u q)]; exact r.alive b e
  · have z := r.slot i s e
    have far : ∀ b, MutAt σ ρ i b → b ≠ L := fun b mb z => nm i (z ▸ mb)
    cases s with
    | own xs => obtain ⟨b, vs, h1, h2, h3⟩ := z; exact ⟨b, vs, h1, by rw [dropH_ne (far b ⟨⟨_, e, rfl⟩, h1⟩)]; exact h2, h3⟩
    | io xs => obtain ⟨b, vs, h1, h2, h3⟩ := z; exact ⟨b, vs, h1, by rw [dropH_ne (far b ⟨⟨_, e, rfl⟩, h1⟩)]; exact h2, h3⟩
    | raw c ks ts => obtain ⟨b, dx, fs, h1, h2, h3⟩ := z; exact ⟨b, dx, fs, h1, by rw [dropH_ne (far b ⟨⟨_, e, rfl⟩, h1⟩)]; exact h2, h3⟩
    | odc kvs => obtain ⟨b, h1, h2, h3⟩ := z; exact ⟨b, h1, by rw [dropH_ne (far b ⟨⟨_, e, rfl⟩, h1⟩)]; exact h2, h3⟩
    | _ => exact z

/-! ### list(x) -/
theorem tup_loop {pins : List (Addr × Obj)} {σ : L2.St} {H : Hp} {A1 : Around} {it l q : Addr} {zs : List V} {Rs : Result → Shared → Prop} (hh : A1.in1.handled = none) (hz' : ∀ acc : List V, SqT X.K (upd H q (.lst acc)) l zs) (hlen : zs.length < sizeLine) (hf : FpOk X pins H it) (hqi : q ≠ it)
    (hdone : ∀ s, Inv X pins σ (upd H q (.lst zs)) s → Rs (.ok (.ret .none)) s) :
    ∀ (m : Nat) (acc rest : List V) (s : Shared), rest.length = m → zs = acc ++ rest → Inv X pins σ (upd H q (.lst acc)) s → s.heap.IsTupleIter it l acc.length → codeAny (model X.prog X.w) A1 (.builtin "list.extend.loop" ⟨[.ref q, .ref it, .none], []⟩) Rs s := by
  have hf' : ∀ acc : List V, FpOk X pins (upd H q (.lst acc)) it := fun acc => ⟨by rw [upd_ne (Ne.symm hqi)]; exact hf.1, hf.2⟩
  intro m
  induction m with
  | zero =>
    intro acc rest s hm e I st
    have : rest = [] := List.length_eq_zero_iff.mp hm
    subst this
    rw [List.append_nil] at e
    subst e
    refine codeAny_builtin PySem.F.entry_extend_loop ?_
    rw [Around.under_plainId PySem.F.plain_extend_loop _]
    show wpAny _ A1.in1 (pyNext (.ref it) >>= _) _ _ s
    obtain ⟨its, rv, pl, hzz⟩ := I.tuple (hz' zs)
    obtain ⟨f0, f1, f2, f3, f4, f5⟩ := hf' zs
    have hl := rv.length
    refine wpAny_bind (wpAny_pyNext_tuple_end hh st (show s.heap.IsTuple l its.toArray from pl) (by simp; omega) fun h' eb => ?_)
    exact wpAny_pure (hdone _ (I.turned (t' := s.toks) (fun b o hb e => eb b o hb e) f0 f1 f3 f4 f5))
  | succ m ih =>
    intro acc rest s hm e I st
    cases rest with
    | nil => cases hm
    | cons v rest =>
      refine codeAny_builtin PySem.F.entry_extend_loop ?_
      rw [Around.under_plainId PySem.F.plain_extend_loop _]
      show wpAny _ A1.in1 (pyNext (.ref it) >>= _) _ _ s
      obtain ⟨its, rv, pl, hzz⟩ := I.tuple (hz' acc)
      have hv : zs[acc.length]? = some v := by rw [e, List.getElem?_append_right (Nat.le_refl _)]; simp
      obtain ⟨u, hu, ru⟩ := rv.get hv
      obtain ⟨f0, f1, f2, f3, f4, f5⟩ := hf' acc
      refine wpAny_bind (wpAny_pyNext_tuple_item st (show s.heap.IsTuple l its.toArray from pl) (x := u) (by simpa using hu) fun h' st' sb => ?_)
      have I1 : Inv X pins σ (upd H q (.lst acc)) { s with heap := h' } := I.turned (t' := s.toks) (fun b o hb e => (sb.2 b hb).trans e) f0 f1 f3 f4 f5
      show wpAny _ A1.in1 (updateSeq q (·.push u) >>= _) _ _ _
      obtain ⟨z, its2, k2, r2, hl2, e2⟩ := I1.lstM upd_same
      have ha : acc.length < sizeLine := by have := congrArg List.length e; simp at this; omega
      refine wpAny_bind (wpAny_updateSeq e2 rfl (wpAny_pure ⟨plainId_quiet PySem.F.plain_extend_loop _, ?_⟩) (by rw [List.size_toArray]; omega) (by show (its2.toArray.push u).size ≤ sizeLine + 1; rw [Array.size_push, List.size_toArray]; omega))
      have I2 := I1.lset (f := (·.push u)) (its' := its2 ++ [u]) (t' := s.toks) upd_same e2 (by simp) (r2.append (.cons ru .nil)) (by rw [List.length_append, List.length_singleton]; omega)
      rw [upd_upd] at I2
      refine ih (acc ++ [v]) rest _ (by simpa using hm) (by rw [e]; simp) I2 ?_
      rw [List.length_append, List.length_singleton]
      refine st'.at fun o ho => ?_
      exact (Heap.get?_update_other _ _ hqi).trans ho

theorem upd_self {H : Hp} {q : Addr} {o : HO} (h : H q = some o) : upd H q o = H := by
  funext b
  by_cases hb : b = q
  · rw [hb, upd_same, h]
  · rw [upd_ne hb]
/-- the length is asked for -/
theorem own_hintL {pins : List (Addr × Obj)} {σ : L2.St} {H : Hp} {s : Shared} {x C dx : Addr} {fs : List (Str × V)} {A : Around} {E' : Value → Shared → Prop} {R : Bool → Shared → Prop} {R0 : Hp → Prop} (O : OwnM X.K C "__len__" f) (F : FnOk X.prog X.w X.K X.mg X.base (L2.CX X.prog X.w) k f fd ps sp) (sb : Sub X (k + 1) A) (hb : Binds X.K fd ps [])
    (I : Inv X pins σ H s) (hx : H x = some (.ins C dx fs)) (hsp : sp [.ref x] H (fun z H' => ∃ n : Int, z = .int n ∧ 0 ≤ n ∧ n ≤ 100000 ∧ R0 H') (fun _ _ _ => False)) (hR : ∀ b H' s', Inv X pins σ H' s' → R0 H' → R b s') :
    wpAny (model X.prog X.w) A (Builtin.List.listLengthHint (.ref x)) R E' s := by
  obtain ⟨od, J⟩ := ins_at I hx
  obtain ⟨mm, hF⟩ := I.fr
  unfold Builtin.List.listLengthHint
  refine wpAny_bind (wpAny_bind (J.type.here ((PySem.W.looks_findIn I.kIn O.hs).here ?_)))
  refine wpAny_ite_split (fun hab => absurd (show false = true from hab) (by decide)) (fun _ => ?_)
  refine wpAny_ite_split (fun _ => ?_) (fun hab => absurd rfl hab)
  refine wpAny_bind (wpAny_rule ?_)
  refine wpAny_bind (wpAny_attempt (PySem.W.len_K hF I.ok.mod.kin J O.hs O.hf (run_sub0 (us := [.ref x]) (vs := [.ref x]) F sb.in1 hb I (.cons rfl .nil) hsp fun u s' hq => ?_)))
  obtain ⟨z, H', I', rz, n, rfl, n0, n1, q⟩ := I.after hq
  obtain ⟨t, rfl⟩ := rz
  refine ⟨⟨n0, by omega⟩, ?_⟩
  have htl : Builtin.List.listTooLong (n.toNat) = false := by
    have := sizeLine_eq
    simp [Builtin.List.listTooLong]; omega
  refine wpAny_bind (m := asInt? _) (wpAny_pure ?_)
  refine wpAny_ite_split (fun hab => absurd hab (by rw [htl]; decide)) (fun _ => wpAny_pure (hR _ H' _ (I'.tok _) q))
/-- list(x) of a held tuple, its length is told by x -/
def eListOwn (c k : Nat) (ml : Ro → R EV) (fa : EF) : EF := fun ρ => (fa ρ).bind fun x ρ1 => match heldT c k (deref ρ1 x) with
  | some us => (match callM [.v] ml [x] ρ1 with
    | .ok (.val (.int n)) ρ2 => if 0 ≤ n ∧ n ≤ 100000 ∧ us.length ≤ 100000 then .ok (.own us) ρ2 else .bad
    | _ => .bad)
  | none => .bad
theorem boot_list' : bootBuiltins "list" = some (.type "list") := by decide +kernel
theorem e_listOwn {c kk ki kl : Nat} {n : Str} {fl : Addr} {fdl : FuncData} {psl : List Str} {ml : Ro → R EV} (hn : D.nm kk = n) (O : OwnM D.K (D.ca c) "__iter__" f) (F : ItFn X.prog X.w X.K X.mg X.base ki f (D.ca c) n) (OL : OwnM D.K (D.ca c) "__len__" fl)
    (FL : FnOk X.prog X.w X.K X.mg X.base (L2.CX X.prog X.w) kl fl fdl psl (spM D 1 ml)) (bL : Binds X.K fdl psl []) (hki : Room (ki + 2) X.A) (hkl : Room (kl + 3) X.A) (hc : X.calm = true) (hg : Gl X "list") (hm : X.mg "list" = none) (ha : EX X D φ W a fa)
    (h1 : starEach (a :: []) X.env = (false, eval a X.env) :: starEach [] X.env := by rfl) (hpl : (backTo pos (starEach [] X.env)).any (·.1) = false := by rfl) (hK : X.K = D.K := by rfl) : EX X D φ W (.Call (.Name "list" p) [a] [] pos) (eListOwn c kk ml fa) := by
  refine ⟨⟨fun pins s σ H Q I h => ?_⟩⟩
  obtain ⟨G, ρ, r, pp⟩ := h
  have hp := (pa_cons ha.pe pa_nil h1).run pos pins s σ H (fun vs H1 => ∃ (v : V) (G1 : Hp) (ρ1 ρ2 : Ro) (xe : EV) (us : List T) (x dx : Addr) (fs : List (Str × V)) (l : Addr) (zs : List V) (nn : Int), vs = [v] ∧ Rel D φ G1 σ ρ1 H1 ∧ Hld D G1 σ v xe ∧ v = .ref x ∧ H1 x = some (.ins (D.ca c) dx fs) ∧ fs.lookup n = some (.ref l) ∧ SqT D.K G1 l zs ∧ Reps D G1 us zs ∧
      callM [.v] ml [xe] ρ1 = .ok (.val (.int nn)) ρ2 ∧ 0 ≤ nn ∧ nn ≤ 100000 ∧ us.length ≤ 100000 ∧ ∀ G' H', Same G1 G' → Rel D φ G' σ ρ2 H' → ∀ v, RepV D φ G' σ ρ2 H' v (.own us) → Q v H') I ?_
  · refine wpAny_Call_Name_kw (ld_blt I hg hm boot_list' ?_ (by decide) (by decide))
    refine PyProof.Rows.callWith_type1 (thn hp fun us s1 ⟨vs, H1, I1, r1, v, G1, ρ1, ρ2, xe, ts, x, dx, fs, l, zs, nn, evs, rl, hh, ev, hx, hl, hz, hts, ecall, n0, n1, hlen, fin⟩ => ?_) h1 hpl
    subst evs ev
    obtain ⟨u, rfl, ru⟩ := vals1 r1
    cases ru
    refine callType_codes (Q₁ := fun obj s₁ => obj = .ref s1.heap.objs.size ∧ s₁ = { s1 with heap := s1.heap.push { cls := .type "list", data := .seq #[] } }) PySem.F.called_list (PySem.F.typeCall_list_1 _) PySem.F.entry_list_init (code_list_new _ ⟨rfl, rfl⟩) fun obj s₁ h₁ => ?_
    obtain ⟨rfl, rfl⟩ := h₁
    generalize hq : s1.heap.objs.size = q
    have hS : (s1.heap.push { cls := .type "list", data := .seq #[] }).get? q = some { cls := .type "list", data := .seq #[] } := by rw [← hq]; exact Heap.get?_push_size _ rfl
    refine ⟨⟨_, hS, rfl⟩, PySem.F.args_list_init_2 _ _, ?_⟩
    have fr : H1 q = none := I1.hok.fresh (by rw [hq]; exact Nat.le_refl _)
    have J1 : Inv X pins σ (upd H1 q (.lst [])) { s1 with heap := s1.heap.push { cls := .type "list", data := .seq #[] } } := by rw [← hq]; exact I1.lnew (its := []) (t' := s1.toks) .nil (Nat.zero_le _)
    show wpAny _ _ (do let old ← Builtin.List.listItems (.ref q); Builtin.List.listUpdate (.ref q) (fun _ => #[]); letGo old.toList.reverse; Builtin.List.listExtendWith (.ref q) (.ref x) .none) _ _ _
    refine wpAny_bind ?_
    unfold Builtin.List.listItems
    refine wpAny_bind (wpAny_seqItems hS rfl (wpAny_pure ?_))
    show wpAny _ _ (updateSeq q (fun _ => #[]) >>= fun _ => letGo (#[] : Array Value).toList.reverse >>= fun _ => Builtin.List.listExtendWith (.ref q) (.ref x) .none) _ _ _
    refine wpAny_bind (wpAny_updateSeq hS rfl ?_)
    have J2 := J1.lset (f := fun _ => #[]) (its := []) (its' := []) (ys := []) (t' := s1.toks) upd_same hS rfl .nil (Nat.zero_le _)
    rw [upd_upd] at J2
    refine wpAny_bind (wpAny_letGo ?_)
    have hxq : x ≠ q := ne_of_none hx fr
    have hx2 : upd H1 q (.lst []) x = some (.ins (D.ca c) dx fs) := by rw [upd_ne hxq]; exact hx
    -- the iterator
    obtain ⟨od, J⟩ := ins_at J2 hx2
    obtain ⟨mm, hF⟩ := J2.fr
    unfold Builtin.List.listExtendWith
    refine wpAny_bind (J.type.here ?_)
    have g1 : Builtin.List.listSameRef (.ref q) (.ref x) = false := by simp [Builtin.List.listSameRef, Ne.symm hxq]
    have g2 : (Value.ref (D.ca c) == Value.type "list") = false := rfl
    have g3 : (Value.ref (D.ca c) == Value.type "tuple") = false := rfl
    simp only [g1, g2, g3, Bool.or_false, Bool.false_eq_true, if_false]
    have sG : Same G1 (upd H1 q (.lst [])) := fun b o e => by rw [upd_ne (ne_of_none (rl.sub _ _ e) fr)]; exact rl.sub _ _ e
    refine wpAny_bind (own_iter (by rw [hK]; exact O) F ⟨hki.in1.in1, rfl⟩ J2 hx2 hl (by rw [hK]; exact same_t sG hz) fun it s2 hit hge J3 J3' hf st => ?_)
    -- the length
    have hit1 : H1 it = none := by
      cases e : H1 it with
      | none => rfl
      | some o => rw [upd_ne (ne_of_none e fr), e] at hit; cases hit
    have hqi : q ≠ it := fun e => by rw [e, upd_same] at hit; cases hit
    have sH : Same H1 (upd (upd H1 q (.lst [])) it (ItT l it 0)) := (Same.fresh_up fr).trans (Same.fresh_up hit)
    have hq3 : upd (upd H1 q (.lst [])) it (ItT l it 0) q = some (.lst []) := by rw [upd_ne hqi, upd_same]
    have r3 := ((rl.grow sH).pinUp hq3 (same_none rl.sub fr) (rl.gonePin fr) (rl.not_mut fr)).pinUp (L := it) (o := ItT l it 0) upd_same (same_none rl.sub hit1) ((upd_ne (Ne.symm hqi)).trans (rl.gonePin hit1)) (rl.not_mut hit1)
    have hx3 : upd (upd H1 q (.lst [])) it (ItT l it 0) x = some (.ins (D.ca c) dx fs) := sH _ _ hx
    refine wpAny_bind (wpAny_holding (own_hintL (R0 := fun H3 => ∃ G3, Same G1 G3 ∧ Rel D φ G3 σ ρ2 H3 ∧ (H3 q = some (.lst []) ∧ G3 q = none ∧ ∀ i, ¬ MutAt σ ρ2 i q) ∧ (H3 it = some (ItT l it 0) ∧ G3 it = none ∧ ∀ i, ¬ MutAt σ ρ2 i it)) (by rw [hK]; exact OL) FL ⟨hkl.in1.in1, rfl⟩ bL J3 hx3 ?_ fun b H3 s3 J4 hR => ?_))
    · refine call_sp (ms := [.v]) (E := fun _ _ _ => False) (W := W0) (G0 := G1) r3 (.cons hh .nil) (fun _ _ _ h => h) (.refl _) ?_
      rw [ecall]
      intro G3 H3 s3 r4 v hv
      refine ⟨nn, hv, n0, n1, G3, s3, ?_⟩
      obtain ⟨r5, h3, h4, h5⟩ := r4.pinDown ((upd_ne (Ne.symm hqi)).trans (rl.gonePin hit1)) (fun i a hpn => by
        obtain ⟨o, ho⟩ := rl.pnOk i a hpn
        exact ⟨o, (upd_ne (fun z => by rw [z, rl.gonePin fr] at ho; cases ho)).trans ho⟩)
      obtain ⟨r6, h6, h7, h8⟩ := r5.pinDown (rl.gonePin fr) rl.pnOk
      exact ⟨r6, ⟨h6, h7, h8⟩, h3, h4, h5⟩
    · obtain ⟨G3, sG3, r4, ⟨q1, q2, q3⟩, i1, i2, i3⟩ := hR
      have st3 : s3.heap.IsTupleIter it l 0 := (J4.hok it _ i1).1
      have J5 := ItX.inv_drop J4 i1
      have dq : ItX.dropH H3 it q = some (.lst []) := by rw [ItX.dropH_ne hqi]; exact q1
      have r5 := r4.drop i2 (rl.gone hit1) (rl.gonePin hit1) i3
      have fin' : ∀ s, Inv X pins σ (upd (ItX.dropH H3 it) q (.lst zs)) s → wants (fun r s₂ => r = .none ∧ EP X pins σ Q (.ref q) s₂) X.xe (.ok (.ret .none)) s := fun s J6 =>
        ⟨rfl, .ref q, _, J6, rfl, fin G3 _ sG3 (r5.other q2 (rl.gone fr) (rl.gonePin fr) q3) _ ⟨q, zs, rfl, upd_same, q2, rl.gone fr, rl.gonePin fr, hts.mono sG3, q3⟩⟩
      have lo : ∀ s, Inv X pins σ (upd (ItX.dropH H3 it) q (.lst [])) s → s.heap.IsTupleIter it l 0 → codeAny (model X.prog X.w) X.A.in1 (.builtin "list.extend.loop" ⟨[.ref q, .ref it, .none], []⟩) (wants (fun r s₂ => r = .none ∧ EP X pins σ Q (.ref q) s₂) X.xe) s := fun s J6 st6 => by
        refine tup_loop (H := ItX.dropH H3 it) (zs := zs) (by first | exact I.ok.hd hc | (show X.A.handled = none; exact I.ok.hd hc)) (fun acc => ?_) ?_ (J2.fpOk hge ItX.dropH_same) hqi fin' zs.length [] zs s rfl rfl J6 st6
        · rw [hK]
          exact same_t (fun b o e => by rw [upd_ne (fun z => by rw [z, q2] at e; cases e)]; exact r5.sub _ _ e) (same_t sG3 hz)
        · rw [hts.len]; have := sizeLine_eq; omega
      rw [← upd_self dq] at J5
      refine wpAny_ite_split (fun _ => ?_) (fun _ => wpAny_pure ⟨plainId_quiet PySem.F.plain_extend_loop _, lo _ J5 st3⟩)
      refine wpAny_bind (wpAny_rule ?_)
      refine wpAny_bind ?_
      show wpAny _ _ (updateSeq q (·.push .none) >>= fun _ => updateSeq q (·.pop)) _ _ _
      obtain ⟨z, its, k, r3, hl3, e3⟩ := J5.lstM upd_same
      cases r3
      refine wpAny_bind (wpAny_updateSeq e3 rfl ?_)
      have J6 := J5.lset (f := (·.push Value.none)) (its' := [Value.none]) (ys := [.non]) (t' := s3.toks) upd_same e3 (by simp) (.cons rfl .nil) (by rw [List.length_singleton, sizeLine_eq]; decide)
      obtain ⟨z4, its4, k4, r4', hl4, e4⟩ := J6.lstM upd_same
      obtain ⟨u4, rfl, ru4⟩ := r4'.one
      refine wpAny_updateSeq e4 rfl ?_ (by show 1 ≤ sizeLine; rw [sizeLine_eq]; decide) (by show 0 ≤ sizeLine + 1; exact Nat.zero_le _)
      have J7 := J6.lset (f := (·.pop)) (its := [u4]) (its' := []) (ys := []) (t' := s3.toks) upd_same e4 (by rfl) .nil (Nat.zero_le _)
      rw [upd_upd, upd_upd] at J7
      refine wpAny_pure ⟨plainId_quiet PySem.F.plain_extend_loop _, lo _ J7 ?_⟩
      refine st3.at fun o ho => ?_
      exact (Heap.get?_update_other _ _ hqi).trans ((Heap.get?_update_other _ _ hqi).trans ho)
  · refine ⟨G, ρ, r, Post.imp (Post.bind pp) fun x ρ1 G1 H1 s1 r1 p1 v hv => ?_⟩
    obtain ⟨G2, s2, r2, hh⟩ := settle r1 hv
    have p2 := Post.weak s2 p1
    cases e1 : deref ρ1 x with
    | none => simp only [e1, heldT] at p2; exact p2.elim
    | some t =>
      rw [e1] at p2
      cases e2 : heldT c kk (some t) with
      | none => simp only [e2] at p2; exact p2.elim
      | some us =>
        simp only [e2] at p2
        obtain ⟨y, dx, fs, l, zs, rfl, g1, g2, g3, g4⟩ := held_of r2.sub hn e2 (hh.use r2 e1)
        split at p2
        · rename_i nn ρ2 ecall
          split at p2
          · rename_i hc
            exact ⟨_, G2, ρ1, ρ2, x, us, y, dx, fs, l, zs, nn, rfl, r2, hh, rfl, g1, g2, g3, g4, ecall, hc.1, hc.2.1, hc.2.2, p2⟩
          · exact p2.elim
        · exact p2.elim
end
end VI

set_option Elab.async false
set_option linter.all false
set_option maxRecDepth 100000
set_option maxHeartbeats 4000000
namespace VI
open PySem L2 PySem.Spec PyProof.Rows PpSet

/-! ### a set of ints by a comprehension -/
section
variable {X : Cx}
/-- the new set's turn: y is put in -/
def putS (w : World) (d : Addr) (nx : Hp → Prop) : VK := fun y H => ∃ (c : Int) (S : Int → Bool) (n : Nat), y = .int c ∧ H d = some (SetO w d S n) ∧ n + 1 < scanBound ∧ nx (upd H d (SetO w d (fun j => S j || decide (j = c)) (if S c = true then n else n + 1)))
def tSi (w : World) (wi : TI) (g : TG) (te : TE) (vs : List Nat) : TE := fun σ H Q => wi σ H fun J H1 => ∀ d, H1 d = none → ∃ Wp : Nat → Nat → Hp → Prop, (∃ m, Wp 0 m (upd H1 d (SetO w d (fun _ => false) 0))) ∧
  ∀ i m H, Wp i m H → (J.stop i H ∧ Q (.ref d) H) ∨ (J.go i H ∧ ∃ nx : Hp → Prop, (∀ H', nx H' → ∃ m', m' < m ∧ Wp (i + 1) m' H') ∧
    ∀ x H', J.yld i H x H' → g x (wipe σ vs) H' fun σ2 H2 => wipe σ2 vs = wipe σ vs ∧ te σ2 H2 (putS w d nx))
theorem put_in {pins : List (Addr × Obj)} {σ : L2.St} {H : Hp} {s : Shared} {E : Value → Shared → Prop} {d : Addr} {nx : Hp → Prop} {y : V} {v : Value} {R : Shared → Prop} (I : Inv X pins σ H s) (ry : RelV y v) (h : putS X.w d nx y H) (hR : ∀ s' H', Inv X pins σ H' s' → nx H' → R s') :
    wpAny (model X.prog X.w) X.A (call (.builtin "set.add") [.ref d, v]) (fun _ s' => R s') E s := by
  obtain ⟨c, S, n, rfl, hd, room, q⟩ := h
  obtain ⟨tk, rfl⟩ := ry
  have old := setO_get I hd
  refine setR_add old room fun h' sb new => hR _ _ ?_ q
  have he : ∃ u, h'.get? d = some u := by
    obtain ⟨o, _, _, _, ho, _⟩ := id new
    exact ⟨o, ho⟩
  exact I.write (e := d) (t' := s.toks + 1) (by rw [hd]; trivial) (.inl rfl) (fun b u hb hu => (sb.2 b hb).trans hu) he (setO_new new)
theorem pe_si {elt tg iter : Expr} {scope : Scope} {own : List (PySem.Str × Nat)} {pos : Pos} {wi : TI} {g : TG} {te : TE} (hc : X.calm = true) (hN : X.N.Nodup) (hi : PI X tg iter wi) (ok : BlkOk X.N X.env.scope scope own)
    (hg : ∀ (s : Shared) (H : Hp) (C : Addr) (cl : List (PySem.Str × Addr)) (fp : List Addr), PG (X.blk s H scope (compEnvC scope cl C X.env) fp) tg g)
    (he : ∀ (s : Shared) (H : Hp) (C : Addr) (cl : List (PySem.Str × Addr)) (fp : List Addr), PE (X.blk s H scope (compEnvC scope cl C X.env) fp) elt te) (hs : ∀ x, foldedSetIterable iter X.env x = pure x := by intro _; rfl) :
    PE X (.SetComp elt [⟨tg, iter, [], 0⟩] scope pos) (tSi X.w wi g te (own.map (·.2))) := by
  refine ⟨fun pins s0 σ H0 Q I0 h => ?_⟩
  rw [eval_SetComp]
  have fr : ∀ y ∈ scope.names, y.2 = .free → ∃ c, X.env.cells.lookup y.1 = some c := fun y hy e =>
    (ok.free y hy e).elim (fun k => I0.ok.has _ (.inl k)) fun k => I0.ok.has _ (.inr k)
  refine wpAny_comprehension_free (use := none) rfl hs (closure_ok fr) ok.kind (fun y hy e => by rw [ok.uniq y hy, e]) ?_
  refine thn (hi.run pins s0 σ H0 _ I0 h) fun xv sa ha => thn ha fun itv sb hb => ?_
  obtain ⟨it, fp, tn, J, Hb, rfl, Ib, T, tb, fb, q⟩ := hb
  refine newSet_ok (newEnv_comp ?_)
  generalize hd : sb.heap.objs.size = d
  have dn : Hb d = none := Ib.hok.fresh (by rw [hd]; exact Nat.le_refl _)
  obtain ⟨Wp, ⟨m0, w0⟩, turn⟩ := q d dn
  generalize hsc : ({ sb with heap := sb.heap.push { cls := .type "set", dict := none, data := .set #[] 0 (.fresh 0 0 (!X.w.params.followText "set-order")) } } : Shared) = sc
  have kc : ∀ b o, sb.heap.get? b = some o → sc.heap.get? b = some o := fun b o e => by rw [← hsc]; exact Heap.get?_push_of_some _ e
  have zc : sc.heap.objs.size = sb.heap.objs.size + 1 := by rw [← hsc]; exact Heap.size_push _ _
  have Ic : Inv X pins σ (upd Hb d (SetO X.w d (fun _ => false) 0)) sc := by
    rw [← hsc]
    refine Ib.laid (t' := sb.toks) (fun b o e => Heap.get?_push_of_some _ e) (by rw [hd]; exact Nat.le_refl _) ?_
    rw [← hd]
    exact setO_new (setR_fresh X.w)
  have lt : ∀ b ∈ fp, b < sb.heap.objs.size := fun b hb => let ⟨_, e, _⟩ := T.obj _ _ tb b hb; Heap.lt_size e
  have fc : ∀ b ∈ fp, FpOk X pins (upd Hb d (SetO X.w d (fun _ => false) 0)) b ∧ b < sc.heap.objs.size := fun b hb => by
    have l := lt b hb
    exact ⟨⟨by rw [upd_ne (by rw [← hd]; exact Nat.ne_of_lt l)]; exact (fb b hb).1, (fb b hb).2⟩, by rw [zc]; exact Nat.lt_succ_of_lt l⟩
  have tc : tn 0 sc.heap := T.keep _ _ _ tb fun b _ o e => kc b o e
  have Id := block_start Ic ok hN fc
  generalize hH : upd Hb d (SetO X.w d (fun _ => false) 0) = Hc at Ic Id w0 fc
  have PGb := hg sc Hc sc.heap.objs.size (cellsFrom (sc.heap.objs.size + 1) scope.names (cloFrom X.env.cells scope.names [])) fp
  have PEb := he sc Hc sc.heap.objs.size (cellsFrom (sc.heap.objs.size + 1) scope.names (cloFrom X.env.cells scope.names [])) fp
  show codeAny (model X.prog X.w) X.A (.compStart (.SetComp elt [⟨tg, iter, [], 0⟩] scope pos) 0 (.ref it) (.ref d) (compEnvC scope (cellsFrom (sc.heap.objs.size + 1) scope.names (cloFrom X.env.cells scope.names [])) sc.heap.objs.size X.env)) (compPost (model X.prog X.w) X.A X.xe none (EP X pins σ Q) (.ref d) sc.heap.objs.size)
    { sc with heap := pushCells (sc.heap.push { cls := .type "dict", data := .dict #[] }) scope.names }
  generalize hce : compEnvC scope (cellsFrom (sc.heap.objs.size + 1) scope.names (cloFrom X.env.cells scope.names [])) sc.heap.objs.size X.env = ce at Id PGb PEb ⊢
  have hL : ce.locals = sc.heap.objs.size := by rw [← hce]; rfl
  generalize hsd : ({ sc with heap := pushCells (sc.heap.push { cls := .type "dict", data := .dict #[] }) scope.names } : Shared) = sd at Id ⊢
  have td : tn 0 sd.heap := T.keep _ _ _ tc fun b _ o e => by rw [← hsd]; exact pushCells_keeps _ _ _ _ (Heap.get?_push_of_some _ e)
  have fpk : ∀ {σ' : L2.St} {H' : Hp} {s' : Shared}, Inv (X.blk sc Hc scope ce fp) [] σ' H' s' → (∀ b ∈ fp, H' b = none) → ∀ b ∈ fp, FpOk (X.blk sc Hc scope ce fp) [] H' b := fun J' hn b hb =>
    ⟨hn b hb, (J'.ok.exf b hb).1, J'.ok.exfs b hb, .inl hb, (J'.ok.exf b hb).2, fun p hp => nomatch (show p ∈ ([] : List (Addr × Obj)) from hp)⟩
  suffices loop : codeAny (model X.prog X.w) X.A (.compLoop (.SetComp elt [⟨tg, iter, [], 0⟩] scope pos) 0 (.ref it) (.ref d) ce) (compPost (model X.prog X.w) X.A X.xe none (EP X pins σ Q) (.ref d) sc.heap.objs.size) sd from
    codeAny_compStart_set loop (T.self X.A 0 _ _ _ td loop)
  refine compLoopS_any (fun n s' => ∃ i H', Inv (X.blk sc Hc scope ce fp) [] (wipe σ (own.map (·.2))) H' s' ∧ tn i s'.heap ∧ (∀ b ∈ fp, H' b = none) ∧ Wp i n H') ?_ m0 ⟨0, Hc, Id, td, fun b hb => (fc b hb).1.1, w0⟩
  rintro n se ⟨i, He, Ie, te', ne, we⟩
  rcases turn i n He we with ⟨stop, fin⟩ | ⟨go, nx, hnx, step⟩
  · refine thnF (T.done (X.blk sc Hc scope ce fp) rfl rfl rfl hc i [] se _ He (fun _ _ => False) Ie (fpk Ie ne) te' stop) fun r sf ⟨hr, If⟩ => ?_
    subst hr
    have back : Inv X pins σ He sf := Ic.call' (ch := fp) If.os If.base If.hok If.bare fun b hb => by
      obtain ⟨⟨_, k1, _, k3, k4, k5⟩, _⟩ := fc b hb
      exact ⟨k3, k1, k4, k5⟩
    have free : He sc.heap.objs.size = none := by rw [← hL]; exact If.free
    obtain ⟨mm, hns, _⟩ := If.loc
    refine ⟨mm, by rw [← hL]; exact hns, fun h'' sb' => ?_⟩
    obtain ⟨f0, f1, _, f3, f4, f5⟩ := Ic.fpOk (Nat.le_refl sc.heap.objs.size) free
    exact ⟨.ref d, He, back.turned (t' := sf.toks) (fun b o hb e => (sb'.2 b hb).trans e) f0 f1 f3 f4 f5, rfl, fin⟩
  · refine thnF (T.item (X.blk sc Hc scope ce fp) rfl rfl rfl hc i [] se _ He (fun _ _ => False) Ie (fpk Ie ne) te' go) fun r sf ⟨u, hr, hf⟩ => ?_
    subst hr
    refine thnF hf fun _ sg ⟨x, Hg, Ig, rg, yg, tg', ng⟩ => ?_
    have Ig' := Ig.pinned (fpk Ig ng) (T.obj _ _ tg')
    refine thnF (PGb.run _ sg _ Hg x u _ Ig' rg (step x Hg yg)) fun _ sh ⟨σh, Hh, Ih, hw, qh⟩ => ?_
    refine thnF ((pts_nil (X := X.blk sc Hc scope ce fp)).run _ sh σh Hh (fun b H' => b = true ∧ H' = Hh) Ih ⟨rfl, rfl⟩) fun b si ⟨Hi, Ii, hb, hHi⟩ => ?_
    subst hb hHi
    rw [if_pos rfl]
    refine thnF (PEb.run _ si σh _ _ Ii qh) fun z sj ⟨y, Hj, Ij, rj, pj⟩ => ?_
    refine put_in (X := X.blk sc Hc scope ce fp) Ij rj pj fun s' H' I' hx => ?_
    obtain ⟨m', hm, w'⟩ := hnx H' hx
    have kept : ∀ b ∈ fp, ∀ o, sg.heap.get? b = some o → s'.heap.get? b = some o ∧ H' b = none := fun b hb o e => by
      obtain ⟨z1, z2, _⟩ := I'.pin (b, o) (List.mem_append_right _ (List.mem_append_right _ (mem_pinsAt hb e)))
      exact ⟨z1, z2⟩
    refine ⟨m', hm, i + 1, H', (I'.unpinned (pins := [])).weak (by rw [← hw, wipe_length]) (fun j v e => ?_), T.keep _ _ _ tg' fun b hb o e => (kept b hb o e).1, fun b hb => ?_, w'⟩
    · rw [← hw] at e
      exact (wipe_some e).1
    · obtain ⟨o, e, _⟩ := T.obj _ _ tg' b hb
      exact (kept b hb o e).2
end

/-! ### sorted, without doubles -/
def insU (x : Int) : List Int → List Int
  | [] => [x]
  | y :: ys => if x < y then x :: y :: ys else if x = y then y :: ys else y :: insU x ys
def srtU : List Int → List Int
  | [] => []
  | x :: xs => insU x (srtU xs)
theorem mem_insU {x k : Int} : ∀ {l : List Int}, k ∈ insU x l ↔ k = x ∨ k ∈ l
  | [] => by simp [insU]
  | y :: ys => by
    unfold insU
    split
    · simp
    · split
      · rename_i h; subst h; simp
      · simp only [List.mem_cons, mem_insU (l := ys)]; constructor <;> rintro (h | h | h) <;> simp [h]
theorem insU_sorted {x : Int} : ∀ {l : List Int}, l.Pairwise (· < ·) → (insU x l).Pairwise (· < ·)
  | [], _ => by simp [insU]
  | y :: ys, h => by
    rw [List.pairwise_cons] at h
    unfold insU
    split
    · rename_i hx
      refine List.pairwise_cons.mpr ⟨fun a ha => ?_, List.pairwise_cons.mpr h⟩
      rcases List.mem_cons.mp ha with rfl | ha
      · exact hx
      · have := h.1 a ha; omega
    · split
      · exact List.pairwise_cons.mpr h
      · rename_i h1 h2
        refine List.pairwise_cons.mpr ⟨fun a ha => ?_, insU_sorted h.2⟩
        rcases mem_insU.mp ha with rfl | ha
        · omega
        · exact h.1 a ha
theorem insU_len {x : Int} : ∀ {l : List Int}, l.Pairwise (· < ·) → (insU x l).length = if x ∈ l then l.length else l.length + 1
  | [], _ => by simp [insU]
  | y :: ys, h => by
    rw [List.pairwise_cons] at h
    unfold insU
    split
    · rename_i hx
      have : x ∉ y :: ys := fun z => by
        rcases List.mem_cons.mp z with rfl | z
        · omega
        · have := h.1 x z; omega
      rw [if_neg this]; rfl
    · split
      · rename_i _ e; subst e; simp
      · rename_i h1 h2
        rw [List.length_cons, insU_len h.2]
        by_cases hm : x ∈ ys
        · rw [if_pos hm, if_pos (List.mem_cons_of_mem _ hm)]; rfl
        · rw [if_neg hm, if_neg (fun z => by rcases List.mem_cons.mp z with z | z; exact h2 z; exact hm z)]; rfl
theorem mem_srtU {k : Int} : ∀ {l : List Int}, k ∈ srtU l ↔ k ∈ l
  | [] => by simp [srtU]
  | x :: xs => by rw [srtU, mem_insU, mem_srtU, List.mem_cons]
theorem srtU_sorted : ∀ (l : List Int), (srtU l).Pairwise (· < ·)
  | [] => .nil
  | _ :: xs => insU_sorted (srtU_sorted xs)
/-- a strictly ascending list is told by its members -/
theorem asc_unique {xs ys : List Int} (hx : xs.Pairwise (· < ·)) (hy : ys.Pairwise (· < ·)) (h : ∀ k, k ∈ xs ↔ k ∈ ys) : xs = ys := by
  have nx : xs.Nodup := hx.imp fun h => by omega
  have ny : ys.Nodup := hy.imp fun h => by omega
  exact ((List.perm_ext_iff_of_nodup nx ny).mpr h).eq_of_pairwise (fun a b _ _ h1 h2 => by omega) hx hy

section
variable {D : Wd} {φ : Fr} {G G' : Hp} {σ σ' : L2.St} {ρ ρ' : Ro} {H H' : Hp}
/-- some names are forgotten -/
theorem Rel.wiped (r : Rel D φ G σ ρ H) (vs : List Nat) : Rel D φ G (wipe σ vs) (wipeR ρ vs) H := by
  have m : ∀ i a, MutAt (wipe σ vs) (wipeR ρ vs) i a → MutAt σ ρ i a := fun i a ⟨⟨s, h1, h2⟩, h3⟩ => by
    rcases wipeR_get h1 with e | ⟨n, e⟩
    · subst e; cases h2
    · rw [wipe_get n] at h3; exact ⟨⟨s, e, h2⟩, h3⟩
  refine ⟨by rw [wipeR_len, wipe_length]; exact r.len, r.sub, r.base, r.keep, r.alive, r.frame, fun i s h => ?_, fun i j a h1 h2 => r.disj i j a (m i a h1) (m j a h2), r.pin, fun i a h => r.pinM i a (m i a h), fun i a h => by rw [wipeR_len]; exact r.ioLt i a h, r.pnOk⟩
  rcases wipeR_get h with e | ⟨n, e⟩
  · subst e; trivial
  · have z := r.slot i s e
    cases s <;> simp only [SlotOk, wipe_get n] at z ⊢ <;> exact z
/-- and known again -/
theorem Rel.unwiped {G0 H0 : Hp} {φ0 : Fr} {ρ0 : Ro} {vs : List Nat} (r : Rel D φ G σ' ρ' H) (hw : wipe σ' vs = wipe σ vs) (r0 : Rel D φ0 G0 σ ρ0 H0) (pl : plainAt ρ0 vs = true) (s : Same G0 G) : Rel D φ G σ (backR ρ0 vs ρ') H := by
  have hlen : σ'.length = σ.length := by have := congrArg List.length hw; rwa [wipe_length, wipe_length] at this
  have out : ∀ {j : Nat}, j ∉ vs → σ[j]? = σ'[j]? := fun {j} h => by
    have := congrArg (·[j]?) hw
    simp only [wipe_get h] at this
    exact this.symm
  have plain : ∀ {j : Nat}, j ∈ vs → (ρ0.getD j .no).plain = true := fun h => List.all_eq_true.mp pl _ h
  have m : ∀ i a, MutAt σ (backR ρ0 vs ρ') i a → MutAt σ' ρ' i a := fun i a ⟨⟨t, h1, h2⟩, h3⟩ => by
    rcases backR_get h1 with ⟨n, rfl⟩ | ⟨n, e⟩
    · exact (plain_mut (plain n) h2).elim
    · exact ⟨⟨t, e, h2⟩, by rw [← out n]; exact h3⟩
  refine ⟨by rw [backR_len, r.len, hlen], r.sub, r.base, r.keep, r.alive, r.frame, fun i t h => ?_, fun i j a h1 h2 => r.disj i j a (m i a h1) (m j a h2), r.pin, fun i a h => r.pinM i a (m i a h), fun i a h => by rw [backR_len]; exact r.ioLt i a h, r.pnOk⟩
  rcases backR_get h with ⟨n, rfl⟩ | ⟨n, e⟩
  · have pp := plain n
    cases q : ρ0[i]? with
    | none => rw [List.getD_eq_getElem?_getD, q]; trivial
    | some t =>
      have z := r0.slot i t q
      rw [List.getD_eq_getElem?_getD, q] at pp ⊢
      cases t with
      | no => trivial
      | val u => obtain ⟨v, h1, h2⟩ := z; exact ⟨v, h1, h2.mono s⟩
      | _ => cases pp
  · have z := r.slot i t e
    cases t <;> simp only [SlotOk, out n] at z ⊢ <;> exact z
theorem plain_back {vs : List Nat} (pl : plainAt ρ vs = true) : plainAt (backR ρ vs ρ') vs = true := List.all_eq_true.mpr fun v hv => by
  have pv := List.all_eq_true.mp pl v hv
  cases q : (backR ρ vs ρ')[v]? with
  | none => rw [List.getD_eq_getElem?_getD, q]; rfl
  | some s =>
    rw [List.getD_eq_getElem?_getD, q]
    rcases backR_get q with ⟨_, e⟩ | ⟨n, _⟩
    · rw [show (some s).getD Sl.no = s from rfl, e]; exact pv
    · exact absurd hv n
end
/-- an expression that makes a set of ints -/
def rdV (D : Wd) (φ : Fr) (W : WX) (w : World) (f : Ro → R (List Int)) : TE := fun σ H Q => ∃ G ρ, Rel D φ G σ ρ H ∧ Post D φ W G σ (fun acc ρ G H => ∀ L, H L = some (SetO w L (fun j => decide (j ∈ acc)) (srtU acc).length) → G L = none → φ.H L = none → φ.pin L = none → (∀ i, ¬ MutAt σ ρ i L) → Q (.ref L) H) (f ρ)
def loopV (g : T → Ro → Option Ro) (fe : EF) (vs : List Nat) : List T → List Int → Ro → R (List Int)
  | [], acc, ρ => .ok acc ρ
  | t :: ts, acc, ρ => match g t (wipeR ρ vs) with
    | none => .bad
    | some ρ2 => match fe ρ2 with
      | .ok (.val (.int j)) ρ3 => loopV g fe vs ts (j :: acc) (backR ρ vs ρ3)
      | _ => .bad
def vSc (fi : Ro → R (List T)) (g : T → Ro → Option Ro) (fe : EF) (vs : List Nat) : Ro → R (List Int) := fun ρ => (fi ρ).bind fun ts ρ1 => if plainAt ρ1 vs = true ∧ ts.length ≤ 4000 then loopV g fe vs ts [] ρ1 else .bad
section
variable {X : Cx} {D : Wd} {φ : Fr} {W : WX}
theorem pe_sv {elt tg iter : Expr} {scope : Scope} {own : List (Str × Nat)} {pos : Pos} {fi : Ro → R (List T)} {g : T → Ro → Option Ro} {fe : EF} {ix : List Nat} (hc : X.calm = true) (hN : X.N.Nodup) (hi : IX X D φ W tg iter fi) (ok : BlkOk X.N X.env.scope scope own)
    (hix : ∀ i ∈ ix, i ∈ own.map (·.2))
    (hg : ∀ (s : Shared) (H : Hp) (C : Addr) (cl : List (Str × Addr)) (fp : List Addr) (φ : Fr), GX (X.blk s H scope (compEnvC scope cl C X.env) fp) D φ ix tg g)
    (he : ∀ (s : Shared) (H : Hp) (C : Addr) (cl : List (Str × Addr)) (fp : List Addr) (φ : Fr), EX (X.blk s H scope (compEnvC scope cl C X.env) fp) D φ W0 elt fe) (hs : ∀ x, foldedSetIterable iter X.env x = pure x := by intro _; rfl) :
    PE X (.SetComp elt [⟨tg, iter, [], 0⟩] scope pos) (rdV D φ W X.w (vSc fi g fe (own.map (·.2)))) :=
  pe_mono (pe_si hc hN hi.pi ok (fun s H C cl fp => pg_ex (hg s H C cl fp)) (fun s H C cl fp => pe_ex (he s H C cl fp)) hs) fun σ H Q ⟨G, ρ, r, p⟩ => by
    refine ⟨G, ρ, r, Post.imp (Post.bind p) fun ts ρ1 G1 H1 s1 r1 p1 J G2 s2 r2 it L hL => ?_⟩
    split at p1
    · rename_i cond
      obtain ⟨pl, few⟩ := cond
      obtain ⟨Gp, Y, w, hG, hY⟩ := it
      have hH := r2.gone hL
      have hp := r2.gonePin hL
      generalize hvs : own.map (·.2) = vs at pl p1 hix ⊢
      let Pv : Nat → Hp → Prop := fun i H => ∃ G ρ acc, Same G2 G ∧ Rel D φ G σ ρ H ∧ H L = some (SetO X.w L (fun j => decide (j ∈ acc)) (srtU acc).length) ∧ G L = none ∧ (∀ i, ¬ MutAt σ ρ i L) ∧ plainAt ρ vs = true ∧ acc.length ≤ i ∧ i ≤ ts.length ∧
        Post D φ W G σ (fun acc ρ G H => ∀ L, H L = some (SetO X.w L (fun j => decide (j ∈ acc)) (srtU acc).length) → G L = none → φ.H L = none → φ.pin L = none → (∀ i, ¬ MutAt σ ρ i L) → Q (.ref L) H) (loopV g fe vs (ts.drop i) acc ρ)
      have e0 : (fun _ : Int => false) = fun j => decide (j ∈ ([] : List Int)) := by funext j; simp
      refine ⟨fun i m H => m = ts.length - i ∧ Pv i H, ⟨ts.length, by simp, G2, ρ1, [], .refl _, r2.grow (Same.fresh_up hL), by rw [upd_same, e0]; rfl, same_none r2.sub hL, r2.not_mut hL, pl, Nat.le_refl _, Nat.zero_le _, Post.weak s2 p1⟩, ?_⟩
      rintro i m H ⟨rfl, G3, ρ3, acc, s3, r3, l1, l2, l3, l4, l5, l6, p3⟩
      by_cases hlt : i < ts.length
      · refine .inr ⟨w.goes i H hlt (hG φ G3 σ ρ3 H (PinUp.refl _) s3 r3), Pv (i + 1), fun H' p' => ⟨ts.length - (i + 1), by omega, rfl, p'⟩, fun x H' y => ?_⟩
        have y := w.yields i H x H' hlt (hG φ G3 σ ρ3 H (PinUp.refl _) s3 r3) y
        obtain ⟨hY1, hY2⟩ := hY i H x H' ts[i] (by simp [hlt]) (s3.trans r3.sub) y
        rw [List.drop_eq_getElem_cons hlt, loopV] at p3
        -- into the block
        have rb : Rel D { φ with pin := upd φ.pin L (SetO X.w L (fun j => decide (j ∈ acc)) (srtU acc).length) } G3 σ ρ3 H := r3.pinUp l1 l2 hp l3
        have rw0 : Rel D { φ with pin := upd φ.pin L (SetO X.w L (fun j => decide (j ∈ acc)) (srtU acc).length) } G3 (wipe σ vs) (wipeR ρ3 vs) H := rb.wiped vs
        obtain ⟨G4, s4, r4, hx⟩ := (hY1 _).to G3 (wipe σ vs) (wipeR ρ3 vs) s3 rw0
        cases e1 : g ts[i] (wipeR ρ3 vs) with
        | none => rw [e1] at p3; exact p3.elim
        | some ρ4 =>
          simp only [e1] at p3
          refine ⟨_, G4, wipeR ρ3 vs, ts[i], r4, hx, ρ4, e1, fun σ2 ag r5 => ⟨wipe_agr ag hix, ?_⟩⟩
          have hw : wipe σ2 vs = wipe σ vs := wipe_agr ag hix
          refine ⟨_, G4, ρ4, r5, ?_⟩
          cases e2 : fe ρ4 with
          | bad => simp only [e2] at p3; exact p3.elim
          | ex c ks us ρ5 => simp only [e2] at p3; exact p3.elim
          | ok ev ρ5 =>
            simp only [e2] at p3
            intro G5 H5 s5 r6 v hv
            cases ev with
            | own l => exact p3.elim
            | pk j => exact p3.elim
            | val t =>
              cases t with
              | int c =>
                cases (show v = .int c from hv)
                have s35 : Same G3 G5 := s4.trans s5
                have r7 := r6.unwiped hw r3 l4 s35
                obtain ⟨r8, k1, k2, k3⟩ := r7.pinDown hp r3.pnOk
                have hlen := insU_len (x := c) (srtU_sorted acc)
                have hmem : ∀ j, decide (j ∈ acc) = decide (j ∈ srtU acc) := fun j => by simp only [mem_srtU]
                refine ⟨c, _, _, rfl, k1, ?_, G5, backR ρ3 vs ρ5, c :: acc, s3.trans s35, r8.other k2 hH hp k3, ?_, k2, k3, ?_, by simp; omega, hlt, Post.weak s35 p3⟩
                · have h1 : ∀ l : List Int, (srtU l).length ≤ l.length := fun l => by
                    induction l with
                    | nil => simp [srtU]
                    | cons a l ih =>
                      rw [srtU, insU_len (srtU_sorted l)]
                      split <;> simp <;> omega
                  have := h1 acc
                  have : scanBound = 4096 := rfl
                  omega
                · rw [upd_same]
                  congr 1
                  have ea : (fun j => decide (j ∈ acc) || decide (j = c)) = fun j => decide (j ∈ c :: acc) := by
                    funext j; simp [Bool.or_comm, List.mem_cons, Bool.decide_or]
                  have el : (if decide (c ∈ acc) = true then (srtU acc).length else (srtU acc).length + 1) = (srtU (c :: acc)).length := by
                    rw [srtU, hlen]
                    simp only [mem_srtU, decide_eq_true_eq]
                  simp only [ea, el]
                · exact plain_back l4
              | _ => exact p3.elim
      · have e : i = ts.length := by omega
        subst e
        rw [List.drop_length] at p3
        exact .inl ⟨w.stops H (hG φ G3 σ ρ3 H (PinUp.refl _) s3 r3), p3 G3 H (.refl _) r3 L l1 l2 hH hp l3⟩
    · exact p1.elim
end
end VI

set_option Elab.async false
set_option linter.all false
set_option maxRecDepth 100000
set_option maxHeartbeats 4000000
namespace VI
open PySem L2 PySem.Spec PyProof.Rows
section
variable {X : Cx} {D : Wd} {φ : Fr} {W : WX} {e a b c : Expr} {es : List Expr} {fa fb fc : EF} {ga : AF} {pos p apos : Pos}
/-! ### sorted({..}) -/
def eSortedV (f : Ro → R (List Int)) : EF := fun ρ => (f ρ).bind fun acc ρ1 => if (srtU acc).length < 64 then .ok (.own ((srtU acc).map T.int)) ρ1 else .bad
theorem boot_sorted' : bootBuiltins "sorted" = some (.builtin "sorted") := by decide +kernel
theorem e_sortedV {f : Ro → R (List Int)} (hc : X.calm = true) (hg : Gl X "sorted") (hm : X.mg "sorted" = none) (he : PE X e (rdV D φ W X.w f)) (h1 : starEach (e :: []) X.env = (false, eval e X.env) :: starEach [] X.env := by rfl) (hpl : (backTo pos (starEach [] X.env)).any (·.1) = false := by rfl) :
    EX X D φ W (.Call (.Name "sorted" p) [e] [] pos) (eSortedV f) :=
  ⟨pe_mono (pe_callB (cr_sortedSet hc) hg hm boot_sorted' (pa_cons he pa_nil h1) (by decide) (by decide) h1 hpl) fun σ H Q ⟨G, ρ, r, pp⟩ => by
    refine ⟨G, ρ, r, Post.imp (Post.bind pp) fun acc ρ1 G1 H1 s1 r1 p1 L hL hG hH hp nm => ?_⟩
    split at p1
    · rename_i h64
      refine ⟨L, _, _, rfl, hL, h64, fun ns q hs hmm hl hq => ?_⟩
      have e : ns = srtU acc := asc_unique hs (srtU_sorted acc) fun k => by rw [hmm, mem_srtU, decide_eq_true_eq]
      subst e
      have s2 : Same H1 (upd H1 q (.lst ((srtU acc).map V.int))) := Same.fresh_up hq
      exact p1 G1 _ (.refl _) (r1.grow s2) _ ⟨q, _, rfl, upd_same, same_none r1.sub hq, r1.gone hq, r1.gonePin hq, reps_ints.mpr rfl, r1.not_mut hq⟩
    · exact p1.elim⟩

/-! ### a op b op c -/
def blOf : Out → Option Bool
  | .v (.bl b) => some b
  | _ => none
def eChain (g g' : T → T → Out) (fa fb fc : EF) : EF := fun ρ => (fa ρ).bind fun x ρ1 => (fb ρ1).bind fun y ρ2 => match deref ρ2 x, deref ρ2 y with
  | some t, some u => (match blOf (g t u) with
    | some true => (fc ρ2).bind fun z ρ3 => (match deref ρ3 y, deref ρ3 z with
      | some u, some w => out (g' u w) ρ3
      | _, _ => .bad)
    | some false => .ok (.val (.bl false)) ρ2
    | none => .bad)
  | _, _ => .bad
theorem chain_rd {r r' : R2} {g g' : T → T → Out} (os : Op2 D r g) (os' : Op2 D r' g') {σ : L2.St} {H : Hp} {Q : VK} (h : rdE D φ W (eChain g g' fa fb fc) σ H Q) : tChain r r' (rdE D φ W fa) (rdE D φ W fb) (rdE D φ W fc) σ H Q := by
  obtain ⟨G, ρ, rl, p⟩ := h
  refine ⟨G, ρ, rl, Post.imp (Post.bind p) fun x ρ1 G1 H1 s1 r1 p1 v hv => ?_⟩
  obtain ⟨G2, s2, r2, hh⟩ := settle r1 hv
  refine ⟨G2, ρ1, r2, Post.imp (Post.bind (Post.weak s2 p1)) fun y ρ2 G3 H3 s3 r3 p3 w hw => ?_⟩
  obtain ⟨G4, s4, r4, hw'⟩ := settle r3 hw
  have hh' := hh.mono (s3.trans s4)
  have p4 := Post.weak s4 p3
  cases e1 : deref ρ2 x with
  | none => simp only [e1] at p4; exact p4.elim
  | some t =>
    cases e2 : deref ρ2 y with
    | none => simp only [e1, e2] at p4; exact p4.elim
    | some u =>
      simp only [e1, e2] at p4
      cases e3 : g t u with
      | l xs => simp only [e3, blOf] at p4; exact p4.elim
      | u xs => simp only [e3, blOf] at p4; exact p4.elim
      | no => simp only [e3, blOf] at p4; exact p4.elim
      | v q =>
        cases q with
        | bl k =>
          refine os G4 H3 v w t u _ r4.sub (hh'.use r4 e1) (hw'.use r4 e2) ?_
          rw [e3]
          intro z H5 s5 hz
          cases (show z = .bl k from hz)
          refine ⟨k, rfl, ?_⟩
          have r5 := r4.grow s5
          cases k with
          | false => simp only [e3, blOf] at p4; exact p4 G4 H5 (.refl _) r5 _ rfl
          | true =>
            simp only [e3, blOf] at p4
            refine ⟨G4, ρ2, r5, Post.imp (Post.bind p4) fun zz ρ3 G6 H6 s6 r6 p6 zv hzv => ?_⟩
            obtain ⟨G7, s7, r7, hz'⟩ := settle r6 hzv
            cases e4 : deref ρ3 y with
            | none => simp only [e4] at p6; exact p6.elim
            | some u' =>
              cases e5 : deref ρ3 zz with
              | none => simp only [e4, e5] at p6; exact p6.elim
              | some w' =>
                simp only [e4, e5] at p6
                exact os' G7 H6 w zv u' w' Q r7.sub ((hw'.mono (s6.trans s7)).use r7 e4) (hz'.use r7 e5) (fin_out r7 s7 p6)
        | _ => simp only [e3, blOf] at p4; exact p4.elim
theorem e_chain {op op' : CmpOp} {r r' : R2} {g g' : T → T → Out} (ho : OpR X (compareOp op) r) (ho' : OpR X (compareOp op') r') (os : Op2 D r g) (os' : Op2 D r' g') (ha : EX X D φ W a fa) (hb : EX X D φ W b fb) (hc : EX X D φ W c fc)
    (hm : lastMarks [op, op'] [b, c] = false := by with_unfolding_all rfl) : EX X D φ W (.Compare a [op, op'] [b, c] pos) (eChain g g' fa fb fc) :=
  ⟨pe_mono (pe_chain ho ho' ha.pe hb.pe hc.pe hm) fun _ _ _ h => chain_rd os os' h⟩
theorem t_chain {op op' : CmpOp} {r r' : R2} {g g' : T → T → Out} (ho : OpR X (compareOp op) r) (ho' : OpR X (compareOp op') r') (os : Op2 D r g) (os' : Op2 D r' g') (ha : EX X D φ W a fa) (hb : EX X D φ W b fb) (hc : EX X D φ W c fc)
    (hm : lastMarks [op, op'] [b, c] = false := by with_unfolding_all rfl) : TX X D φ W (.Compare a [op, op'] [b, c] pos) (tOf (eChain g g' fa fb fc)) :=
  ⟨pt_mono (pt_chain ho ho' ha.pe hb.pe hc.pe hm) fun _ _ _ h => chain_rd os os' (rd_of h)⟩

/-! ### x[::-1] -/
def oRev : T → Out
  | .lst ts => .l ts.reverse
  | .sq ts => .l ts.reverse
  | _ => .no
theorem e_rev {k : Nat} {p1 p2 p3 : Pos} (ha : EX X D φ W a fa) (hK : X.K = D.K := by rfl) : EX X D φ W (.Subscript a (.Slice none none (some (.UnaryOp .USub (.Constant (.int 1) k p1) p2)) p3) pos) (e1 oRev fa) :=
  ⟨pe_mono (pe_revL ha.pe) fun σ H Q h => one (r := fun x H1 Q => ∃ a xs, x = V.ref a ∧ SqL X.K H1 a xs ∧ ∀ p, H1 p = none → Q (.ref p) (upd H1 p (.lst xs.reverse))) (fun G H x t Q s ht ho => by
    cases t with
    | lst ts =>
      obtain ⟨l, vs, rfl, h1, h2⟩ := ht
      exact ⟨l, vs, rfl, .of h1, fun q hq => ho q _ _ (Same.fresh_up hq) hq upd_same h2.reverse⟩
    | sq ts =>
      obtain ⟨l, vs, rfl, h1, h2⟩ := ht
      exact ⟨l, vs, rfl, by rw [hK]; exact same_l s h1, fun q hq => ho q _ _ (Same.fresh_up hq) hq upd_same h2.reverse⟩
    | _ => exact ho.elim) h⟩

/-! ### methods that change a list -/
def mAppend : List T → List T → Option (List T × T) := fun xs ts => match ts with
  | [t] => if xs.length ≤ 100000 then some (xs ++ [t], .non) else none
  | _ => none
theorem opM_append : OpM D rAppend mAppend := fun G H l vs ys xs ts xs' t Q hl s hx ht e k => by
  unfold mAppend at e
  split at e
  · rename_i u
    split at e
    · rename_i hz
      cases e
      obtain ⟨w, r, rfl, h1, h2⟩ := ht
      cases h2
      exact ⟨l, vs, w, rfl, rfl, hl, by rw [hx.len, sizeLine_eq]; omega, k _ _ (hx.snoc h1) rfl⟩
    · cases e
  · cases e
def mClear : List T → List T → Option (List T × T) := fun xs ts => match ts with
  | [] => some ([], .non)
  | _ => none
theorem opM_clear : OpM D rClear mClear := fun G H l vs ys xs ts xs' t Q hl s hx ht e k => by
  unfold mClear at e
  split at e
  · cases e; cases ht; exact ⟨l, vs, rfl, rfl, hl, k _ _ .nil rfl⟩
  · cases e
def mReverse : List T → List T → Option (List T × T) := fun xs ts => match ts with
  | [] => some (xs.reverse, .non)
  | _ => none
theorem opM_reverse : OpM D rReverse mReverse := fun G H l vs ys xs ts xs' t Q hl s hx ht e k => by
  unfold mReverse at e
  split at e
  · cases e; cases ht; exact ⟨l, vs, rfl, rfl, hl, k _ _ hx.reverse rfl⟩
  · cases e
def mPop : List T → List T → Option (List T × T) := fun xs ts => match ts with
  | [] => (match xs[xs.length - 1]? with | some t => some (xs.dropLast, t) | none => none)
  | _ => none
theorem Reps.dropLast {G : Hp} {ts : List T} {vs : List V} (h : Reps D G ts vs) : Reps D G ts.dropLast vs.dropLast := by
  rw [List.dropLast_eq_take, List.dropLast_eq_take, h.len]
  exact h.take _
theorem opM_pop : OpM D rPop mPop := fun G H l vs ys xs ts xs' t Q hl s hx ht e k => by
  unfold mPop at e
  split at e
  · split at e
    · rename_i u hu
      cases e; cases ht
      obtain ⟨w, h1, h2⟩ := hx.get hu
      exact ⟨l, vs, w, rfl, rfl, hl, by rw [hx.len]; exact h1, k _ _ hx.dropLast h2⟩
    · cases e
  · cases e
theorem e_append {i : Nat} {o : Expr} (ho : PE X o (tVar i)) (ha : AX X D φ W (e :: es) ga)
    (hbase : attributeBase o "append" X.env (eval o X.env) = eval o X.env := by rfl)
    (hfew : ((backTo pos (starEach (e :: es) X.env)).all (fun x => !x.1) && (backToKw pos (keywordEach [] X.env)).all (fun x => x.1.isSome) && decide ((e :: es).length + ([] : List Keyword).length + (if ([] : List Keyword).isEmpty then 0 else 1) < 30)) = true := by rfl)
    (hline : (apos.endLine == pos.line) = true := by rfl) (hs : starEach (e :: es) X.env = (false, eval e X.env) :: starEach es X.env := by rfl) (hplain : (backTo pos (starEach es X.env)).any (·.1) = false := by rfl) (hK : X.K = D.K := by rfl) :
    EX X D φ W (.Call (.Attribute o "append" apos) (e :: es) [] pos) (eBmM i mAppend ga) :=
  e_bmM (e := e) (id := "list.append") (by rw [← hK]; exact pe_bm PySem.F.plainAttrs_list PySem.F.slot_list_append PySem.F.type_list_append mt_append ho ha.pa hbase hfew hline hs hplain) opM_append
theorem e_clear {i : Nat} {o : Expr} (ho : PE X o (tVar i)) (hbase : attributeBase o "clear" X.env (eval o X.env) = eval o X.env := by rfl) (hline : (apos.endLine == pos.line) = true := by rfl) (hK : X.K = D.K := by rfl) :
    EX X D φ W (.Call (.Attribute o "clear" apos) [] [] pos) (eBmM i mClear aNil) :=
  e_bmM0 (by rw [← hK]; exact pe_bm0 PySem.F.plainAttrs_list PySem.F.slot_list_clear PySem.F.type_list_clear mt_clear ho hbase hline) opM_clear
theorem e_reverse {i : Nat} {o : Expr} (ho : PE X o (tVar i)) (hbase : attributeBase o "reverse" X.env (eval o X.env) = eval o X.env := by rfl) (hline : (apos.endLine == pos.line) = true := by rfl) (hK : X.K = D.K := by rfl) :
    EX X D φ W (.Call (.Attribute o "reverse" apos) [] [] pos) (eBmM i mReverse aNil) :=
  e_bmM0 (by rw [← hK]; exact pe_bm0 PySem.F.plainAttrs_list PySem.F.slot_list_reverse PySem.F.type_list_reverse mt_reverse ho hbase hline) opM_reverse
theorem e_pop {i : Nat} {o : Expr} (ho : PE X o (tVar i)) (hbase : attributeBase o "pop" X.env (eval o X.env) = eval o X.env := by rfl) (hline : (apos.endLine == pos.line) = true := by rfl) (hK : X.K = D.K := by rfl) :
    EX X D φ W (.Call (.Attribute o "pop" apos) [] [] pos) (eBmM i mPop aNil) :=
  e_bmM0 (by rw [← hK]; exact pe_bm0 PySem.F.plainAttrs_list PySem.F.slot_list_pop PySem.F.type_list_pop mt_pop ho hbase hline) opM_pop
end
end VI

set_option Elab.async false
set_option linter.all false
set_option maxRecDepth 100000
set_option maxHeartbeats 4000000
namespace VI
open PySem L2 PySem.Spec PyProof.Rows
/-! ### the world of a row: its classes, its names -/
def nmL (L : List Str) (i : Nat) : Str := match L[i]? with
  | some x => x
  | none => ⟨Array.replicate (1000 + i) 97⟩
theorem nmL_inj {L : List Str} (nd : L.Nodup) (sm : L.all (fun x => decide (x.cps.size < 1000)) = true) : ∀ i j, nmL L i = nmL L j → i = j := fun i j h => by
  unfold nmL at h
  have small : ∀ {k : Nat} {x : Str}, L[k]? = some x → x.cps.size < 1000 := fun e => of_decide_eq_true (List.all_eq_true.mp sm _ (List.mem_of_getElem? e))
  cases e1 : L[i]? with
  | none =>
    cases e2 : L[j]? with
    | none =>
      rw [e1, e2] at h
      have := congrArg (fun s : Str => s.cps.size) h
      simp at this; omega
    | some y =>
      rw [e1, e2] at h
      have := congrArg (fun s : Str => s.cps.size) h
      have z := small e2
      simp at this; omega
  | some x =>
    cases e2 : L[j]? with
    | none =>
      rw [e1, e2] at h
      have := congrArg (fun s : Str => s.cps.size) h
      have z := small e1
      simp at this; omega
    | some y =>
      rw [e1, e2] at h
      have hxy : x = y := h
      subst hxy
      have hi := (List.getElem?_eq_some_iff.mp e1).1
      have hj := (List.getElem?_eq_some_iff.mp e2).1
      exact (List.getElem?_inj hi nd).mp (e1.trans e2.symm)
abbrev mkD (K : PySem.W.Frag) (cs : List Addr) (L : List Str) (nd : L.Nodup) (sm : L.all (fun x => decide (x.cps.size < 1000)) = true) : Wd := ⟨K, fun n => cs.getD n 0, nmL L, nmL_inj nd sm⟩

section
variable {X : Cx} {D : Wd} {φ : Fr} {W : WX} {a : Expr} {fa : EF} {p pos : Pos}
theorem e_globI {x : Str} {i : Int} {t : Tok} (hg : Gl X x) (hm : X.mg x = some (.int i t)) (hd : (x == ("__debug__" : Str)) = false := by decide) : EX X D φ W (.Name x p) (eC (.int i)) := e_c (pe_glob (v := .int i) hg hm ⟨t, rfl⟩ hd) fun _ => rfl
/-! kinds -/
def kIs (b : Kind → Bool) (cs : List (Nat × Bool)) : Kind → Option Bool
  | .ins c => cs.lookup c
  | k => some (b k)
def kBool : Kind → Bool | .bl => true | _ => false
def kInt : Kind → Bool | .bl => true | .int => true | _ => false
def kStr : Kind → Bool | .str => true | _ => false
def kTup : Kind → Bool | .tup => true | _ => false
def kLst : Kind → Bool | .lst => true | _ => false
def kNo : Kind → Bool | _ => false
/-- what is known of the classes -/
def InTab (D : Wd) (cv : Value) : List (Nat × Bool) → Prop
  | [] => True
  | (c, b) :: r => (InsT D.K (D.ca c) ∧ PySem.W.kitOne D.K (.ref (D.ca c)) cv = some b) ∧ InTab D cv r
theorem InTab.of {cv : Value} : ∀ {cs : List (Nat × Bool)} {c : Nat} {b : Bool}, InTab D cv cs → cs.lookup c = some b → InsT D.K (D.ca c) ∧ PySem.W.kitOne D.K (.ref (D.ca c)) cv = some b
  | [], _, _, _, h => by cases h
  | (c', b') :: r, c, b, ⟨h1, h2⟩, h => by
    rw [List.lookup] at h
    split at h
    · rename_i e; cases h; rw [show c = c' from by simpa using e]; exact h1
    · exact h2.of h
def kitB (u : Value) (b : Kind → Bool) (K : PySem.W.Frag) : Prop :=
  PySem.W.kitOne K (.type "NoneType") u = some (b .non) ∧ PySem.W.kitOne K (.type "bool") u = some (b .bl) ∧ PySem.W.kitOne K (.type "int") u = some (b .int) ∧ PySem.W.kitOne K (.type "str") u = some (b .str) ∧ PySem.W.kitOne K (.type "tuple") u = some (b .tup) ∧ PySem.W.kitOne K (.type "list") u = some (b .lst)
theorem kitOk_of {cv : V} {u : Value} {b : Kind → Bool} {cs : List (Nat × Bool)} (hv : ClsV cv u) (hb : kitB u b D.K) (hc : InTab D u cs) : KitOk D cv (kIs b cs) := ⟨u, hv, fun k c e => by
  obtain ⟨h1, h2, h3, h4, h5, h6⟩ := hb
  cases k with
  | ins j => exact (hc.of e).2
  | non => cases e; exact h1
  | bl => cases e; exact h2
  | int => cases e; exact h3
  | str => cases e; exact h4
  | tup => cases e; exact h5
  | lst => cases e; exact h6, fun c b e => (hc.of e).1⟩
theorem kit_bool {K : PySem.W.Frag} : kitB (.type "bool") kBool K := by refine ⟨?_, ?_, ?_, ?_, ?_, ?_⟩ <;> first | rfl | decide +kernel | kernel_rfl
theorem kit_int {K : PySem.W.Frag} : kitB (.type "int") kInt K := by refine ⟨?_, ?_, ?_, ?_, ?_, ?_⟩ <;> first | rfl | decide +kernel | kernel_rfl
theorem kit_str {K : PySem.W.Frag} : kitB (.type "str") kStr K := by refine ⟨?_, ?_, ?_, ?_, ?_, ?_⟩ <;> first | rfl | decide +kernel | kernel_rfl
theorem kit_tup {K : PySem.W.Frag} : kitB (.type "tuple") kTup K := by refine ⟨?_, ?_, ?_, ?_, ?_, ?_⟩ <;> first | rfl | decide +kernel | kernel_rfl
theorem kit_lst {K : PySem.W.Frag} : kitB (.type "list") kLst K := by refine ⟨?_, ?_, ?_, ?_, ?_, ?_⟩ <;> first | rfl | decide +kernel | kernel_rfl
/-- isinstance(x, a built-in type) -/
theorem e_isT {x : Str} {T' : String} {p2 : Pos} {b : Kind → Bool} {cs : List (Nat × Bool)} (hb : kitB (.type T') b D.K) (hc : InTab D (.type T') cs) (hg : Gl X "isinstance") (hm : X.mg "isinstance" = none) (hgx : Gl X x) (hmx : X.mg x = none) (hv : bootBuiltins x = some (.type T')) (ha : EX X D φ W a fa)
    (hn : x ≠ "__name__" := by decide) (hd : (x == ("__debug__" : Str)) = false := by decide)
    (h1 : starEach (a :: [.Name x p2]) X.env = (false, eval a X.env) :: starEach [.Name x p2] X.env := by rfl)
    (h2 : starEach ((.Name x p2) :: []) X.env = (false, eval (.Name x p2) X.env) :: starEach [] X.env := by rfl) (hpl : (backTo pos (starEach [.Name x p2] X.env)).any (·.1) = false := by rfl) (hK : X.K = D.K := by rfl) : EX X D φ W (.Call (.Name "isinstance" p) [a, .Name x p2] [] pos) (eIsi (kIs b cs) fa) :=
  e_isi (kitOk_of (.ty T') hb hc) hg hm ha (pe_bltn hgx hmx hv rfl hn hd) h1 h2 hpl hK
/-- isinstance(x, a class) -/
theorem e_isC {x : Str} {C : Addr} {p2 : Pos} {b : Kind → Bool} {cs : List (Nat × Bool)} (hb : kitB (.ref C) b D.K) (hc : InTab D (.ref C) cs) (hg : Gl X "isinstance") (hm : X.mg "isinstance" = none) (hgx : Gl X x) (hmx : X.mg x = some (.ref C)) (ha : EX X D φ W a fa)
    (hd : (x == ("__debug__" : Str)) = false := by decide)
    (h1 : starEach (a :: [.Name x p2]) X.env = (false, eval a X.env) :: starEach [.Name x p2] X.env := by rfl)
    (h2 : starEach ((.Name x p2) :: []) X.env = (false, eval (.Name x p2) X.env) :: starEach [] X.env := by rfl) (hpl : (backTo pos (starEach [.Name x p2] X.env)).any (·.1) = false := by rfl) (hK : X.K = D.K := by rfl) : EX X D φ W (.Call (.Name "isinstance" p) [a, .Name x p2] [] pos) (eIsi (kIs b cs) fa) :=
  e_isi (kitOk_of (.own C) hb hc) hg hm ha (pe_glob hgx hmx rfl hd) h1 h2 hpl hK
theorem kit_own {K : PySem.W.Frag} {C : Addr} (h1 : PySem.W.isClsIn K C = true) (h2 : PySem.W.typeIn K (.ref C) = some (.type "type")) : kitB (.ref C) kNo K := by
  have e2 : ((PySem.W.clsIn K C).isSome && PySem.W.typeIn K (.ref C) == some (.type "type")) = true := by
    have h1' : (PySem.W.clsIn K C).isSome = true := h1
    rw [h1', h2] <;> rfl
  have go : ∀ T' : String, PySem.W.subIn K (.type T') (.ref C) = some false → PySem.W.kitOne K (.type T') (.ref C) = some false := fun T' h => by
    show (if (Value.type T' == Value.ref C) = true then some true else if ((PySem.W.clsIn K C).isSome && PySem.W.typeIn K (.ref C) == some (.type "type")) = true then PySem.W.subIn K (.type T') (.ref C) else none) = some false
    rw [if_neg (by simp), if_pos e2]; exact h
  refine ⟨go _ ?_, go _ ?_, go _ ?_, go _ ?_, go _ ?_, go _ ?_⟩ <;> first | rfl | decide +kernel | kernel_rfl
theorem kitOne_self {K : PySem.W.Frag} {C : Addr} : PySem.W.kitOne K (.ref C) (.ref C) = some true := by
  show (if (Value.ref C == Value.ref C) = true then some true else _) = some true
  rw [if_pos (beq_self_eq_true _)]
theorem kit_of {K : PySem.W.Frag} {C C' : Addr} {b : Bool} (h1 : PySem.W.isClsIn K C' = true) (h2 : PySem.W.typeIn K (.ref C') = some (.type "type")) (h3 : PySem.W.subIn K (.ref C) (.ref C') = some b) (hne : b = false → C ≠ C') : PySem.W.kitOne K (.ref C) (.ref C') = some b := by
  have e2 : ((PySem.W.clsIn K C').isSome && PySem.W.typeIn K (.ref C') == some (.type "type")) = true := by
    have h1' : (PySem.W.clsIn K C').isSome = true := h1
    rw [h1', h2] <;> rfl
  show (if (Value.ref C == Value.ref C') = true then some true else if ((PySem.W.clsIn K C').isSome && PySem.W.typeIn K (.ref C') == some (.type "type")) = true then PySem.W.subIn K (.ref C) (.ref C') else none) = some b
  by_cases e : C = C'
  · subst e
    rw [if_pos (beq_self_eq_true _)]
    cases b with
    | true => rfl
    | false => exact absurd rfl (hne rfl)
  · rw [if_neg (by simpa using e), if_pos e2]; exact h3
theorem exm_of {K : PySem.W.Frag} {C C' : Addr} {b : Bool} (h0 : PySem.W.subIn K (.ref C') (.type "BaseException") = some true) (h1 : PySem.W.isClsIn K C' = true) (h2 : PySem.W.typeIn K (.ref C') = some (.type "type")) (h3 : PySem.W.subIn K (.ref C) (.ref C') = some b) : PySem.W.exmOne K (.ref C) (.ref C') = some b := by
  have e2 : ((PySem.W.clsIn K C').isSome && PySem.W.typeIn K (.ref C') == some (.type "type")) = true := by
    have h1' : (PySem.W.clsIn K C').isSome = true := h1
    rw [h1', h2] <;> rfl
  show (if (PySem.W.subIn K (.ref C') (.type "BaseException") == some true) = true then (if ((PySem.W.clsIn K C').isSome && PySem.W.typeIn K (.ref C') == some (.type "type")) = true then PySem.W.subIn K (.ref C) (.ref C') else none) else none) = some b
  rw [if_pos (by rw [h0] <;> rfl), if_pos e2]; exact h3
theorem kit_ofT {K : PySem.W.Frag} {C : Addr} {T' : String} {b : Bool} (h1 : PySem.W.kitMeta T' = true) (h : PySem.W.subIn K (.ref C) (.type T') = some b) : PySem.W.kitOne K (.ref C) (.type T') = some b := by
  show (if (Value.ref C == Value.type T') = true then some true else if PySem.W.kitMeta T' = true then PySem.W.subIn K (.ref C) (.type T') else none) = some b
  rw [if_neg (by simp), if_pos h1]; exact h
theorem exm_ofT {K : PySem.W.Frag} {C : Addr} {T' : String} {b : Bool} (h0 : PySem.W.subIn K (.type T') (.type "BaseException") = some true) (h1 : PySem.W.kitMeta T' = true) (h : PySem.W.subIn K (.ref C) (.type T') = some b) : PySem.W.exmOne K (.ref C) (.type T') = some b := by
  show (if (PySem.W.subIn K (.type T') (.type "BaseException") == some true) = true then (if PySem.W.kitMeta T' = true then PySem.W.subIn K (.ref C) (.type T') else none) else none) = some b
  rw [if_pos (by rw [h0] <;> rfl), if_pos h1]; exact h
end
end VI

set_option Elab.async false
set_option linter.all false
set_option maxRecDepth 100000
set_option maxHeartbeats 4000000
namespace VI
open PySem L2 PySem.Spec PyProof.Rows

/-- a def that is never asked -/
theorem fn_bad {P : Program} {w : World} {K : PySem.W.Frag} {mg : Str → Option Value} {base : Heap} {D : Wd} {x qual : Str} {st : Stmt} {f : Addr} {fd : FuncData} {N ps : List Str} {k : Nat} (F : Fun K x qual st f fd) (S : FnScope N ps (defScope st)) :
    FnOk P w K mg base (L2.CX P w) k f fd ps (spM D ps.length fun _ => .bad) :=
  ⟨fun vs H Q E h => by obtain ⟨_, _, h, _⟩ := h; exact h, fun A outer s H args us vs Q E _ _ _ _ h => by obtain ⟨_, _, _, _, _, h⟩ := h; exact h.elim⟩

/-! ### one more slot, for a list of our own -/
section
variable {D : Wd} {φ : Fr}
theorem Rel.pushOwn {G : Hp} {σ : L2.St} {ρ : Ro} {H : Hp} {a : Addr} {vs : List V} {xs : List T} (r : Rel D φ G σ ρ H) (h1 : H a = some (.lst vs)) (h2 : G a = none) (h3 : φ.H a = none) (h4 : φ.pin a = none) (h5 : Reps D G xs vs) (nm : ∀ i, ¬ MutAt σ ρ i a) :
    Rel D φ G (σ ++ [some (.ref a)]) (ρ ++ [.own xs]) H := by
  have old : ∀ {i : Nat} {s : Sl}, (ρ ++ [Sl.own xs])[i]? = some s → (i < ρ.length ∧ ρ[i]? = some s ∧ (σ ++ [some (V.ref a)])[i]? = σ[i]?) ∨ (i = ρ.length ∧ s = .own xs) := fun {i s} h => by
    by_cases hi : i < ρ.length
    · rw [List.getElem?_append_left hi] at h
      exact .inl ⟨hi, h, List.getElem?_append_left (by rw [← r.len]; exact hi)⟩
    · rw [List.getElem?_append_right (by omega)] at h
      by_cases e : i = ρ.length
      · subst e; simp at h; exact .inr ⟨rfl, h.symm⟩
      · rw [List.getElem?_eq_none (by simp; omega)] at h; cases h
  have last : (σ ++ [some (V.ref a)])[ρ.length]? = some (some (.ref a)) := by rw [r.len]; simp
  have m : ∀ i b, MutAt (σ ++ [some (V.ref a)]) (ρ ++ [Sl.own xs]) i b → (i < ρ.length ∧ MutAt σ ρ i b) ∨ (i = ρ.length ∧ b = a) := fun i b ⟨⟨s, q1, q2⟩, q3⟩ => by
    rcases old q1 with ⟨hi, h, e⟩ | ⟨rfl, _⟩
    · exact .inl ⟨hi, ⟨s, h, q2⟩, by rw [← e]; exact q3⟩
    · rw [last] at q3; cases q3; exact .inr ⟨rfl, rfl⟩
  refine ⟨by simp [r.len], r.sub, r.base, r.keep, r.alive, r.frame, fun i s h => ?_, fun i j b q1 q2 => ?_, r.pin, fun i b h => ?_, fun i b h => by have := r.ioLt i b h; simp; omega, r.pnOk⟩
  · rcases old h with ⟨hi, h, e⟩ | ⟨rfl, rfl⟩
    · have z := r.slot i s h
      cases s <;> simp only [SlotOk, e] at z ⊢ <;> exact z
    · exact ⟨a, vs, last, h1, h2, h3, h5⟩
  · rcases m i b q1 with ⟨hi, m1⟩ | ⟨rfl, rfl⟩
    · rcases m j b q2 with ⟨hj, m2⟩ | ⟨rfl, rfl⟩
      · exact r.disj i j b m1 m2
      · exact (nm i m1).elim
    · rcases m j b q2 with ⟨hj, m2⟩ | ⟨rfl, _⟩
      · exact (nm j m2).elim
      · rfl
  · rcases m i b h with ⟨hi, m1⟩ | ⟨rfl, rfl⟩
    · exact r.pinM i b m1
    · exact h4
theorem Rel.popOwn {G : Hp} {σ : L2.St} {ρ : Ro} {H : Hp} {n : Nat} {o : Option V} (hn : n = σ.length) (hlt : ∀ i a, φ.io i = some a → i < n) (r : Rel D φ G (σ ++ [o]) ρ H) : Rel D φ G σ (ρ.take n) H ∧ ∀ i b, MutAt σ (ρ.take n) i b → MutAt (σ ++ [o]) ρ i b := by
  have hl : ρ.length = n + 1 := by rw [r.len, hn]; simp
  have old : ∀ {i : Nat} {s : Sl}, (ρ.take n)[i]? = some s → i < n ∧ ρ[i]? = some s ∧ (σ ++ [o])[i]? = σ[i]? := fun {i s} h => by
    have hi : i < n := by
      have := (List.getElem?_eq_some_iff.mp h).1
      rw [List.length_take] at this; omega
    rw [List.getElem?_take_of_lt hi] at h
    exact ⟨hi, h, List.getElem?_append_left (by rw [← hn]; exact hi)⟩
  have m : ∀ i a, MutAt σ (ρ.take n) i a → MutAt (σ ++ [o]) ρ i a := fun i a ⟨⟨s, h1, h2⟩, h3⟩ => by
    obtain ⟨hi, h, e⟩ := old h1
    exact ⟨⟨s, h, h2⟩, by rw [e]; exact h3⟩
  refine ⟨⟨by rw [List.length_take]; omega, r.sub, r.base, r.keep, r.alive, r.frame, fun i s h => ?_, fun i j a h1 h2 => r.disj i j a (m i a h1) (m j a h2), r.pin, fun i a h => r.pinM i a (m i a h), fun i a h => by rw [List.length_take]; have := hlt i a h; omega, r.pnOk⟩, m⟩
  obtain ⟨hi, h, e⟩ := old h
  have z := r.slot i s h
  cases s <;> simp only [SlotOk, e] at z ⊢ <;> exact z
end
/-- f(a new list that f may change, ..) -/
def eCallO (ms : List Md) (m : Ro → R EV) (fa : EF) (ga : AF) : EF := fun ρ => (fa ρ).bind fun x ρ1 => match x with
  | .own xs => (ga ρ1).bind fun ys ρ2 => (match callM (.io :: ms) m (.pk ρ2.length :: ys) (ρ2 ++ [.own xs]) with
    | .ok z ρ3 => retE z (ρ3.take ρ2.length)
    | .ex c ks ts ρ3 => .ex c ks ts (ρ3.take ρ2.length)
    | .bad => .bad)
  | _ => .bad
section
variable {X : Cx} {D : Wd} {φ : Fr} {W : WX} {fa : EF} {ga : AF} {mm : Ro → R EV} {ms : List Md} {k : Nat} {f : Addr} {fd : FuncData} {ps : List Str} {x : Str} {p pos : Pos} {e : Expr} {es : List Expr}
def PAex (D : Wd) (W : WX) (g : AF) : TA := fun σ H Q => ∃ φ : Fr, rdA D φ W g σ H Q
theorem pa_ex {g : AF} (h : ∀ φ, AX X D φ W es g) : PA X es (PAex D W g) := ⟨fun p pins s σ H Q I ⟨φ, q⟩ => (h φ).pa.run p pins s σ H Q I q⟩
theorem e_callO (tk : Takes X W) (F : FnOk X.prog X.w X.K X.mg X.base (L2.CX X.prog X.w) k f fd ps (spM D (ms.length + 1) mm)) (hr : Room k X.A) (hg : Gl X x) (hm : X.mg x = some (.ref f)) (hk : PySem.W.keepIn X.K (.ref f) = true) (hb : Binds X.K fd ps [])
    (ha : EX X D φ W e fa) (hs : ∀ φ, AX X D φ W es ga) (hdb : (x == ("__debug__" : Str)) = false := by decide) (he : starEach (e :: es) X.env = (false, eval e X.env) :: starEach es X.env := by rfl) (hpl : (backTo pos (starEach es X.env)).any (·.1) = false := by rfl) :
    EX X D φ W (.Call (.Name x p) (e :: es) [] pos) (eCallO ms mm fa ga) :=
  ⟨pe_mono (pe_callS F hr hg hm hk hb (fun σ => passAt tk σ) (pa_cons ha.pe (pa_ex hs) he) hdb he hpl) fun σ H Q ⟨G, ρ, r, pp⟩ => by
    refine ⟨G, ρ, r, Post.imp (Post.bind pp) fun x ρ1 G1 H1 s1 r1 p1 v hv => ?_⟩
    cases x with
    | val t => exact p1.elim
    | pk i => exact p1.elim
    | own xs =>
      obtain ⟨a, vs, rfl, h1, h2, h3, h4, h5, h6⟩ := hv
      have rp := r1.pinUp h1 h2 h4 h6
      refine ⟨_, G1, ρ1, rp, ?_⟩
      simp only at p1
      cases e1 : ga ρ1 with
      | bad => rw [e1] at p1; exact p1.elim
      | ex c ks ts ρ2 =>
        rw [e1] at p1
        exact fun cls d G2 H2 s2 r2 q => p1 cls d G2 H2 s2 (r2.pinDown h4 r1.pnOk).1 q
      | ok ys ρ2 =>
        rw [e1] at p1
        simp only [R.bind_ok] at p1
        intro G2 H2 s2 r2 ws hws
        obtain ⟨r3, g1, g2, g3⟩ := r2.pinDown h4 r1.pnOk
        have r4 := r3.pushOwn (xs := xs) g1 g2 h3 h4 (h5.mono s2) g3
        have last : (σ ++ [some (V.ref a)])[ρ2.length]? = some (some (.ref a)) := by rw [r3.len]; simp
        have ap : ∀ {x : EV} {v : V}, Hld D G2 σ v x → Hld D G2 (σ ++ [some (V.ref a)]) v x := fun {x v} h => by
          cases x with
          | val t => exact h
          | own l => exact h
          | pk i =>
            have h' : σ[i]? = some (some v) := h
            show (σ ++ [some (V.ref a)])[i]? = some (some v)
            rw [List.getElem?_append_left (List.getElem?_eq_some_iff.mp h').1]; exact h'
        have hws' : Hlds D G2 (σ ++ [some (V.ref a)]) ys ws := by
          clear p1 e1
          induction hws with
          | nil => exact .nil
          | cons b _ ih => exact .cons (ap b) ih
        have p2 := Post.weak s2 p1
        refine call_sp (E := WE W σ) (ms := .io :: ms) (W := fun cls d _ H => W cls d σ H) (xs := .pk ρ2.length :: ys) (G0 := G2) r4 (.cons last hws') (fun _ _ _ h => h) (.refl _) ?_
        cases e2 : callM (.io :: ms) mm (.pk ρ2.length :: ys) (ρ2 ++ [.own xs]) with
        | bad => simp only [e2] at p2; exact p2.elim
        | ex c ks ts ρ3 => simp only [e2] at p2; exact fun cls d G' H' s' r' q => p2 cls d G' H' s' (Rel.popOwn r3.len r3.ioLt r').1 q
        | ok z ρ3 =>
          simp only [e2] at p2
          intro G' H' s' r' v hv
          obtain ⟨r5, mu⟩ := Rel.popOwn r3.len r3.ioLt r'
          cases z with
          | val t => exact p2 G' H' s' r5 v hv
          | own l =>
            obtain ⟨b, us, g1, g2, g3, g4, g5, g6, g7⟩ := hv
            exact p2 G' H' s' r5 v ⟨b, us, g1, g2, g3, g4, g5, g6, fun i mi => g7 i (mu i b mi)⟩
          | pk i => exact p2.elim⟩
end
/-! ### short names for the generator -/
def isNo : T → T → Out := fun t u => match u with | .non => opIsN false t | _ => .no
def notNo : T → T → Out := fun t u => match u with | .non => opIsN true t | _ => .no
def isCo (b : Bool) : T → T → Out := fun t u => match u with | .bl c => if c = b then .v (.bl (isB b t)) else .no | _ => .no
end VI

set_option Elab.async false
set_option linter.all false
set_option maxRecDepth 100000
set_option maxHeartbeats 4000000
namespace VI
open PySem L2 PySem.Spec PyProof.Rows
/-! ### the end -/
/-- the law gives True for each script of at most n ints -/
def LawT (m : Ro → R EV) (n : Nat) : Prop := ∀ ns : List Int, ns.length ≤ n → ∃ ρ, m [.val (.sq (ns.map T.int))] = .ok (.val (.bl true)) ρ
def spScr (K : PySem.W.Frag) (n : Nat) : Sp := fun vs H Q _ => ∃ (a : Addr) (ns : List Int), vs = [.ref a] ∧ SqL K H a (ns.map V.int) ∧ ns.length ≤ n ∧ ∀ H', Q (.bl true) H'
theorem sp_scr {D : Wd} {m : Ro → R EV} {n : Nat} (hm : LawT m n) (vs : List V) (H : Hp) (Q : VK) (E : XK) (h : spScr D.K n vs H Q E) : spM D 1 m vs H Q E := by
  obtain ⟨a, ns, rfl, hs, hl, k⟩ := h
  have nomut : ∀ i b, ¬ MutAt [some (V.ref a)] [Sl.val (.sq (ns.map T.int))] i b := fun i b ⟨⟨s, h1, h2⟩, _⟩ => by
    cases i with
    | zero => simp at h1; subst h1; cases h2
    | succ i => simp at h1
  refine ⟨⟨H, H, fun _ => none, fun _ => none, fun _ => none, fun _ => none⟩, [.val (.sq (ns.map T.int))], rfl, rfl, ⟨rfl, .refl _, .refl _, fun _ _ h => h, fun _ h => h, fun _ _ h _ => h, fun i s h => ?_, fun i j b m _ => (nomut i b m).elim, fun _ _ h => (nomatch h), fun i b m => (nomut i b m).elim, fun _ _ h => (nomatch h), fun _ _ h => (nomatch h)⟩, ?_⟩
  · cases i with
    | zero => simp at h; subst h; exact ⟨_, rfl, a, _, rfl, hs, reps_ints.mpr rfl⟩
    | succ i => simp at h
  · obtain ⟨ρ, e⟩ := hm ns hl
    rw [e]
    intro v G H' _ r
    cases (show v = .bl true from r)
    exact k H'
theorem walk_vi {l : PySem.W.OpenLaw} {n k : Nat} {q : Program} {loose : List Str} {XP : (Str → Option Value) → Heap → Prop} {YP : World → Heap → Prop} {d : DefRec} {K : Params → PySem.W.Frag}
    (hn : l.most = some n) (hn2 : n ≤ sizeLine) (hdf : d.params.defaults = []) (hr : Room k callerA) (hY : ∀ (w : World) (h : Heap), YP w h → (K w.params).In h)
    (F : ∀ (w : World) (mg : Str → Option Value) (fa : Addr) (h : Heap), (K w.params).In h → h.Ns mainGlobals mg → mg d.name = some (.ref fa) →
      ∃ fd : FuncData, (∀ (s : Shared) (u : Value), BindsTo s fd ⟨[u], []⟩ [("script", u)]) ∧
        ∀ base : Heap, FnOk l.prog w (K w.params) mg base (L2.CX l.prog w) k fa fd ["script"] (spScr (K w.params) n)) :
    PySem.W.WalkO q loose XP YP l.row.toRowW d [] (fun f vs => PySem.call f vs) :=
  L2.walk_of (n := n) (k := k) (x := "script") (CX := fun w => L2.CX l.prog w) (sp := fun w => spScr (K w.params) n) hn hn2 hdf hr hY (fun w mg fa h a b c => by
    obtain ⟨fd, h1, h2⟩ := F w mg fa h a b c
    exact ⟨fd, h1, fun base _ _ => h2 base⟩) (fun _ _ a ns hl _ hS => ⟨a, ns, rfl, hS, hl, fun _ => rfl⟩) fun _ _ _ _ _ z => by
    obtain ⟨_, _, _, _, _, _, _, _, _, _, _, _, hE⟩ := z
    exact hE
/-! ### a list or a tuple, walked -/
def iSqv (K : PySem.W.Frag) (tl : TE) : TI := fun σ H R => tl σ H fun x H1 => ∃ a, x = .ref a ∧ (((∃ xs, SqL K H1 a xs) ∧ R (Itl K a) H1) ∨ ((∃ xs, SqT K H1 a xs) ∧ R (Itt K a) H1))
section
variable {X : Cx} {D : Wd} {φ : Fr} {W : WX} {e tg : Expr} {fa : EF}
theorem pi_sqv {tl : TE} (hl : PE X e tl) : PI X tg e (iSqv X.K tl) := by
  refine ⟨fun pins s σ H R I h => thn (hl.run pins s σ H _ I h) fun v s1 ⟨x, H1, I1, r1, a, e, q⟩ => ?_⟩
  subst e
  cases r1
  have here : ∀ b ∈ [s1.heap.objs.size], FpOk X pins H1 b := fun b hb => by
    rw [List.mem_singleton.mp hb]
    exact I1.fpOk (Nat.le_refl _) (I1.hok.fresh (Nat.le_refl _))
  rcases q with ⟨⟨xs, hq⟩, q⟩ | ⟨⟨xs, hq⟩, q⟩
  · obtain ⟨its, rv, p, hz⟩ := I1.list hq
    exact wpAny_pyIter_list p.isList ⟨_, _, _, _, H1, rfl, I1.kept (t' := s1.toks) fun b o e => Heap.get?_push_of_some _ e, turn_list a _, ⟨_, Heap.get?_push_size _ rfl, rfl, rfl⟩, here, q⟩
  · obtain ⟨its, rv, p, hz⟩ := I1.tuple hq
    exact wpAny_pyIter_tuple (show s1.heap.IsTuple a its.toArray from p) ⟨_, _, _, _, H1, rfl, I1.kept (t' := s1.toks) fun b o e => Heap.get?_push_of_some _ e, turn_tuple a _, ⟨_, Heap.get?_push_size _ rfl, rfl, rfl⟩, here, q⟩
def iAny (fa : EF) : Ro → R (List T) := fun ρ => (fa ρ).bind fun x ρ1 => match still ρ1 x with
  | some (.lst ts) => .ok ts ρ1
  | some (.sq ts) => .ok ts ρ1
  | some (.tup ts) => .ok ts ρ1
  | _ => .bad
theorem still_tup {G : Hp} {σ : L2.St} {ρ : Ro} {H : Hp} (r : Rel D φ G σ ρ H) {v : V} {x : EV} {ts : List T} (h : Hld D G σ v x) (e : still ρ x = some (.tup ts)) : Rep D G (.tup ts) v := by
  cases x with
  | val t => cases e; exact h
  | own xs => cases e
  | pk i =>
    simp only [still] at e
    split at e
    · rename_i t q
      cases e
      obtain ⟨a, o, h1, _, h2, h3⟩ := r.slot i _ q
      exact h3.elim
    · cases e
theorem i_any (he : EX X D φ W e fa) (hK : X.K = D.K := by rfl) : IX X D φ W tg e (iAny fa) := ⟨pi_mono (pi_sqv he.pe) fun σ H S ⟨G, ρ, r, p⟩ => by
  refine ⟨G, ρ, r, Post.imp (Post.bind p) fun x ρ1 G1 H1 s1 r1 p1 v hv => ?_⟩
  obtain ⟨G2, s2, r2, hh⟩ := settle r1 hv
  split at p1
  · rename_i ts e1
    obtain ⟨a, vs, rfl, h1, h2, h3⟩ := still_lst r2 hh e1
    exact ⟨a, rfl, .inl ⟨⟨vs, by rw [hK]; exact .of h1⟩, by rw [hK]; exact p1 G1 H1 (.refl _) r1 _ G2 s2 r2 h3⟩⟩
  · rename_i ts e1
    obtain ⟨a, vs, rfl, h1, h2⟩ := still_sq r2 hh e1
    exact ⟨a, rfl, .inl ⟨⟨vs, by rw [hK]; exact same_l r2.sub h1⟩, by rw [hK]; exact p1 G1 H1 (.refl _) r1 _ G2 s2 r2 (itok_list h1 h2)⟩⟩
  · rename_i ts e1
    obtain ⟨a, vs, rfl, h1, h2⟩ := still_tup r2 hh e1
    exact ⟨a, rfl, .inr ⟨⟨vs, by rw [hK]; exact same_t r2.sub h1⟩, by rw [hK]; exact p1 G1 H1 (.refl _) r1 _ G2 s2 r2 (itok_tup h1 h2)⟩⟩
  · exact p1.elim⟩
end
end VI

set_option Elab.async false
set_option linter.all false
set_option maxRecDepth 100000
set_option maxHeartbeats 4000000
namespace VI
open PySem L2 PySem.Spec PyProof.Rows

/-! ### own operators on own classes -/
/-- what the table of int says of an operator -/
structure IntOp (nm : String) : Prop where
  fills : fillsNumberSlot (.type "int") nm = pure true
  back : ∃ r, typeLookup (.type "int") (dunderR nm) = pure r
/-- how a class stands to an operator's reflected name -/
structure BackOk (K : PySem.W.Frag) (C : Addr) (nm : String) : Prop where
  at_ : PySem.W.findIn K (.ref C) (dunderR nm) = some none ∨ ∃ g, PySem.W.findIn K (.ref C) (dunderR nm) = some (some (.ref g))
def eOwnI (c : Nat) (m : Ro → R EV) (fa fb : EF) : EF := fun ρ => (fa ρ).bind fun x ρ1 => (fb ρ1).bind fun y ρ2 => match deref ρ2 x, deref ρ2 y with
  | some (.ins c1 _ _), some (.int _) => if c1 = c then callM [.v, .v] m [x, y] ρ2 else .bad
  | _, _ => .bad
section
variable {X : Cx} {D : Wd} {φ : Fr} {W : WX} {e a b : Expr} {fa fb : EF} {pos p : Pos} {m : Ro → R EV} {k : Nat} {f : Addr} {fd : FuncData} {ps : List Str} {sp : Sp} {CX : CXT}
theorem subtype_int_ref {M : Model} {A : Around} {E : Value → Shared → Prop} {s : Shared} {C : Addr} {Q : Bool → Shared → Prop} (h : Q false s) : wpAny M A (isSubtype (.type "int") (.ref C)) Q E s := by
  have e : isSubtype (.type "int") (.ref C) = pure false := by
    rw [isSubtype_type]
    kernel_rfl
  rw [e]; exact wpAny_pure h
theorem intOp_lshift : IntOp "lshift" := ⟨fillsNumberSlot_of (id := "int.__lshift__") (r := some (.builtin "int.__rlshift__")) (by rw [typeLookup_type, builtinLookup_eq_fast]; kernel_rfl) (by decide +kernel) (by rw [typeLookup_type, builtinLookup_eq_fast]; kernel_rfl), some (.builtin "int.__rlshift__"), by rw [typeLookup_type, builtinLookup_eq_fast]; kernel_rfl⟩
theorem intOp_rshift : IntOp "rshift" := ⟨fillsNumberSlot_of (id := "int.__rshift__") (r := some (.builtin "int.__rrshift__")) (by rw [typeLookup_type, builtinLookup_eq_fast]; kernel_rfl) (by decide +kernel) (by rw [typeLookup_type, builtinLookup_eq_fast]; kernel_rfl), some (.builtin "int.__rrshift__"), by rw [typeLookup_type, builtinLookup_eq_fast]; kernel_rfl⟩
theorem intOp_mul : IntOp "mul" := ⟨fillsNumberSlot_of (id := "int.__mul__") (r := some (.builtin "int.__rmul__")) (by rw [typeLookup_type, builtinLookup_eq_fast]; kernel_rfl) (by decide +kernel) (by rw [typeLookup_type, builtinLookup_eq_fast]; kernel_rfl), some (.builtin "int.__rmul__"), by rw [typeLookup_type, builtinLookup_eq_fast]; kernel_rfl⟩
theorem intOp_mod : IntOp "mod" := ⟨fillsNumberSlot_of (id := "int.__mod__") (r := some (.builtin "int.__rmod__")) (by rw [typeLookup_type, builtinLookup_eq_fast]; kernel_rfl) (by decide +kernel) (by rw [typeLookup_type, builtinLookup_eq_fast]; kernel_rfl), some (.builtin "int.__rmod__"), by rw [typeLookup_type, builtinLookup_eq_fast]; kernel_rfl⟩

theorem own_bin {op : Operator} {c : Nat} {n : Str} (tk : Takes X W) (O : OwnM D.K (D.ca c) n f) (hs : PySem.W.selfFirst D.K (D.ca c) = true) (hn : PySem.dunder op.info.2 = n) (F : FnOk X.prog X.w X.K X.mg X.base (L2.CX X.prog X.w) k f fd ps (spM D 2 m)) (hr : Room k X.A) (hb : Binds X.K fd ps []) (hK : X.K = D.K)
    {pins : List (Addr × Obj)} {σ : L2.St} {H : Hp} {s : Shared} {Q : VK} {x y : V} {v u : Value} (I : Inv X pins σ H s) (rx : RelV x v) (ry : RelV y u)
    (q : ∃ a b dx dy fs gs, x = .ref a ∧ y = .ref b ∧ H a = some (.ins (D.ca c) dx fs) ∧ H b = some (.ins (D.ca c) dy gs) ∧ spM D 2 m [x, y] H Q (WE W σ)) : wpAny (model X.prog X.w) X.A (binaryOp op v u) (EP X pins σ Q) X.xe s := by
  obtain ⟨a, b, dx, dy, fs, gs, rfl, rfl, ha, hb', hsp⟩ := q
  cases rx
  cases ry
  obtain ⟨od, J⟩ := ins_at I ha
  obtain ⟨od', J'⟩ := ins_at I hb'
  obtain ⟨mm, hF⟩ := I.fr
  refine PySem.W.binop_K (op := op) hF I.ok.mod.kin J J'.type (by rw [hK]; exact hs) (by rw [hK, hn]; exact O.hs) (by rw [hK]; exact O.hf) ?_
  exact thn (run_fnS (us := [.ref a, .ref b]) (vs := [.ref a, .ref b]) F hr hb (passAt tk σ) I (.cons rfl (.cons rfl .nil)) hsp) fun w s' hq => by
    obtain ⟨z, H', I', rz, q⟩ := hq
    exact relV_noNot rz ⟨z, H', I', rz, q⟩
theorem e_ownBin {op : Operator} {c : Nat} {n : Str} (tk : Takes X W) (O : OwnM D.K (D.ca c) n f) (hs : PySem.W.selfFirst D.K (D.ca c) = true) (hn : PySem.dunder op.info.2 = n) (F : FnOk X.prog X.w X.K X.mg X.base (L2.CX X.prog X.w) k f fd ps (spM D 2 m)) (hr : Room k X.A) (hb : Binds X.K fd ps []) (ha : EX X D φ W a fa) (hb' : EX X D φ W b fb) (hK : X.K = D.K := by rfl) :
    EX X D φ W (.BinOp a op b pos) (eOwn2 c m fa fb) :=
  ⟨⟨fun pins s σ H Q I h => wpAny_BinOp (binT ha.pe hb'.pe I (own2_rd h) fun v u s2 x y H2 I2 rx ry q => own_bin tk O hs hn F hr hb hK I2 rx ry q)⟩⟩

theorem ownI_rd {c : Nat} {σ : L2.St} {H : Hp} {Q : VK} (h : rdE D φ W (eOwnI c m fa fb) σ H Q) : rdE D φ W fa σ H fun x H1 => rdE D φ W fb σ H1 fun y H2 =>
    ∃ a dx fs i, x = .ref a ∧ y = .int i ∧ H2 a = some (.ins (D.ca c) dx fs) ∧ spM D 2 m [x, y] H2 Q (WE W σ) := by
  obtain ⟨G, ρ, r, pp⟩ := h
  refine ⟨G, ρ, r, Post.imp (Post.bind pp) fun x ρ1 G1 H1 s1 r1 p1 v hv => ?_⟩
  obtain ⟨G2, s2, r2, hh⟩ := settle r1 hv
  refine ⟨G2, ρ1, r2, Post.imp (Post.bind (Post.weak s2 p1)) fun y ρ2 G3 H3 s3 r3 p3 w hw => ?_⟩
  obtain ⟨G4, s4, r4, hw'⟩ := settle r3 hw
  have hh' := hh.mono (s3.trans s4)
  split at p3
  · rename_i c1 ks1 ts1 i e1 e2
    split at p3
    · rename_i hc
      subst hc
      obtain ⟨a, dx, fs, rfl, g1, _⟩ := hh'.use r4 e1
      have hi : w = .int i := hw'.use r4 e2
      subst hi
      exact ⟨a, dx, fs, i, rfl, rfl, g1, call_sp (ms := [.v, .v]) (E := WE W σ) r4 (.cons hh' (.cons hw' .nil)) (fun _ _ _ h => h) s4 p3⟩
    · exact p3.elim
  · exact p3.elim
theorem slot_own {M : Model} {A : Around} {E : Value → Shared → Prop} {s : Shared} {K : PySem.W.Frag} {C g : Addr} {nm : String} {Q : Bool → Shared → Prop} (Xh : K.In s.heap) (hs : PySem.W.findIn K (.ref C) (PySem.dunder nm) = some (some (.ref g))) (B : BackOk K C nm) (h : Q true s) :
    wpAny M A (numberSlotInPython (.ref C) nm) Q E s := by
  unfold numberSlotInPython
  refine wpAny_bind ((PySem.W.looks_findIn Xh hs).here ?_)
  refine wpAny_bind (m := calledByName (.ref C) (dunder nm) (some (.ref g))) (wpAny_pure ?_)
  rcases B.at_ with hb | ⟨q, hb⟩
  · refine wpAny_bind ((PySem.W.looks_findIn Xh hb).here ?_)
    refine wpAny_bind (m := calledByName (.ref C) (dunderR nm) none) (wpAny_pure ?_)
    exact wpAny_pure h
  · refine wpAny_bind ((PySem.W.looks_findIn Xh hb).here ?_)
    refine wpAny_bind (m := calledByName (.ref C) (dunderR nm) (some (.ref q))) (wpAny_pure ?_)
    exact wpAny_pure h
theorem binop1I_K {prog : Program} {w : World} {A : Around} {E : Value → Shared → Prop} {s : Shared} {K : PySem.W.Frag} {x C g : Addr} {ox : Obj} {od : Option Obj} {nm : String} {i : Int} {t : Tok} {Q : Option Value → Shared → Prop}
    (Xh : K.In s.heap) (I : PySem.W.InstAt s.heap x ox C od) (hc : PySem.W.selfFirst K C = true) (N : IntOp nm) (B : BackOk K C nm)
    (hs : PySem.W.findIn K (.ref C) (PySem.dunder nm) = some (some (.ref g))) (hf : PySem.W.isFn K (.ref g) = true)
    (h : wpAny (model prog w) A (call (.ref g) [.ref x, .int i t]) (PySem.W.CmpBack fun v s' => Q (some v) s') E s) : wpAny (model prog w) A (binaryOp1 nm (.ref x) (.int i t)) Q E s := by
  obtain ⟨cd, hcd, hm⟩ := PySem.W.any_some hc
  obtain ⟨rest, hm⟩ : ∃ rest, cd.mro = .ref C :: rest := by
    cases q : cd.mro with
    | nil => rw [q] at hm; cases hm
    | cons a r => rw [q] at hm; exact ⟨r, by rw [List.head?_cons] at hm; cases (beq_iff_eq.mp hm); rfl⟩
  obtain ⟨r, hrb⟩ := N.back
  unfold binaryOp1
  refine wpAny_bind (I.type.here (wpAny_bind (wpAny_typeOf (typeIs_int s i t) (wpAny_bind ((PySem.W.fills_K Xh hcd hm hs).here ?_)))))
  have hne : (Value.ref C == Value.type "int") = false := rfl
  simp only [hne, Bool.false_eq_true, if_false]
  refine wpAny_bind (wpAny_of_eq N.fills ?_)
  simp only [Bool.and_self, if_true]
  refine wpAny_bind (m := isSubtype _ _) (subtype_int_ref ?_)
  have hpy : numberSlotInPython (.type "int") nm = pure false := rfl
  simp only [Bool.false_eq_true, if_false, Bool.not_false, Bool.and_true, Bool.and_self, if_true, hpy, pure_bind]
  refine wpAny_bind (slot_own Xh hs B ?_)
  simp only [if_true, hrb, pure_bind]
  refine wpAny_bind (m := tryMethod (.ref x) _ _) ?_
  unfold tryMethod
  refine wpAny_bind (PySem.W.special_fn Xh I hs (beq_iff_eq.mp hf) (wpAny_mono h (fun v s' hv => ?_) fun _ _ e => e))
  cases v <;> first | exact hv.elim | exact wpAny_pure (wpAny_pure hv)
theorem binopI_K {prog : Program} {w : World} {A : Around} {E : Value → Shared → Prop} {s : Shared} {K : PySem.W.Frag} {x C g : Addr} {ox : Obj} {od : Option Obj} {op : Operator} {i : Int} {t : Tok} {Q : Value → Shared → Prop}
    (Xh : K.In s.heap) (I : PySem.W.InstAt s.heap x ox C od) (hc : PySem.W.selfFirst K C = true) (N : IntOp op.info.2) (B : BackOk K C op.info.2)
    (hs : PySem.W.findIn K (.ref C) (PySem.dunder op.info.2) = some (some (.ref g))) (hf : PySem.W.isFn K (.ref g) = true)
    (h : wpAny (model prog w) A (call (.ref g) [.ref x, .int i t]) (PySem.W.CmpBack Q) E s) : wpAny (model prog w) A (binaryOp op (.ref x) (.int i t)) Q E s := by
  rcases hi : op.info with ⟨sym, nm⟩
  rw [hi] at N B hs
  simp only [binaryOp, hi]
  refine wpAny_holding (wpAny_bind (binop1I_K Xh I hc N B hs hf (wpAny_mono h (fun v s' hv => ?_) fun _ _ e => e)))
  cases v <;> first | exact hv.elim | exact wpAny_pure hv
theorem own_binI {op : Operator} {c : Nat} {n : Str} (tk : Takes X W) (O : OwnM D.K (D.ca c) n f) (hs : PySem.W.selfFirst D.K (D.ca c) = true) (N : IntOp op.info.2) (B : BackOk D.K (D.ca c) op.info.2) (hn : PySem.dunder op.info.2 = n) (F : FnOk X.prog X.w X.K X.mg X.base (L2.CX X.prog X.w) k f fd ps (spM D 2 m)) (hr : Room k X.A) (hb : Binds X.K fd ps []) (hK : X.K = D.K)
    {pins : List (Addr × Obj)} {σ : L2.St} {H : Hp} {s : Shared} {Q : VK} {x y : V} {v u : Value} (I : Inv X pins σ H s) (rx : RelV x v) (ry : RelV y u)
    (q : ∃ a dx fs i, x = .ref a ∧ y = .int i ∧ H a = some (.ins (D.ca c) dx fs) ∧ spM D 2 m [x, y] H Q (WE W σ)) : wpAny (model X.prog X.w) X.A (binaryOp op v u) (EP X pins σ Q) X.xe s := by
  obtain ⟨a, dx, fs, i, rfl, rfl, ha, hsp⟩ := q
  cases rx
  obtain ⟨t, rfl⟩ := ry
  obtain ⟨od, J⟩ := ins_at I ha
  obtain ⟨mm, hF⟩ := I.fr
  refine binopI_K (op := op) (I.ok.mod.kin.keeps hF.keep) J (by rw [hK]; exact hs) N (by rw [hK]; exact B) (by rw [hK, hn]; exact O.hs) (by rw [hK]; exact O.hf) ?_
  exact thn (run_fnS (us := [.ref a, .int i t]) (vs := [.ref a, .int i]) F hr hb (passAt tk σ) I (.cons rfl (.cons ⟨_, rfl⟩ .nil)) hsp) fun w s' hq => by
    obtain ⟨z, H', I', rz, q⟩ := hq
    exact relV_noNot rz ⟨z, H', I', rz, q⟩
theorem e_ownBinI {op : Operator} {c : Nat} {n : Str} (tk : Takes X W) (O : OwnM D.K (D.ca c) n f) (hs : PySem.W.selfFirst D.K (D.ca c) = true) (N : IntOp op.info.2) (B : BackOk D.K (D.ca c) op.info.2) (hn : PySem.dunder op.info.2 = n) (F : FnOk X.prog X.w X.K X.mg X.base (L2.CX X.prog X.w) k f fd ps (spM D 2 m)) (hr : Room k X.A) (hb : Binds X.K fd ps []) (ha : EX X D φ W a fa) (hb' : EX X D φ W b fb) (hK : X.K = D.K := by rfl) :
    EX X D φ W (.BinOp a op b pos) (eOwnI c m fa fb) :=
  ⟨⟨fun pins s σ H Q I h => wpAny_BinOp (binT ha.pe hb'.pe I (ownI_rd h) fun v u s2 x y H2 I2 rx ry q => own_binI tk O hs N B hn F hr hb hK I2 rx ry q)⟩⟩
/-- -x, ~x -/
theorem unop_K {prog : Program} {w : World} {A : Around} {E : Value → Shared → Prop} {s : Shared} {K : PySem.W.Frag} {x C g : Addr} {ox : Obj} {od : Option Obj} {op : UnaryOp} {n : Str} {Q : Value → Shared → Prop}
    (Xh : K.In s.heap) (I : PySem.W.InstAt s.heap x ox C od) (hop : (op = .USub ∧ n = "__neg__") ∨ (op = .Invert ∧ n = "__invert__"))
    (hs : PySem.W.findIn K (.ref C) n = some (some (.ref g))) (hf : PySem.W.isFn K (.ref g) = true)
    (h : wpAny (model prog w) A (call (.ref g) [.ref x]) Q E s) : wpAny (model prog w) A (unaryOp op (.ref x)) Q E s := by
  rcases hop with ⟨rfl, rfl⟩ | ⟨rfl, rfl⟩ <;>
  · unfold unaryOp
    refine wpAny_holding ?_
    refine wpAny_bind (m := callSpecial? (.ref x) _) (PySem.W.special_fn Xh I hs (beq_iff_eq.mp hf) (wpAny_mono h (fun v s' hv => ?_) fun _ _ e => e))
    exact wpAny_pure hv
theorem e_ownUn {op : UnaryOp} {c : Nat} {n : Str} (tk : Takes X W) (O : OwnM D.K (D.ca c) n f) (hop : (op = .USub ∧ n = "__neg__") ∨ (op = .Invert ∧ n = "__invert__")) (F : FnOk X.prog X.w X.K X.mg X.base (L2.CX X.prog X.w) k f fd ps (spM D 1 m)) (hr : Room k X.A) (hb : Binds X.K fd ps []) (ha : EX X D φ W a fa) (hK : X.K = D.K := by rfl) :
    EX X D φ W (.UnaryOp op a pos) (eOwn1 c m fa) :=
  ⟨⟨fun pins s σ H Q I h => UnaryOp_ (thn (ha.pe.run pins s σ H _ I (own1_rd h)) fun v s1 ⟨x, H1, I1, r1, q1⟩ => by
    obtain ⟨a, dx, fs, rfl, ha, hsp⟩ := q1
    cases r1
    obtain ⟨od, J⟩ := ins_at I1 ha
    obtain ⟨mm, hF⟩ := I1.fr
    refine unop_K (I1.ok.mod.kin.keeps hF.keep) J hop (by rw [hK]; exact O.hs) (by rw [hK]; exact O.hf) ?_
    exact run_fnS (us := [.ref a]) (vs := [.ref a]) F hr hb (passAt tk σ) I1 (.cons rfl .nil) hsp)⟩⟩
end
end VI

set_option Elab.async false
set_option linter.all false
set_option maxRecDepth 100000
set_option maxHeartbeats 4000000
namespace VI
open PySem L2 PySem.Spec PyProof.Rows
section
variable {X : Cx} {D : Wd} {φ : Fr} {W : WX} {e a b : Expr} {es : List Expr} {fa fb : EF} {ga : AF} {pos p p2 : Pos}
/-! ### list(range(..)) -/
def oRg1 : T → Out
  | .int j => if -(2 ^ 62) ≤ j ∧ j ≤ 100000 then .l (rangeT 0 j.toNat) else .no
  | _ => .no
def oRg2 : T → T → Out
  | .int i, .int j => if -(2 ^ 62) ≤ i ∧ i < 2 ^ 62 ∧ -(2 ^ 62) ≤ j ∧ j < 2 ^ 62 ∧ j - i ≤ 100000 then .l (rangeT i (j - i).toNat) else .no
  | _, _ => .no
theorem reps_range {G : Hp} (i : Int) (n : Nat) : Reps D G (rangeT i n) ((List.range n).map fun k => V.int (i + (k : Nat))) := by
  have : rangeT i n = ((List.range n).map fun (k : Nat) => i + (k : Int)).map T.int := by simp [rangeT]
  rw [this, reps_ints]; simp
theorem e_listRg1 (hc : X.calm = true) (hg : Gl X "list") (hm : X.mg "list" = none) (hg2 : Gl X "range") (hm2 : X.mg "range" = none) (ha : EX X D φ W a fa) (na : starEach [Expr.Call (.Name "range" p2) [a] [] p] X.env = (false, eval (.Call (.Name "range" p2) [a] [] p) X.env) :: starEach [] X.env := by rfl) (n1 : starEach [a] X.env = (false, eval a X.env) :: starEach [] X.env := by rfl)
    {p3 : Pos} : EX X D φ W (.Call (.Name "list" p3) [.Call (.Name "range" p2) [a] [] p] [] pos) (e1 oRg1 fa) :=
  ⟨pe_mono (pe_listRg hc hg hm (prg_1 hg2 hm2 ha.pe n1) na) fun σ H Q h => one (r := fun x H1 Q => ∃ n, x = V.int n ∧ RgOk 0 n ∧ ∀ q, H1 q = none → Q (.ref q) (upd H1 q (.lst (rgV 0 n)))) (fun G H x t Q s ht ho => by
    cases t with
    | int j =>
      simp only [oRg1] at ho
      split at ho
      · rename_i hj
        cases (show x = .int j from ht)
        exact ⟨j, rfl, ⟨by omega, by omega, by omega, by omega, by omega⟩, fun q hq => ho q _ _ (Same.fresh_up hq) hq upd_same (by
          have := reps_range (D := D) (G := G) 0 j.toNat
          unfold rgV; rw [Int.sub_zero]; exact this)⟩
      · exact ho.elim
    | _ => exact ho.elim) h⟩
theorem e_listRg2 (hc : X.calm = true) (hg : Gl X "list") (hm : X.mg "list" = none) (hg2 : Gl X "range") (hm2 : X.mg "range" = none) (ha : EX X D φ W a fa) (hb : EX X D φ W b fb) (na : starEach [Expr.Call (.Name "range" p2) [a, b] [] p] X.env = (false, eval (.Call (.Name "range" p2) [a, b] [] p) X.env) :: starEach [] X.env := by rfl) (n1 : starEach [a, b] X.env = (false, eval a X.env) :: starEach [b] X.env := by rfl) (n2 : starEach [b] X.env = (false, eval b X.env) :: starEach [] X.env := by rfl) (n3 : (backTo p (starEach [b] X.env)).any (·.1) = false := by rfl)
    {p3 : Pos} : EX X D φ W (.Call (.Name "list" p3) [.Call (.Name "range" p2) [a, b] [] p] [] pos) (e2 oRg2 fa fb) :=
  ⟨pe_mono (pe_listRg hc hg hm (prg_2 hg2 hm2 ha.pe hb.pe n1 n2 n3) na) fun σ H Q h => two (r := fun x y H1 Q => ∃ i j, x = V.int i ∧ y = V.int j ∧ RgOk i j ∧ ∀ q, H1 q = none → Q (.ref q) (upd H1 q (.lst (rgV i j)))) (fun G H x y t u Q s ht hu ho => by
    cases t with
    | int i =>
      cases u with
      | int j =>
        simp only [oRg2] at ho
        split at ho
        · rename_i hj
          cases (show x = .int i from ht)
          cases (show y = .int j from hu)
          exact ⟨i, j, rfl, rfl, ⟨by omega, by omega, by omega, by omega, by omega⟩, fun q hq => ho q _ _ (Same.fresh_up hq) hq upd_same (reps_range (D := D) (G := G) i (j - i).toNat)⟩
        · exact ho.elim
      | _ => exact ho.elim
    | _ => exact ho.elim) h⟩

/-! ### sums, greatest and least of a list -/
def bSum : List T → Out
  | [.lst ts] => (match intsT ts with | some ns => .v (.int ns.sum) | none => .no)
  | [.sq ts] => (match intsT ts with | some ns => .v (.int ns.sum) | none => .no)
  | _ => .no
theorem opN_sum : OpN D (rSum D.K) bSum := fun G H xs ts Q s h ho => by
  unfold bSum at ho
  split at ho
  · split at ho
    · rename_i ns e
      obtain ⟨x, rfl, a, vs, rfl, h1, h2⟩ := h.one_of
      rw [intsT_of e] at h2
      have hv := reps_ints.mp h2
      subst hv
      exact ⟨a, ns, rfl, .of h1, ho _ H (.refl _) rfl⟩
    · exact ho.elim
  · split at ho
    · rename_i ns e
      obtain ⟨x, rfl, a, vs, rfl, h1, h2⟩ := h.one_of
      rw [intsT_of e] at h2
      have hv := reps_ints.mp h2
      subst hv
      exact ⟨a, ns, rfl, same_l s h1, ho _ H (.refl _) rfl⟩
    · exact ho.elim
  · exact ho.elim
/-- the greatest, the least of a list of ints that is not empty -/
def maxI : List Int → Int
  | [] => 0
  | [x] => x
  | x :: y :: r => if x < maxI (y :: r) then maxI (y :: r) else x
def minI : List Int → Int
  | [] => 0
  | [x] => x
  | x :: y :: r => if minI (y :: r) < x then minI (y :: r) else x
theorem maxI_mem : ∀ {xs : List Int}, xs ≠ [] → maxI xs ∈ xs ∧ ∀ y ∈ xs, y ≤ maxI xs
  | [], h => (h rfl).elim
  | [x], _ => ⟨by simp [maxI], fun y hy => by simp at hy; subst hy; exact Int.le_refl _⟩
  | x :: y :: r, _ => by
    obtain ⟨h1, h2⟩ := maxI_mem (xs := y :: r) (by simp)
    rw [maxI]
    split
    · rename_i hlt
      exact ⟨List.mem_cons_of_mem _ h1, fun z hz => by
        rcases List.mem_cons.mp hz with rfl | hz
        · omega
        · exact h2 z hz⟩
    · rename_i hlt
      exact ⟨List.mem_cons_self, fun z hz => by
        rcases List.mem_cons.mp hz with rfl | hz
        · exact Int.le_refl _
        · have := h2 z hz; omega⟩
theorem minI_mem : ∀ {xs : List Int}, xs ≠ [] → minI xs ∈ xs ∧ ∀ y ∈ xs, minI xs ≤ y
  | [], h => (h rfl).elim
  | [x], _ => ⟨by simp [minI], fun y hy => by simp at hy; subst hy; exact Int.le_refl _⟩
  | x :: y :: r, _ => by
    obtain ⟨h1, h2⟩ := minI_mem (xs := y :: r) (by simp)
    rw [minI]
    split
    · rename_i hlt
      exact ⟨List.mem_cons_of_mem _ h1, fun z hz => by
        rcases List.mem_cons.mp hz with rfl | hz
        · omega
        · exact h2 z hz⟩
    · rename_i hlt
      exact ⟨List.mem_cons_self, fun z hz => by
        rcases List.mem_cons.mp hz with rfl | hz
        · exact Int.le_refl _
        · have := h2 z hz; omega⟩
def bMaxL : List T → Out
  | [.lst ts] => (match intsT ts with | some ns => if ns.isEmpty = true then .no else .v (.int (maxI ns)) | none => .no)
  | [.sq ts] => (match intsT ts with | some ns => if ns.isEmpty = true then .no else .v (.int (maxI ns)) | none => .no)
  | _ => .no
def bMinL : List T → Out
  | [.lst ts] => (match intsT ts with | some ns => if ns.isEmpty = true then .no else .v (.int (minI ns)) | none => .no)
  | [.sq ts] => (match intsT ts with | some ns => if ns.isEmpty = true then .no else .v (.int (minI ns)) | none => .no)
  | _ => .no
theorem opN_maxL : OpN D (rMax D.K) bMaxL := fun G H xs ts Q s h ho => by
  have go : ∀ {a : Addr} {vs : List V} {ts : List T} {ns : List Int} (hl : SqL D.K H a vs), intsT ts = some ns → Reps D G ts vs → OutOk D G H Q (if ns.isEmpty = true then .no else .v (.int (maxI ns))) → rMax D.K [.ref a] H Q := by
    intro a vs ts ns hl e h2 ho
    rw [intsT_of e] at h2
    have hv := reps_ints.mp h2
    subst hv
    cases hn : ns.isEmpty with
    | true => rw [hn] at ho; exact ho.elim
    | false =>
      rw [hn] at ho
      have ne : ns ≠ [] := by intro z; subst z; cases hn
      obtain ⟨m1, m2⟩ := maxI_mem ne
      refine ⟨a, ns, rfl, hl, by cases ns with | nil => exact (ne rfl).elim | cons _ _ => simp, fun m hm hle => ?_⟩
      have : m = maxI ns := by have := m2 m hm; have := hle _ m1; omega
      subst this
      exact ho _ H (.refl _) rfl
  unfold bMaxL at ho
  split at ho
  · split at ho
    · rename_i ns e
      obtain ⟨x, rfl, a, vs, rfl, h1, h2⟩ := h.one_of
      exact go (.of h1) e h2 ho
    · exact ho.elim
  · split at ho
    · rename_i ns e
      obtain ⟨x, rfl, a, vs, rfl, h1, h2⟩ := h.one_of
      exact go (same_l s h1) e h2 ho
    · exact ho.elim
  · exact ho.elim
theorem opN_minL : OpN D (rMin D.K) bMinL := fun G H xs ts Q s h ho => by
  have go : ∀ {a : Addr} {vs : List V} {ts : List T} {ns : List Int} (hl : SqL D.K H a vs), intsT ts = some ns → Reps D G ts vs → OutOk D G H Q (if ns.isEmpty = true then .no else .v (.int (minI ns))) → rMin D.K [.ref a] H Q := by
    intro a vs ts ns hl e h2 ho
    rw [intsT_of e] at h2
    have hv := reps_ints.mp h2
    subst hv
    cases hn : ns.isEmpty with
    | true => rw [hn] at ho; exact ho.elim
    | false =>
      rw [hn] at ho
      have ne : ns ≠ [] := by intro z; subst z; cases hn
      obtain ⟨m1, m2⟩ := minI_mem ne
      refine ⟨a, ns, rfl, hl, by cases ns with | nil => exact (ne rfl).elim | cons _ _ => simp, fun m hm hle => ?_⟩
      have : m = minI ns := by have := m2 m hm; have := hle _ m1; omega
      subst this
      exact ho _ H (.refl _) rfl
  unfold bMinL at ho
  split at ho
  · split at ho
    · rename_i ns e
      obtain ⟨x, rfl, a, vs, rfl, h1, h2⟩ := h.one_of
      exact go (.of h1) e h2 ho
    · exact ho.elim
  · split at ho
    · rename_i ns e
      obtain ⟨x, rfl, a, vs, rfl, h1, h2⟩ := h.one_of
      exact go (same_l s h1) e h2 ho
    · exact ho.elim
  · exact ho.elim
def blsT : List T → Option (List Bool)
  | [] => some []
  | .bl i :: ts => (blsT ts).map (i :: ·)
  | _ :: _ => none
theorem blsT_of : ∀ {ts : List T} {bs : List Bool}, blsT ts = some bs → ts = bs.map T.bl
  | [], bs, h => by cases h; rfl
  | .bl i :: ts, bs, h => by
    simp only [blsT] at h
    cases e : blsT ts with
    | none => rw [e] at h; cases h
    | some cs => rw [e] at h; cases h; rw [blsT_of e]; rfl
  | .non :: _, _, h => by cases h
  | .int _ :: _, _, h => by cases h
  | .str _ :: _, _, h => by cases h
  | .tup _ :: _, _, h => by cases h
  | .lst _ :: _, _, h => by cases h
  | .ins _ _ _ :: _, _, h => by cases h
  | .sq _ :: _, _, h => by cases h
theorem reps_bls {G : Hp} : ∀ {ns : List Bool} {vs : List V}, Reps D G (ns.map T.bl) vs ↔ vs = ns.map V.bl
  | [], vs => Iff.rfl
  | n :: ns, vs => by
    constructor
    · rintro ⟨v, r, e, h, q⟩
      subst e
      cases h
      rw [(reps_bls (ns := ns)).mp q]; rfl
    · intro e; subst e; exact ⟨_, _, rfl, rfl, reps_bls.mpr rfl⟩
def bAny : List T → Out
  | [.lst ts] => (match blsT ts with | some ns => .v (.bl (ns.any id)) | none => .no)
  | _ => .no
def bAll : List T → Out
  | [.lst ts] => (match blsT ts with | some ns => .v (.bl (ns.all id)) | none => .no)
  | _ => .no
theorem opN_any : OpN D (rAny D.K) bAny := fun G H xs ts Q s h ho => by
  unfold bAny at ho
  split at ho
  · split at ho
    · rename_i ns e
      obtain ⟨x, rfl, a, vs, rfl, h1, h2⟩ := h.one_of
      rw [blsT_of e] at h2
      have hv := reps_bls.mp h2
      subst hv
      exact ⟨a, ns, rfl, .of h1, ho _ H (.refl _) rfl⟩
    · exact ho.elim
  · exact ho.elim
theorem opN_all : OpN D (rAll D.K) bAll := fun G H xs ts Q s h ho => by
  unfold bAll at ho
  split at ho
  · split at ho
    · rename_i ns e
      obtain ⟨x, rfl, a, vs, rfl, h1, h2⟩ := h.one_of
      rw [blsT_of e] at h2
      have hv := reps_bls.mp h2
      subst hv
      exact ⟨a, ns, rfl, .of h1, ho _ H (.refl _) rfl⟩
    · exact ho.elim
  · exact ho.elim
theorem boot_sum : bootBuiltins "sum" = some (.builtin "sum") := by decide +kernel
/-! ### gcd -/
def bGcd : List T → Out
  | [.int i, .int j] => .v (.int ((Nat.gcd i.natAbs j.natAbs : Nat) : Int))
  | _ => .no
theorem opN_gcd : OpN D rGcd bGcd := fun G H xs ts Q s h ho => by
  unfold bGcd at ho
  split at ho
  · cases h with
    | cons h1 h2 => cases h2 with
      | cons h2 h3 => cases h3; cases h1; cases h2; exact ⟨_, _, rfl, ho _ H (.refl _) rfl⟩
  · exact ho.elim
theorem e_callBfun {x : Str} {id : String} {r : List V → Hp → VK → Prop} {g : List T → Out} {f : AF} (hc : CallR X (.builtin id) r) (os : OpN D r g) (hg : Gl X x) (hm : X.mg x = some (.builtin id)) (ha : AX X D φ W (e :: es) f)
    (hdb : (x == ("__debug__" : Str)) = false := by decide) (he : starEach (e :: es) X.env = (false, eval e X.env) :: starEach es X.env := by rfl) (hpl : (backTo pos (starEach es X.env)).any (·.1) = false := by rfl) : EX X D φ W (.Call (.Name x p) (e :: es) [] pos) (eN g f) :=
  ⟨pe_mono (pe_callBfun hc hg hm ha.pa hdb he hpl) fun _ _ _ h => many os h⟩
/-! ### insert -/
def mInsert : List T → List T → Option (List T × T) := fun xs ts => match ts with
  | [.int i, t] => if xs.length ≤ 100000 ∧ 0 ≤ i ∧ i < 2 ^ 62 then some (xs.take i.toNat ++ [t] ++ xs.drop i.toNat, .non) else none
  | _ => none
def rInsert : V → List V → Hp → VK → Prop := fun x vs H Q => ∃ (l : Addr) (xs : List V) (i : Int) (y : V), x = .ref l ∧ vs = [.int i, y] ∧ H l = some (.lst xs) ∧ xs.length < sizeLine ∧ 0 ≤ i ∧ i < 2 ^ 63 ∧
    Q .non (upd H l (.lst (xs.take i.toNat ++ [y] ++ xs.drop i.toNat)))
theorem opM_insert : OpM D rInsert mInsert := fun G H l vs ys xs ts xs' t Q hl s hx ht e k => by
  unfold mInsert at e
  split at e
  · rename_i i u
    split at e
    · rename_i hz
      cases e
      obtain ⟨w, r, rfl, h1, z, r2, rfl, h2, h3⟩ := ht
      cases h1; cases h3
      exact ⟨l, vs, i, z, rfl, rfl, hl, by rw [hx.len, sizeLine_eq]; omega, hz.2.1, by omega, k _ _ (((hx.take _).snoc h2).append (hx.drop _)) rfl⟩
    · cases e
  · cases e
theorem e_insert {apos : Pos} {i : Nat} {o : Expr} (ho : PE X o (tVar i)) (ha : AX X D φ W (e :: es) ga)
    (hbase : attributeBase o "insert" X.env (eval o X.env) = eval o X.env := by rfl)
    (hfew : ((backTo pos (starEach (e :: es) X.env)).all (fun x => !x.1) && (backToKw pos (keywordEach [] X.env)).all (fun x => x.1.isSome) && decide ((e :: es).length + ([] : List Keyword).length + (if ([] : List Keyword).isEmpty then 0 else 1) < 30)) = true := by rfl)
    (hline : (apos.endLine == pos.line) = true := by rfl) (hs : starEach (e :: es) X.env = (false, eval e X.env) :: starEach es X.env := by rfl) (hplain : (backTo pos (starEach es X.env)).any (·.1) = false := by rfl) (hK : X.K = D.K := by rfl) :
    EX X D φ W (.Call (.Attribute o "insert" apos) (e :: es) [] pos) (eBmM i mInsert ga) :=
  e_bmM (e := e) (id := "list.insert") (by rw [← hK]; exact pe_bm PySem.F.plainAttrs_list PySem.F.slot_list_insert PySem.F.type_list_insert mt_insert ho ha.pa hbase hfew hline hs hplain) opM_insert
end
end VI

set_option Elab.async false
set_option linter.all false
set_option maxRecDepth 100000
set_option maxHeartbeats 4000000
namespace VI
open PySem L2 PySem.Spec PyProof.Rows
/-! ### an own exception whose __init__ stores its arguments -/
def spEx1 (K : PySem.W.Frag) (C : Addr) (f1 : Str) : Sp := fun vs H Q _ => ∃ (a : Addr) (y1 : V), vs = [.ref a, y1] ∧ H a = some (exo a C none) ∧ ∀ dx, H dx = none → dx ≠ a → Q .non (upd (upd H dx (exd dx [(f1, y1)])) a (exo a C (some dx)))
def spEx2 (K : PySem.W.Frag) (C : Addr) (f1 f2 : Str) : Sp := fun vs H Q _ => ∃ (a : Addr) (y1 y2 : V), vs = [.ref a, y1, y2] ∧ H a = some (exo a C none) ∧ ∀ dx, H dx = none → dx ≠ a → Q .non (upd (upd (upd H dx (exd dx [(f1, y1)])) a (exo a C (some dx))) dx (exd dx [(f2, y2), (f1, y1)]))
section
variable {P : Program} {w : World} {K : PySem.W.Frag} {mg : Str → Option Value} {base : Heap} {C : Addr} {qual f1 f2 s0 p1 p2 : Str} {st : Stmt} {f : Addr} {fd : FuncData} {x : Str}
theorem fn_ex1 (F : Fun K x qual st f fd) (S : FnScope [s0, p1] [s0, p1] (defScope st)) (T : OexC K C) (n1 : PySem.W.findIn K (.ref C) f1 = some none)
    (hb : ∀ (cdv : Value) (A : Around) (outer : List Env) (s : Shared) (H : Hp) (E : XK), PSs (cxOf CX0 P w K mg base [s0, p1] qual (defScope st) f cdv A outer s H E).nox (defBody st) (tOst K f1 (tVar 0) (tVar 1))) :
    FnOk P w K mg base CX0 1 f fd [s0, p1] (spEx1 K C f1) :=
  F.ok S (fun vs H Q E h => by obtain ⟨a, y1, rfl, _⟩ := h; rfl) fun cdv A outer s H vs Q E hr h => by
    obtain ⟨a, y1, rfl, ha, q⟩ := h
    refine ⟨_, hb cdv A outer s H E, y1, rfl, .ref a, rfl, a, C, rfl, T, n1, .inl ⟨ha, fun dx hd ne => q dx hd ne⟩⟩
theorem fn_ex2 (F : Fun K x qual st f fd) (S : FnScope [s0, p1, p2] [s0, p1, p2] (defScope st)) (T : OexC K C) (n1 : PySem.W.findIn K (.ref C) f1 = some none) (n2 : PySem.W.findIn K (.ref C) f2 = some none)
    (hb : ∀ (cdv : Value) (A : Around) (outer : List Env) (s : Shared) (H : Hp) (E : XK), PSs (cxOf CX0 P w K mg base [s0, p1, p2] qual (defScope st) f cdv A outer s H E).nox (defBody st) (tSeq (tOst K f1 (tVar 0) (tVar 1)) (tOst K f2 (tVar 0) (tVar 2)))) :
    FnOk P w K mg base CX0 1 f fd [s0, p1, p2] (spEx2 K C f1 f2) :=
  F.ok S (fun vs H Q E h => by obtain ⟨a, y1, y2, rfl, _⟩ := h; rfl) fun cdv A outer s H vs Q E hr h => by
    obtain ⟨a, y1, y2, rfl, ha, q⟩ := h
    refine ⟨_, hb cdv A outer s H E, y1, rfl, .ref a, rfl, a, C, rfl, T, n1, .inl ⟨ha, fun dx hd ne => ?_⟩⟩
    refine ⟨y2, rfl, .ref a, rfl, a, C, rfl, T, n2, .inr ⟨dx, [(f1, y1)], upd_same, ?_, by simp, q dx hd ne⟩⟩
    rw [upd_ne ne]; exact upd_same
end
def sRaiseN (c : Nat) (ks : List Nat) (ga : AF) : SF := fun ρ => (ga ρ).bind fun xs ρ1 => match grounds xs with
  | some ts => .ex c ks ts.reverse ρ1
  | none => .bad
theorem exc_fin {H H2 : Hp} {a d : Addr} {o : HO} (ha : H a = none) (hd : ∀ b, b ≠ a → b ≠ d → H2 b = H b) : upd (del H2 a) d o = upd H d o := by
  funext b
  by_cases h1 : b = d
  · subst h1; rw [upd_same, upd_same]
  · rw [upd_ne h1, upd_ne h1]
    by_cases h2 : b = a
    · subst h2; rw [del_same, ha]
    · rw [del_ne h2, hd b h2 h1]
section
variable {X : Cx} {D : Wd} {φ : Fr} {W : WX} {e : Expr} {es : List Expr} {ga : AF} {x : Str} {C fI : Addr} {fd : FuncData} {ps : List Str} {pos p pos2 : Pos} {k : Nat}
/-- raise X(a, ..) -/
theorem raise_rd {c : Nat} {ks : List Nat} {fs : List Str} (hks : fs.reverse = ks.map D.nm) (hne : ks ≠ []) {σ : L2.St} {H : Hp} {E : Ends}
    {sp : Sp} (hsp : ∀ (a : Addr) (vs : List V) (H : Hp) (Q : VK), vs.length = fs.length → H a = some (exo a (D.ca c) none) → (∀ dx H2, H dx = none → dx ≠ a → (∀ b, b ≠ a → b ≠ dx → H2 b = H b) → H2 a = some (exo a (D.ca c) (some dx)) → H2 dx = some (exd dx (fs.zip vs).reverse) → Q .non H2) → sp (.ref a :: vs) H Q (fun _ _ _ => False))
    (hlen : ∀ (ρ : Ro) (ρ1 : Ro) (xs : List EV), ga ρ = .ok xs ρ1 → xs.length = fs.length ∧ fs.length ≤ 900) (h : rdS D φ W (sRaiseN c ks ga) E σ H) : tMkO (D.ca c) sp [] (rdA D φ W ga) σ H fun cls d H' => W cls d σ H' := by
  obtain ⟨G, ρ, r, p⟩ := h
  refine ⟨G, ρ, r, ?_⟩
  unfold sRaiseN at p
  cases e1 : ga ρ with
  | bad => rw [e1] at p; exact p
  | ex c' ks' ts' ρ1 => rw [e1] at p; exact fun cls d G' H' s' r' q => p cls d G' σ H' s' r' q
  | ok xs ρ1 =>
    rw [e1] at p
    simp only [R.bind_ok] at p
    intro G1 H1 s1 r1 vs hvs
    cases e2 : grounds xs with
    | none => rw [e2] at p; exact p.elim
    | some ts =>
      rw [e2] at p
      simp only at p
      obtain ⟨hl, h9⟩ := hlen ρ ρ1 xs e1
      have rp : Reps D G1 ts vs := by
        clear p e1 hl
        induction hvs generalizing ts with
        | nil => cases e2; exact .nil
        | @cons x v xs vs hx _ ih =>
          cases x with
          | val t =>
            simp only [grounds] at e2
            cases q : grounds xs with
            | none => rw [q] at e2; cases e2
            | some us => rw [q] at e2; cases e2; exact .cons hx (ih us q)
          | own l =>
            simp only [grounds] at e2
            cases q : grounds xs with
            | none => rw [q] at e2; cases e2
            | some us => rw [q] at e2; cases e2; exact .cons hx (ih us q)
          | pk i => cases e2
      have hvl : vs.length = fs.length := by
        rw [← hl]
        clear p e1 hl e2 rp
        induction hvs with
        | nil => rfl
        | cons _ _ ih => simp [ih]
      refine ⟨by rw [hvl]; omega, fun a ha => ?_⟩
      rw [List.append_nil]
      refine hsp a vs (upd H1 a (exo a (D.ca c) none)) _ hvl upd_same fun dx H2 hdx ne hH2 ha2 hd2 => ?_
      have hdx1 : H1 dx = none := by rw [upd_ne ne] at hdx; exact hdx
      refine ⟨rfl, dx, _, ha2, hd2, hdx1, ?_⟩
      rw [exc_fin ha fun b h1 h2 => by rw [hH2 b h1 h2, upd_ne h1]]
      have rf := r1.newFrozen (o := .xd (fs.zip vs).reverse) hdx1
      have hg : G1 dx = none := same_none r1.sub hdx1
      have mz1 : (fs.zip vs).map (·.1) = fs := List.map_fst_zip (by omega)
      have mz2 : (fs.zip vs).map (·.2) = vs := List.map_snd_zip (by omega)
      exact p (.ref (D.ca c)) (some dx) _ σ _ (s1.trans (Same.fresh_up hg)) rf ⟨rfl, .inr ⟨hne, dx, (fs.zip vs).reverse, rfl, upd_same, by rw [List.map_reverse, mz1, hks], by rw [List.map_reverse, mz2]; exact (rp.mono (Same.fresh_up hg)).reverse⟩⟩
theorem ex1_sp {K : PySem.W.Frag} {C : Addr} {f1 : Str} (a : Addr) (vs : List V) (H : Hp) (Q : VK) (hl : vs.length = [f1].length) (ha : H a = some (exo a C none)) (h : ∀ dx H2, H dx = none → dx ≠ a → (∀ b, b ≠ a → b ≠ dx → H2 b = H b) → H2 a = some (exo a C (some dx)) → H2 dx = some (exd dx ([f1].zip vs).reverse) → Q .non H2) :
    spEx1 K C f1 (.ref a :: vs) H Q (fun _ _ _ => False) := by
  match vs, hl with
  | [y1], _ =>
    refine ⟨a, y1, rfl, ha, fun dx hd ne => h dx _ hd ne (fun b h1 h2 => by rw [upd_ne h1, upd_ne h2]) upd_same (by rw [upd_ne ne]; exact upd_same)⟩
theorem ex2_sp {K : PySem.W.Frag} {C : Addr} {f1 f2 : Str} (a : Addr) (vs : List V) (H : Hp) (Q : VK) (hl : vs.length = [f1, f2].length) (ha : H a = some (exo a C none)) (h : ∀ dx H2, H dx = none → dx ≠ a → (∀ b, b ≠ a → b ≠ dx → H2 b = H b) → H2 a = some (exo a C (some dx)) → H2 dx = some (exd dx ([f1, f2].zip vs).reverse) → Q .non H2) :
    spEx2 K C f1 f2 (.ref a :: vs) H Q (fun _ _ _ => False) := by
  match vs, hl with
  | [y1, y2], _ =>
    refine ⟨a, y1, y2, rfl, ha, fun dx hd ne => h dx _ hd ne (fun b h1 h2 => by rw [upd_ne h2, upd_ne h1, upd_ne h2]) (by rw [upd_ne (Ne.symm ne)]; exact upd_same) upd_same⟩
/-- what the arguments' list is, by its text -/
theorem aCons_len {f : EF} {g : AF} {n : Nat} (h : ∀ ρ ρ1 xs, g ρ = .ok xs ρ1 → xs.length = n) : ∀ ρ ρ1 xs, aCons f g ρ = .ok xs ρ1 → xs.length = n + 1 := fun ρ ρ1 xs e => by
  unfold aCons at e
  cases q : f ρ with
  | bad => rw [q] at e; cases e
  | ex _ _ _ _ => rw [q] at e; cases e
  | ok x ρ2 =>
    rw [q] at e
    simp only [R.bind_ok] at e
    cases q2 : g ρ2 with
    | bad => rw [q2] at e; cases e
    | ex _ _ _ _ => rw [q2] at e; cases e
    | ok ys ρ3 => rw [q2] at e; cases e; simp [h ρ2 _ ys q2]
theorem aNil_len : ∀ (ρ ρ1 : Ro) (xs : List EV), aNil ρ = .ok xs ρ1 → xs.length = 0 := fun ρ ρ1 xs e => by cases e; rfl
theorem s_raise1 {f1 : Str} {c k1 : Nat} {fa : EF} (hc : X.calm = true) (tk : Takes X W) (T : OexC X.K (D.ca c)) (iC : PySem.W.findIn X.K (.ref (D.ca c)) "__init__" = some (some (.ref fI))) (tI : PySem.W.typeIn X.K (.ref fI) = some (.type "function"))
    (F1 : FnOk X.prog X.w X.K X.mg X.base CX0 1 fI fd ps (spEx1 X.K (D.ca c) f1)) (hr : Room 2 X.A) (hb : Binds X.K fd ps []) (hg : Gl X x) (hm : X.mg x = some (.ref (D.ca c))) (hk1 : D.nm k1 = f1) (ha : EX X D φ W e fa)
    (hdb : (x == ("__debug__" : Str)) = false := by decide) (he : starEach [e] X.env = (false, eval e X.env) :: starEach [] X.env := by rfl) (hpl : (backTo pos (starEach [] X.env)).any (·.1) = false := by rfl) :
    SX X D φ W (.Raise (some (.Call (.Name x p) [e] [] pos)) none pos2) (sRaiseN c [k1] (aCons fa aNil)) :=
  ⟨ps_mono (ps_raise hc tk (pmk_oex (dvs := []) T iC tI F1 hr hb .nil pass0 hg hm (a_cons ha a_nil he).pa hdb he hpl)) fun E σ H h =>
    raise_rd (fs := [f1]) (by simp [hk1]) (by simp) (fun a vs H Q => ex1_sp a vs H Q) (fun ρ ρ1 xs q => ⟨aCons_len aNil_len ρ ρ1 xs q, by simp⟩) h⟩
theorem s_raise2 {f1 f2 : Str} {c k1 k2 : Nat} {e2 : Expr} {fa fb : EF} (hc : X.calm = true) (tk : Takes X W) (T : OexC X.K (D.ca c)) (iC : PySem.W.findIn X.K (.ref (D.ca c)) "__init__" = some (some (.ref fI))) (tI : PySem.W.typeIn X.K (.ref fI) = some (.type "function"))
    (F1 : FnOk X.prog X.w X.K X.mg X.base CX0 1 fI fd ps (spEx2 X.K (D.ca c) f1 f2)) (hr : Room 2 X.A) (hb : Binds X.K fd ps []) (hg : Gl X x) (hm : X.mg x = some (.ref (D.ca c))) (hk1 : D.nm k1 = f1) (hk2 : D.nm k2 = f2) (ha : EX X D φ W e fa) (hb' : EX X D φ W e2 fb)
    (hdb : (x == ("__debug__" : Str)) = false := by decide) (he : starEach [e, e2] X.env = (false, eval e X.env) :: starEach [e2] X.env := by rfl) (hpl : (backTo pos (starEach [e2] X.env)).any (·.1) = false := by rfl) (he2 : starEach [e2] X.env = (false, eval e2 X.env) :: starEach [] X.env := by rfl) :
    SX X D φ W (.Raise (some (.Call (.Name x p) [e, e2] [] pos)) none pos2) (sRaiseN c [k2, k1] (aCons fa (aCons fb aNil))) :=
  ⟨ps_mono (ps_raise hc tk (pmk_oex (dvs := []) T iC tI F1 hr hb .nil pass0 hg hm (a_cons ha (a_cons hb' a_nil he2) he).pa hdb he hpl)) fun E σ H h =>
    raise_rd (fs := [f1, f2]) (by simp [hk1, hk2]) (by simp) (fun a vs H Q => ex2_sp a vs H Q) (fun ρ ρ1 xs q => ⟨aCons_len (aCons_len aNil_len) ρ ρ1 xs q, by simp⟩) h⟩
end
end VI

set_option Elab.async false
set_option linter.all false
set_option maxRecDepth 100000
set_option maxHeartbeats 4000000
namespace VI
open PySem L2 PySem.Spec PyProof.Rows
/-! ### slices -/
def cutL (xs : List T) (lo hi : Option Int) : List T := (xs.drop (HT.sIx xs.length 0 lo)).take (HT.sIx xs.length xs.length hi - HT.sIx xs.length 0 lo)
def cutT : T → Option Int → Option Int → Out
  | .lst ts, l, h => .l (cutL ts l h)
  | .sq ts, l, h => .l (cutL ts l h)
  | .tup ts, l, h => if HT.sIx ts.length 0 l = 0 ∧ HT.sIx ts.length ts.length h = ts.length then .v (.tup ts) else .u (cutL ts l h)
  | .str z, l, h => if z.length ≤ 100000 then .v (.str (cutS z l h)) else .no
  | _, _, _ => .no
abbrev OFn := Ro → R (Option Int)
def oNone : OFn := fun ρ => .ok none ρ
def oSome (f : EF) : OFn := fun ρ => (f ρ).bind fun x ρ1 => match deref ρ1 x with
  | some (.int i) => .ok (some i) ρ1
  | _ => .bad
def eSl (fa : EF) (fl fh : OFn) : EF := fun ρ => (fa ρ).bind fun x ρ1 => (fl ρ1).bind fun l ρ2 => (fh ρ2).bind fun h ρ3 => match deref ρ3 x with
  | some t => out (cutT t l h) ρ3
  | none => .bad
def rdO (D : Wd) (φ : Fr) (W : WX) (f : OFn) : TO := fun σ H Q => ∃ G ρ, Rel D φ G σ ρ H ∧ Post D φ W G σ (fun o _ _ H => Q o H) (f ρ)
structure OX (X : Cx) (D : Wd) (φ : Fr) (W : WX) (e : Option Expr) (f : OFn) : Prop where
  po : PO X e (rdO D φ W f)
section
variable {X : Cx} {D : Wd} {φ : Fr} {W : WX} {e a b : Expr} {es : List Expr} {fa fb : EF} {ga : AF} {pos p p2 : Pos}
theorem o_none : OX X D φ W none oNone := ⟨⟨fun pins s σ H Q I ⟨G, ρ, r, p⟩ => po_none.run pins s σ H Q I (p G H (.refl _) r)⟩⟩
theorem o_some (h : EX X D φ W e fa) : OX X D φ W (some e) (oSome fa) := ⟨⟨fun pins s σ H Q I ⟨G, ρ, r, p⟩ => (po_some h.pe).run pins s σ H Q I ⟨G, ρ, r, Post.imp (Post.bind p) fun x ρ1 G1 H1 s1 r1 p1 v hv => by
  obtain ⟨G2, s2, r2, hh⟩ := settle r1 hv
  split at p1
  · rename_i i e1
    have z := hh.use r2 e1
    exact ⟨i, z, p1 G2 H1 s2 r2⟩
  · exact p1.elim⟩⟩⟩
theorem sl_all {K : PySem.W.Frag} (hK : X.K = K) : SlR X (fun x lo hi H Q => (rSlL K x lo hi H Q ∨ rSlA K x lo hi H Q) ∨ rSlS x lo hi H Q) := by
  subst hK
  exact (sl_list.or sl_tupA).or sl_str
theorem cut_reps {G : Hp} {ts : List T} {vs : List V} (h : Reps D G ts vs) (lo hi : Option Int) : Reps D G (cutL ts lo hi) (cutV vs lo hi) := by
  unfold cutL cutV
  rw [h.len]
  exact (h.drop _).take _
theorem e_slice {lo hi : Option Expr} {fl fh : OFn} (ha : EX X D φ W a fa) (hl : OX X D φ W lo fl) (hh : OX X D φ W hi fh) (hK : X.K = D.K := by rfl) : EX X D φ W (.Subscript a (.Slice lo hi none p2) pos) (eSl fa fl fh) :=
  ⟨pe_mono (pe_slice (sl_all hK) ha.pe hl.po hh.po) fun σ H Q ⟨G, ρ, r, pp⟩ => by
    refine ⟨G, ρ, r, Post.imp (Post.bind pp) fun x ρ1 G1 H1 s1 r1 p1 v hv => ?_⟩
    obtain ⟨G2, s2, r2, hx⟩ := settle r1 hv
    refine ⟨G2, ρ1, r2, Post.imp (Post.bind (Post.weak s2 p1)) fun l ρ2 G3 H3 s3 r3 p3 => ?_⟩
    refine ⟨G3, ρ2, r3, Post.imp (Post.bind p3) fun h ρ3 G4 H4 s4 r4 p4 => ?_⟩
    have hx' := hx.mono (s3.trans s4)
    cases e1 : deref ρ3 x with
    | none => rw [e1] at p4; exact p4.elim
    | some t =>
      rw [e1] at p4
      have ht := hx'.use r4 e1
      have ho := fin_out r4 (.refl _) p4
      cases t with
      | lst ts =>
        obtain ⟨c, vs, rfl, h1, h2⟩ := ht
        exact .inl (.inl ⟨c, vs, rfl, .of h1, fun q hq => ho q _ _ (Same.fresh_up hq) hq upd_same (cut_reps h2 l h)⟩)
      | sq ts =>
        obtain ⟨c, vs, rfl, h1, h2⟩ := ht
        exact .inl (.inl ⟨c, vs, rfl, same_l r4.sub h1, fun q hq => ho q _ _ (Same.fresh_up hq) hq upd_same (cut_reps h2 l h)⟩)
      | tup ts =>
        obtain ⟨c, vs, rfl, h1, h2⟩ := ht
        simp only [cutT] at ho
        refine .inl (.inr ⟨c, vs, rfl, same_t r4.sub h1, fun z => ?_, fun z q hq => ?_⟩)
        · rw [h2.len] at z
          rw [if_pos z] at ho
          exact ho _ H4 (.refl _) ⟨c, vs, rfl, h1, h2⟩
        · rw [h2.len] at z
          rw [if_neg z] at ho
          exact ho q _ _ (Same.fresh_up hq) hq upd_same (cut_reps h2 l h)
      | str z =>
        simp only [cutT] at ho
        split at ho
        · rename_i hz
          exact .inr ⟨z, ht, by rw [sizeLine_eq]; omega, ho _ H4 (.refl _) rfl⟩
        · exact ho.elim
      | _ => exact ho.elim⟩

/-! ### [*a, b] -/
def itemsT : T → Option (List T)
  | .lst ts => some ts
  | .tup ts => some ts
  | .sq ts => some ts
  | _ => none
def aStar (f : EF) (g : AF) : AF := fun ρ => (f ρ).bind fun x ρ1 => match (deref ρ1 x).bind itemsT with
  | some ts => (g ρ1).bind fun ys ρ2 => .ok (ts.map .val ++ ys) ρ2
  | none => .bad
theorem hlds_items {G : Hp} {σ : L2.St} : ∀ {ts : List T} {vs : List V}, Reps D G ts vs → Hlds D G σ (ts.map EV.val) vs
  | [], _, h => by cases h; exact .nil
  | _ :: _, _, ⟨v, r, e, h, q⟩ => by subst e; exact .cons h (hlds_items q)
theorem Hlds.app {G : Hp} {σ : L2.St} {xs ys : List EV} {vs ws : List V} (h : Hlds D G σ xs vs) (k : Hlds D G σ ys ws) : Hlds D G σ (xs ++ ys) (vs ++ ws) := by
  induction h with
  | nil => exact k
  | cons a _ ih => exact .cons a ih
theorem a_star {f : EF} {g : AF} (he : EX X D φ W e f) (hr : AX X D φ W es g) (hs : starEach (.Starred e p :: es) X.env = (true, eval e X.env) :: starEach es X.env := by rfl) (hK : X.K = D.K := by rfl) : AX X D φ W (.Starred e p :: es) (aStar f g) :=
  ⟨pa_mono (StX.pa_star he.pe hr.pa hs) fun σ H Q ⟨G, ρ, r, pp⟩ => by
    refine ⟨G, ρ, r, Post.imp (Post.bind pp) fun x ρ1 G1 H1 s1 r1 p1 v hv => ?_⟩
    obtain ⟨G2, s2, r2, hx⟩ := settle r1 hv
    have go : ∀ {ts : List T} {vs : List V}, Reps D G2 ts vs → Post D φ W G1 σ (PVs D σ Q) ((g ρ1).bind fun ys ρ2 => .ok (ts.map EV.val ++ ys) ρ2) → rdA D φ W g σ H1 fun ys H2 => Q (vs ++ ys) H2 := fun {ts vs} h2 p => by
      refine ⟨G2, ρ1, r2, Post.imp (Post.bind (Post.weak s2 p)) fun ys ρ2 G3 H3 s3 r3 p3 ws hws => ?_⟩
      exact p3 G3 H3 (.refl _) r3 _ ((hlds_items (h2.mono s3)).app hws)
    cases e1 : deref ρ1 x with
    | none => rw [e1] at p1; exact p1.elim
    | some t =>
      rw [e1] at p1
      have ht := hx.use r2 e1
      cases t with
      | lst ts =>
        obtain ⟨c, vs, rfl, h1, h2⟩ := ht
        exact ⟨c, vs, rfl, .inr (.of h1), go h2 p1⟩
      | sq ts =>
        obtain ⟨c, vs, rfl, h1, h2⟩ := ht
        exact ⟨c, vs, rfl, .inr (by rw [hK]; exact same_l r2.sub h1), go h2 p1⟩
      | tup ts =>
        obtain ⟨c, vs, rfl, h1, h2⟩ := ht
        exact ⟨c, vs, rfl, .inl (by rw [hK]; exact same_t r2.sub h1), go h2 p1⟩
      | _ => exact p1.elim⟩

/-! ### x += e, numbers -/
def sAug (i : Nat) (g : Int → Int → Int) (fa : EF) : SF := fun ρ => match ρ[i]? with
  | some (.val (.int a)) => (fa ρ).bind fun y ρ1 => (match deref ρ1 y with
    | some (.int b) => .ok .nx (ρ1.set i (.val (.int (g a b))))
    | _ => .bad)
  | _ => .bad
theorem s_aug {i : Nat} {x : Str} {op : Operator} {g : Int → Int → Int} {pos' : Pos} (ho : PIp X op (ipI g)) (hN : X.N.Nodup) (hi : X.N[i]? = some x) (hx : Loc X.env.scope x) (he : EX X D φ W e fa)
    (hf : X.fn x = true ∨ X.env.scope.names.lookup x = some .local := by first | exact .inl rfl | exact .inr rfl | assumption) : SX X D φ W (.AugAssign (.Name x pos') op e pos) (sAug i g fa) :=
  ⟨ps_mono (ps_aug hN hi hx he.pe ho hf) fun E σ H ⟨G, ρ, r, p⟩ => by
    unfold sAug at p
    split at p
    · rename_i a q
      obtain ⟨v, hv, rv⟩ := r.slot i _ q
      cases (show v = .int a from rv)
      refine ⟨_, hv, G, ρ, r, Post.imp (PostS.bind p) fun y ρ1 G1 H1 s1 r1 p1 w hw => ?_⟩
      obtain ⟨G2, s2, r2, hh⟩ := settle r1 hw
      split at p1
      · rename_i b e2
        have hu := hh.use r2 e2
        cases (show w = .int b from hu)
        exact ⟨a, b, rfl, rfl, p1 G2 _ H1 s2 (r2.store (i := i) (v := .int (g a b)) (t := .int (g a b)) rfl)⟩
      · exact p1.elim
    · exact p.elim⟩
end
end VI

set_option Elab.async false
set_option linter.all false
set_option maxRecDepth 100000
set_option maxHeartbeats 4000000
namespace VI
open PySem L2 PySem.Spec PyProof.Rows
/-! ### C.m(..), m a staticmethod -/
structure StatM (K : PySem.W.Frag) (C : Addr) (m : Str) (f : Addr) : Prop where
  ga : PySem.W.specialIn K (.ref C) "__getattribute__" = some (some (.builtin "type.__getattribute__"))
  rd : PySem.W.readsIn K C (.type "type") = true
  at_ : ∃ p, PySem.W.findCls K (.ref C) (.type "type") m = some (.get (.builtin "staticmethod.__get__") (.ref p) .none (.ref C)) ∧ ∃ rest, PySem.W.recIn K p "staticmethod" = some (.ref f :: rest)
  ty : PySem.W.typeIn K (.ref C) = some (.type "type")
  kp : PySem.W.keepIn K (.ref f) = true
section
variable {X : Cx} {D : Wd} {φ : Fr} {W : WX} {e : Expr} {es : List Expr} {ga : AF} {x m : Str} {mm : Ro → R EV} {ms : List Md} {C f : Addr} {k : Nat} {fd : FuncData} {ps : List Str} {pos apos p : Pos}
theorem pe_static {sp : Sp} {t : TA} {E : L2.St → XK} {pl : Sem Bool} (S : StatM X.K C m f) (hg : Gl X x) (hm : X.mg x = some (.ref C)) (F : FnOk X.prog X.w X.K X.mg X.base (L2.CX X.prog X.w) k f fd ps sp) (hr : Room k X.A) (hb : Binds X.K fd ps []) (hx : ∀ σ, PassesAt (L2.CX X.prog X.w) X σ (E σ)) (ha : PA X (e :: es) t)
    (hst : starEach (e :: es) X.env = (false, eval e X.env) :: starEach es X.env) (hpl : (backTo pos (starEach es X.env)).any (·.1) = false) (hdb : (x == ("__debug__" : Str)) = false)
    (ht : eval (.Call (.Attribute (.Name x p) m apos) (e :: es) [] pos) X.env = (do
      let ov ← eval (.Name x p) X.env
      standAt apos.atName
      let (f, first) ← holding [ov] (getMethod ov m pl)
      callWith pos f first (backTo pos (starEach (e :: es) X.env)) (backToKw pos (keywordEach [] X.env)))) : PE X (.Call (.Attribute (.Name x p) m apos) (e :: es) [] pos) (tCallS sp E t) := by
  obtain ⟨q, h1, rest, h2⟩ := S.at_
  constructor
  intro pins s σ H Q I h
  refine PySem.W.methodCall_KW (pl := pl) (ld_glob I hg hm ?_ hdb) ht
  obtain ⟨mm, fr⟩ := I.fr
  refine PySem.W.method_of_cls fr I.ok.mod.kin S.ga (PySem.W.cls_sm fr I.ok.mod.kin S.ty S.rd h1 h2 rfl ?_)
  have I1 := I.tok (s.toks + 1)
  exact PySem.W.callWith_K (h₀ := X.base) I1.ok.mod.kin S.kp (thn (ha.run pos pins _ σ H _ I1 h) fun us s1 ⟨vs, H1, I2, r, z⟩ => ⟨I2.kIn, run_fnS F hr hb (hx σ) I2 r z⟩) hst hpl
theorem e_static {pl : Sem Bool} (tk : Takes X W) (S : StatM X.K C m f) (F : FnOk X.prog X.w X.K X.mg X.base (L2.CX X.prog X.w) k f fd ps (spM D ms.length mm)) (hr : Room k X.A) (hg : Gl X x) (hm : X.mg x = some (.ref C)) (hb : Binds X.K fd ps []) (ha : AX X D φ W (e :: es) ga)
    (hst : starEach (e :: es) X.env = (false, eval e X.env) :: starEach es X.env := by rfl) (hpl : (backTo pos (starEach es X.env)).any (·.1) = false := by rfl) (hdb : (x == ("__debug__" : Str)) = false := by decide)
    (ht : eval (.Call (.Attribute (.Name x p) m apos) (e :: es) [] pos) X.env = (do
      let ov ← eval (.Name x p) X.env
      standAt apos.atName
      let (f, first) ← holding [ov] (getMethod ov m pl)
      callWith pos f first (backTo pos (starEach (e :: es) X.env)) (backToKw pos (keywordEach [] X.env))) := by rfl) :
    EX X D φ W (.Call (.Attribute (.Name x p) m apos) (e :: es) [] pos) (eCall ms mm ga) :=
  ⟨pe_mono (pe_static S hg hm F hr hb (fun σ => passAt tk σ) ha.pa hst hpl hdb ht) fun σ H Q ⟨G, ρ, r, pp⟩ =>
    ⟨G, ρ, r, Post.imp (Post.bind pp) fun xs ρ1 G1 H1 s1 r1 p1 vs hvs => call_sp r1 hvs (fun _ _ _ h => h) (.refl _) p1⟩⟩
end
end VI

set_option Elab.async false
set_option linter.all false
set_option maxRecDepth 100000
set_option maxHeartbeats 4000000
namespace VI
open PySem L2 PySem.Spec PyProof.Rows
/-! ### [e for a in x if .. for b in y if ..] -/
def loopC2 (g : T → Ro → Option Ro) (test : TF) (fi1 : Ro → R (List T)) (g1 : T → Ro → Option Ro) (test1 : TF) (fe : EF) (vs vs1 : List Nat) : List T → List T → Ro → R EV
  | [], acc, ρ => .ok (.own acc) ρ
  | t :: ts, acc, ρ => match g t (wipeR ρ vs) with
    | none => .bad
    | some ρ2 => match test ρ2 with
      | .ok b ρ3 => if b = true then (match fi1 ρ3 with
          | .ok us ρ4 => if plainAt ρ4 vs1 = true ∧ acc.length + us.length ≤ 100000 then (match loopC g1 test1 fe vs1 us acc ρ4 with
              | .ok (.own acc') ρ5 => loopC2 g test fi1 g1 test1 fe vs vs1 ts acc' (backR ρ vs ρ5)
              | _ => .bad) else .bad
          | _ => .bad) else loopC2 g test fi1 g1 test1 fe vs vs1 ts acc (backR ρ vs ρ3)
      | _ => .bad
def eLc2 (fi : Ro → R (List T)) (g : T → Ro → Option Ro) (test : TF) (fi1 : Ro → R (List T)) (g1 : T → Ro → Option Ro) (test1 : TF) (fe : EF) (vs vs1 : List Nat) : EF := fun ρ => (fi ρ).bind fun ts ρ1 => if plainAt ρ1 vs = true then loopC2 g test fi1 g1 test1 fe vs vs1 ts [] ρ1 else .bad
def PIex (D : Wd) (f : Ro → R (List T)) : TI := fun σ H S => ∃ φ : Fr, rdI D φ W0 f σ H S
theorem pi_ex {X : Cx} {D : Wd} {tg e : Expr} {f : Ro → R (List T)} (h : ∀ φ, IX X D φ W0 tg e f) : PI X tg e (PIex D f) := ⟨fun pins s σ H S I ⟨φ, q⟩ => (h φ).pi.run pins s σ H S I q⟩
theorem walk_start {J : It} {n : Nat} {Gp : Hp → Prop} {Y : Nat → Hp → V → Hp → Prop} (w : Walk J n Gp Y) {H0 : Hp} {Z : Nat → Hp → (Hp → Prop) → V → Hp → Prop} {End : Hp → Prop} (Pv : Nat → Hp → Prop) (h0 : Pv 0 H0) (hG : ∀ i H, i ≤ n → Pv i H → Gp H)
    (hs : ∀ i x H H', i < n → Pv i H → Y i H x H' → Z i H (Pv (i + 1)) x H') (hd : ∀ H, Pv n H → End H) :
    ∃ W : Nat → Nat → Hp → Prop, (∃ m, W 0 m H0) ∧ ∀ j k H, W j k H → (J.stop j H ∧ End H) ∨ (J.go j H ∧ ∃ Nx1 : Hp → Prop, (∀ H', Nx1 H' → ∃ k', k' < k ∧ W (j + 1) k' H') ∧ ∀ x H', J.yld j H x H' → Z j H Nx1 x H') := by
  refine ⟨fun j k H => k = n - j ∧ j ≤ n ∧ Pv j H, ⟨n, rfl, Nat.zero_le _, h0⟩, ?_⟩
  rintro j k H ⟨rfl, hj, p⟩
  have q := hG j H hj p
  by_cases hlt : j < n
  · exact .inr ⟨w.goes j H hlt q, Pv (j + 1), fun H' p' => ⟨n - (j + 1), by omega, rfl, hlt, p'⟩, fun x H' y => hs j x H H' hlt p (w.yields j H x H' hlt q y)⟩
  · have e : j = n := by omega
    subst e
    exact .inl ⟨w.stops H q, hd H p⟩
def afterI (D : Wd) (φ : Fr) (W : WX) (σ : L2.St) (Q : EV → Ro → Hp → Hp → Prop) (k : List T → Ro → R EV) : EV → Ro → Hp → Hp → Prop := fun x ρ G _ => match x with
  | .own acc => Post D φ W G σ Q (k acc ρ)
  | _ => False
section
variable {D : Wd}
theorem lc2_turn {φ : Fr} {G2 : Hp} {σ : L2.St} {ρ : Ro} {H H' : Hp} {g g1 : T → Ro → Option Ro} {test test1 : TF} {fi1 : Ro → R (List T)} {fe : EF} {vs vs1 ix ix1 : List Nat} {W : WX} {G : Hp} {L : Addr} {acc : List T} {ys : List V} {t : T} {ts : List T} {x : V} {Q : EV → Ro → Hp → Hp → Prop} {Nx : Hp → Prop}
    (r : Rel D φ G σ ρ H) (sub : Same G2 G) (hL : H L = some (.lst ys)) (hG : G L = none) (hH : φ.H L = none) (hp : φ.pin L = none) (nm : ∀ i, ¬ MutAt σ ρ i L) (pl : plainAt ρ vs = true) (hix : ∀ i ∈ ix, i ∈ vs) (hix1 : ∀ i ∈ ix1, i ∈ vs1) (ra : Reps D G acc ys)
    (hY : ∀ φ : Fr, YOk D φ G2 t H x H') (sH : Same H H') (p : Post D φ W G σ Q (loopC2 g test fi1 g1 test1 fe vs vs1 (t :: ts) acc ρ))
    (next : ∀ G' ρ' H' acc' ys', Same G G' → Rel D φ G' σ ρ' H' → H' L = some (.lst ys') → G' L = none → (∀ i, ¬ MutAt σ ρ' i L) → plainAt ρ' vs = true → Reps D G' acc' ys' → Post D φ W G' σ Q (loopC2 g test fi1 g1 test1 fe vs vs1 ts acc' ρ') → Nx H') :
    PGex D ix g x (wipe σ vs) H' fun σ2 H2 => wipe σ2 vs = wipe σ vs ∧ PTex D test σ2 H2 fun b H3 =>
      if b = true then PIex D fi1 σ2 H3 fun J1 H4 => ∃ W1 : Nat → Nat → Hp → Prop, (∃ m, W1 0 m H4) ∧ ∀ j k H, W1 j k H →
        (J1.stop j H ∧ Nx H) ∨ (J1.go j H ∧ ∃ Nx1 : Hp → Prop, (∀ H', Nx1 H' → ∃ k', k' < k ∧ W1 (j + 1) k' H') ∧ ∀ x H', J1.yld j H x H' → PGex D ix1 g1 x (wipe σ2 vs1) H' fun σ3 H5 => wipe σ3 vs1 = wipe σ2 vs1 ∧ PTex D test1 σ3 H5 fun b H6 =>
          if b = true then PEex D fe σ3 H6 fun y H7 => ∃ acc, H7 L = some (.lst acc) ∧ acc.length < sizeLine ∧ Nx1 (upd H7 L (.lst (acc ++ [y]))) else Nx1 H6)
      else Nx H3 := by
  have rb := r.block vs hL hG nm
  obtain ⟨G1, s1, r1, hx⟩ := (hY _).to G (wipe σ vs) (wipeR ρ vs) sub rb
  rw [loopC2] at p
  cases e1 : g t (wipeR ρ vs) with
  | none => rw [e1] at p; exact p.elim
  | some ρ2 =>
    simp only [e1] at p
    refine ⟨_, G1, wipeR ρ vs, t, r1, hx, ρ2, e1, fun σ2 ag r2 => ⟨wipe_agr ag hix, ?_⟩⟩
    have hw : wipe σ2 vs = wipe σ vs := wipe_agr ag hix
    refine ⟨_, G1, ρ2, r2, ?_⟩
    have plb : ∀ (ρ' : Ro), plainAt (backR ρ vs ρ') vs = true := fun ρ' => List.all_eq_true.mpr fun v hv => by
      have pv := List.all_eq_true.mp pl v hv
      cases q : (backR ρ vs ρ')[v]? with
      | none => rw [List.getD_eq_getElem?_getD, q]; rfl
      | some s =>
        rw [List.getD_eq_getElem?_getD, q]
        rcases backR_get q with ⟨_, e⟩ | ⟨n, _⟩
        · rw [show (some s).getD Sl.no = s from rfl, e]; exact pv
        · exact absurd hv n
    have leave : ∀ {G' : Hp} {ρ' : Ro} {H' : Hp} {ys : List V}, Same G1 G' → Rel D { φ with pin := upd φ.pin L (.lst ys) } G' σ2 ρ' H' → Rel D φ G' σ (backR ρ vs ρ') H' ∧ H' L = some (.lst ys) ∧ G' L = none ∧ ∀ i, ¬ MutAt σ (backR ρ vs ρ') i L := fun {G' ρ' H' ys} s' r' => by
      obtain ⟨q1, q2⟩ := r'.pin L (.lst ys) upd_same
      refine ⟨r'.unblock hw r hp (s1.trans s') pl, q1, q2, fun i mi => ?_⟩
      obtain ⟨⟨u, h1, h2⟩, h3⟩ := mi
      rcases backR_get h1 with ⟨n, rfl⟩ | ⟨n, e⟩
      · exact (plain_mut (List.all_eq_true.mp pl _ n) h2).elim
      · have e3 : σ[i]? = σ2[i]? := by
          have := congrArg (·[i]?) hw
          simp only [wipe_get n] at this
          exact this.symm
        have z := r'.pinM i L ⟨⟨u, e, h2⟩, by rw [← e3]; exact h3⟩
        have z' : upd φ.pin L (.lst ys) L = none := z
        rw [upd_same] at z'; cases z'
    cases e2 : test ρ2 with
    | bad => simp only [e2] at p; exact p.elim
    | ex c ks us ρ3 => simp only [e2] at p; exact p.elim
    | ok b ρ3 =>
      simp only [e2] at p
      intro G3 H3 s3 r3
      cases b with
      | false =>
        simp only [Bool.false_eq_true, if_false] at p ⊢
        obtain ⟨l1, l2, l3, l4⟩ := leave s3 r3
        exact next G3 _ H3 acc ys (s1.trans s3) l1 l2 l3 l4 (plb _) (ra.mono (s1.trans s3)) (Post.weak (s1.trans s3) p)
      | true =>
        simp only [if_true] at p ⊢
        refine ⟨_, G3, ρ3, r3, ?_⟩
        cases e3 : fi1 ρ3 with
        | bad => simp only [e3] at p; exact p.elim
        | ex c ks us ρ4 => simp only [e3] at p; exact p.elim
        | ok us ρ4 =>
          simp only [e3] at p
          intro G4 H4 s4 r4 J1 G5 s5 r5 it
          split at p
          · rename_i cond
            obtain ⟨pl1, few⟩ := cond
            obtain ⟨ru, lu1, lu2, lu3⟩ := r5.pinDown hp r.pnOk
            obtain ⟨Gp, Y, w, hGp, hYs⟩ := it
            have s15 : Same G1 G5 := (s3.trans s4).trans s5
            have pu : PinUp { φ with pin := upd φ.pin L (.lst ys) } φ := fun i a o h1 h2 => by
              obtain ⟨o', ho⟩ := r.pnOk i a h1
              have ne : a ≠ L := fun z => by subst z; rw [hp] at ho; cases ho
              exact (upd_ne ne).symm.trans h2
            have inner : Post D φ W0 G5 σ2 (afterI D φ W σ Q fun acc' ρ5 => loopC2 g test fi1 g1 test1 fe vs vs1 ts acc' (backR ρ vs ρ5)) (loopC g1 test1 fe vs1 us acc ρ4) := by
              cases e4 : loopC g1 test1 fe vs1 us acc ρ4 with
              | bad => simp only [e4] at p; exact p
              | ex c ks us ρ5 => simp only [e4] at p; exact p.elim
              | ok x ρ5 =>
                simp only [e4] at p
                unfold afterI
                cases x with
                | own acc' => exact fun G6 H6 s6 _ => Post.weak ((s1.trans s15).trans s6) p
                | val t => exact p.elim
                | pk i => exact p.elim
            refine walk_start w (fun j H => ∃ G ρ' acc' ys', Same G5 G ∧ Rel D φ G σ2 ρ' H ∧ H L = some (.lst ys') ∧ G L = none ∧ (∀ i, ¬ MutAt σ2 ρ' i L) ∧ plainAt ρ' vs1 = true ∧ Reps D G acc' ys' ∧ acc'.length ≤ acc.length + j ∧
                Post D φ W0 G σ2 (afterI D φ W σ Q fun acc' ρ5 => loopC2 g test fi1 g1 test1 fe vs vs1 ts acc' (backR ρ vs ρ5)) (loopC g1 test1 fe vs1 (us.drop j) acc' ρ'))
              (Z := fun _ _ Nx1 x H' => PGex D ix1 g1 x (wipe σ2 vs1) H' fun σ3 H5 => wipe σ3 vs1 = wipe σ2 vs1 ∧ PTex D test1 σ3 H5 fun b H6 => if b = true then PEex D fe σ3 H6 fun y H7 => ∃ acc, H7 L = some (.lst acc) ∧ acc.length < sizeLine ∧ Nx1 (upd H7 L (.lst (acc ++ [y]))) else Nx1 H6)
              ⟨G5, ρ4, acc, ys, .refl _, ru, lu1, lu2, lu3, pl1, ra.mono (s1.trans s15), Nat.le_refl _, inner⟩
              (fun j H _ ⟨G, ρ', _, _, s, r, _⟩ => hGp φ G σ2 ρ' H pu s r) ?_ ?_
            · rintro j x1 Hj Hj' hj ⟨G6, ρ6, acc6, ys6, s6, r6, m1, m2, m3, m4, m5, m6, p6⟩ y
              have ht' : us[j]? = some us[j] := by simp [hj]
              obtain ⟨hY1, hY2⟩ := hYs j Hj x1 Hj' _ ht' (s6.trans r6.sub) y
              rw [List.drop_eq_getElem_cons hj] at p6
              refine lc_turn (Nx := fun H => _) r6 s6 m1 m2 hH hp m3 m4 hix1 m5 hY1 hY2 ?_ p6 fun G' ρ' H' acc' ys' s' r' k1 k2 k3 k4 k5 k6 p' => ⟨G', ρ', acc', ys', s6.trans s', r', k1, k2, k3, k4, k5, by omega, p'⟩
              rw [m5.len, sizeLine_eq]; omega
            · rintro Hj ⟨G6, ρ6, acc6, ys6, s6, r6, m1, m2, m3, m4, m5, m6, p6⟩
              rw [List.drop_length] at p6
              have p7 := p6 G6 Hj (.refl _) r6
              obtain ⟨l1, l2, l3, l4⟩ := leave (s15.trans s6) (r6.pinUp m1 m2 hp m3)
              exact next G6 _ Hj acc6 ys6 ((s1.trans s15).trans s6) l1 l2 l3 l4 (plb _) m5 p7
          · exact p.elim
theorem lc2_rd {φ : Fr} {W : WX} {fi fi1 : Ro → R (List T)} {g g1 : T → Ro → Option Ro} {test test1 : TF} {fe : EF} {ix ix1 vs vs1 : List Nat} (hix : ∀ i ∈ ix, i ∈ vs) (hix1 : ∀ i ∈ ix1, i ∈ vs1) {σ : L2.St} {H : Hp} {Q : VK} (h : rdE D φ W (eLc2 fi g test fi1 g1 test1 fe vs vs1) σ H Q) :
    tLc2 (rdI D φ W fi) (PGex D ix g) (PTex D test) (PIex D fi1) (PGex D ix1 g1) (PTex D test1) (PEex D fe) vs vs1 σ H Q := by
    obtain ⟨G, ρ, r, p⟩ := h
    refine ⟨G, ρ, r, Post.imp (Post.bind p) fun ts ρ1 G1 H1 s1 r1 p1 J G2 s2 r2 it L hL => ?_⟩
    split at p1
    · rename_i pl
      obtain ⟨Gp, Y, w, hG, hY⟩ := it
      have hH := r2.gone hL
      have hp := r2.gonePin hL
      refine walk_start w (fun i H => ∃ G ρ acc ys, Same G2 G ∧ Rel D φ G σ ρ H ∧ H L = some (.lst ys) ∧ G L = none ∧ (∀ i, ¬ MutAt σ ρ i L) ∧ plainAt ρ vs = true ∧ Reps D G acc ys ∧ Post D φ W G σ (PV D φ σ Q) (loopC2 g test fi1 g1 test1 fe vs vs1 (ts.drop i) acc ρ))
        (Z := fun _ _ Nx x H' => PGex D ix g x (wipe σ vs) H' fun σ2 H2 => wipe σ2 vs = wipe σ vs ∧ PTex D test σ2 H2 fun b H3 =>
          if b = true then PIex D fi1 σ2 H3 fun J1 H4 => ∃ W1 : Nat → Nat → Hp → Prop, (∃ m, W1 0 m H4) ∧ ∀ j k H, W1 j k H →
            (J1.stop j H ∧ Nx H) ∨ (J1.go j H ∧ ∃ Nx1 : Hp → Prop, (∀ H', Nx1 H' → ∃ k', k' < k ∧ W1 (j + 1) k' H') ∧ ∀ x H', J1.yld j H x H' → PGex D ix1 g1 x (wipe σ2 vs1) H' fun σ3 H5 => wipe σ3 vs1 = wipe σ2 vs1 ∧ PTex D test1 σ3 H5 fun b H6 =>
              if b = true then PEex D fe σ3 H6 fun y H7 => ∃ acc, H7 L = some (.lst acc) ∧ acc.length < sizeLine ∧ Nx1 (upd H7 L (.lst (acc ++ [y]))) else Nx1 H6)
          else Nx H3)
        ⟨G2, ρ1, [], [], .refl _, r2.grow (Same.fresh_up hL), upd_same, same_none r2.sub hL, r2.not_mut hL, pl, .nil, Post.weak s2 p1⟩
        (fun i H _ ⟨G, ρ, _, _, s, r, _⟩ => hG φ G σ ρ H (PinUp.refl _) s r) ?_ ?_
      · rintro i x H H' hi ⟨G3, ρ3, acc, ys, s3, r3, l1, l2, l3, l4, l5, p3⟩ y
        have ht' : ts[i]? = some ts[i] := by simp [hi]
        obtain ⟨hY1, hY2⟩ := hY i H x H' _ ht' (s3.trans r3.sub) y
        rw [List.drop_eq_getElem_cons hi] at p3
        exact lc2_turn (Nx := fun H => _) r3 s3 l1 l2 hH hp l3 l4 hix hix1 l5 hY1 hY2 p3 fun G' ρ' H' acc' ys' s' r' k1 k2 k3 k4 k5 p' => ⟨G', ρ', acc', ys', s3.trans s', r', k1, k2, k3, k4, k5, p'⟩
      · rintro H ⟨G3, ρ3, acc, ys, s3, r3, l1, l2, l3, l4, l5, p3⟩
        rw [List.drop_length] at p3
        exact p3 G3 H (.refl _) r3 _ ⟨L, ys, rfl, l1, l2, hH, hp, l5, l3⟩
    · exact p1.elim
theorem e_lc2 {X : Cx} {φ : Fr} {W : WX} {elt tg iter tg1 iter1 : Expr} {ifs ifs1 : List Expr} {scope : Scope} {own : List (Str × Nat)} {pos : Pos} {fi fi1 : Ro → R (List T)} {g g1 : T → Ro → Option Ro} {test test1 : TF} {fe : EF} {ix ix1 vs1 : List Nat} (hc : X.calm = true) (hN : X.N.Nodup) (hi : IX X D φ W tg iter fi) (ok : BlkOk X.N X.env.scope scope own)
    (hix : ∀ i ∈ ix, i ∈ own.map (·.2)) (hix1 : ∀ i ∈ ix1, i ∈ vs1) (hv : ∀ i ∈ vs1, i ∈ own.map (·.2))
    (hg : ∀ (s : Shared) (H : Hp) (C : Addr) (cl : List (Str × Addr)) (fp : List Addr) (φ : Fr), GX (X.blk s H scope (compEnvC scope cl C X.env) fp) D φ ix tg g) (ht : ∀ (s : Shared) (H : Hp) (C : Addr) (cl : List (Str × Addr)) (fp : List Addr), PTs (X.blk s H scope (compEnvC scope cl C X.env) fp) ifs (PTex D test))
    (hi1 : ∀ (s : Shared) (H : Hp) (C : Addr) (cl : List (Str × Addr)) (fp : List Addr) (φ : Fr), IX (X.blk s H scope (compEnvC scope cl C X.env) fp) D φ W0 tg1 iter1 fi1)
    (hg1 : ∀ (s : Shared) (H : Hp) (C : Addr) (cl : List (Str × Addr)) (fp : List Addr) (φ : Fr), GX (X.blk s H scope (compEnvC scope cl C X.env) fp) D φ ix1 tg1 g1) (ht1 : ∀ (s : Shared) (H : Hp) (C : Addr) (cl : List (Str × Addr)) (fp : List Addr), PTs (X.blk s H scope (compEnvC scope cl C X.env) fp) ifs1 (PTex D test1))
    (he : ∀ (s : Shared) (H : Hp) (C : Addr) (cl : List (Str × Addr)) (fp : List Addr) (φ : Fr), EX (X.blk s H scope (compEnvC scope cl C X.env) fp) D φ W0 elt fe) (hs : ∀ x, foldedSetIterable iter X.env x = pure x := by intro _; rfl) (hs1 : ∀ env x, foldedSetIterable iter1 env x = pure x := by intro _ _; rfl) :
    EX X D φ W (.ListComp elt [⟨tg, iter, ifs, 0⟩, ⟨tg1, iter1, ifs1, 0⟩] scope pos) (eLc2 fi g test fi1 g1 test1 fe (own.map (·.2)) vs1) :=
  ⟨pe_mono (pe_lc2 hc hN hi.pi ok hv (fun s H C cl fp => pg_ex (hg s H C cl fp)) ht (fun s H C cl fp => pi_ex (hi1 s H C cl fp)) (fun s H C cl fp => pg_ex (hg1 s H C cl fp)) ht1 (fun s H C cl fp => pe_ex (he s H C cl fp)) hs hs1) fun σ H Q h => lc2_rd hix hix1 h⟩
theorem s_setLc2 {X : Cx} {φ : Fr} {W : WX} {i : Nat} {y : Str} {py : Pos} {elt tg iter tg1 iter1 : Expr} {ifs ifs1 : List Expr} {scope : Scope} {own : List (Str × Nat)} {pos spos : Pos} {fi fi1 : Ro → R (List T)} {g g1 : T → Ro → Option Ro} {test test1 : TF} {fe : EF} {ix ix1 vs1 : List Nat} (hc : X.calm = true) (hN : X.N.Nodup) (hy : X.N[i]? = some y) (hyl : X.env.scope.names.lookup y = some .local)
    (hi : IX X D φ W tg iter fi) (ok : BlkOk X.N X.env.scope scope own)
    (hix : ∀ i ∈ ix, i ∈ own.map (·.2)) (hix1 : ∀ i ∈ ix1, i ∈ vs1) (hv : ∀ i ∈ vs1, i ∈ own.map (·.2))
    (hg : ∀ (s : Shared) (H : Hp) (C : Addr) (cl : List (Str × Addr)) (fp : List Addr) (φ : Fr), GX (X.blk s H scope (compEnvC scope cl C X.env) fp) D φ ix tg g) (ht : ∀ (s : Shared) (H : Hp) (C : Addr) (cl : List (Str × Addr)) (fp : List Addr), PTs (X.blk s H scope (compEnvC scope cl C X.env) fp) ifs (PTex D test))
    (hi1 : ∀ (s : Shared) (H : Hp) (C : Addr) (cl : List (Str × Addr)) (fp : List Addr) (φ : Fr), IX (X.blk s H scope (compEnvC scope cl C X.env) fp) D φ W0 tg1 iter1 fi1)
    (hg1 : ∀ (s : Shared) (H : Hp) (C : Addr) (cl : List (Str × Addr)) (fp : List Addr) (φ : Fr), GX (X.blk s H scope (compEnvC scope cl C X.env) fp) D φ ix1 tg1 g1) (ht1 : ∀ (s : Shared) (H : Hp) (C : Addr) (cl : List (Str × Addr)) (fp : List Addr), PTs (X.blk s H scope (compEnvC scope cl C X.env) fp) ifs1 (PTex D test1))
    (he : ∀ (s : Shared) (H : Hp) (C : Addr) (cl : List (Str × Addr)) (fp : List Addr) (φ : Fr), EX (X.blk s H scope (compEnvC scope cl C X.env) fp) D φ W0 elt fe)
    (hsw : swapsWith (.ListComp elt [⟨tg, iter, ifs, 0⟩, ⟨tg1, iter1, ifs1, 0⟩] scope pos) (some (.Name y py)) spos.line X.env = pure true := by rfl) (hs : ∀ x, foldedSetIterable iter X.env x = pure x := by intro _; rfl) (hs1 : ∀ env x, foldedSetIterable iter1 env x = pure x := by intro _ _; rfl) :
    SX X D φ W (.Assign [.Name y py] (.ListComp elt [⟨tg, iter, ifs, 0⟩, ⟨tg1, iter1, ifs1, 0⟩] scope pos) spos) (sSet i (eLc2 fi g test fi1 g1 test1 fe (own.map (·.2)) vs1)) :=
  ⟨ps_mono (ps_setLc2 hc hN hy hyl hsw hi.pi ok hv (fun s H C cl fp => pg_ex (hg s H C cl fp)) ht (fun s H C cl fp => pi_ex (hi1 s H C cl fp)) (fun s H C cl fp => pg_ex (hg1 s H C cl fp)) ht1 (fun s H C cl fp => pe_ex (he s H C cl fp)) hs hs1) fun E σ H ⟨G, ρ, r, p⟩ => by
    refine lc2_rd (φ := φ) (W := W) hix hix1 ⟨G, ρ, r, Post.imp (PostS.bind p) fun x ρ1 G1 H1 s1 r1 p1 v hv => ?_⟩
    cases x with
    | val t => exact p1 G1 _ H1 (.refl _) (r1.store hv)
    | own xs => exact p1 G1 _ H1 (.refl _) (r1.storeOwn hv)
    | pk i => exact p1.elim⟩
end
end VI

set_option Elab.async false
set_option linter.all false
set_option maxRecDepth 100000
set_option maxHeartbeats 4000000
namespace VI
open PySem L2 PySem.Spec PyProof.Rows
section
variable {X : Cx} {D : Wd} {φ : Fr} {W : WX} {e a b : Expr} {fa fb : EF} {pos p : Pos} {m : Ro → R EV} {k : Nat} {f : Addr} {fd : FuncData} {ps : List Str} {sp : Sp} {CX : CXT}
theorem e_ownNotIn {c : Nat} (tk : Takes X W) (O : OwnM D.K (D.ca c) "__contains__" f) (F : FnOk X.prog X.w X.K X.mg X.base (L2.CX X.prog X.w) k f fd ps (spM D 2 m)) (hr : Room k X.A) (hb : Binds X.K fd ps []) (ha : EX X D φ W a fa) (hb' : EX X D φ W b fb) (hm : behindInMarks .NotIn b = false := by rfl) (hK : X.K = D.K := by rfl) :
    EX X D φ W (.Compare a [.NotIn] [b] pos) (eOwnIn true c m fa fb) :=
  ⟨⟨fun pins s σ H Q I h => wpAny_Compare1 (binT ha.pe hb'.pe I (ownIn_rd h) fun v u s2 x y H2 I2 rx ry q => own_in (neg := true) tk O F hr hb hK I2 rx ry q) hm⟩⟩
theorem t_ownNotIn {c : Nat} (tk : Takes X W) (O : OwnM D.K (D.ca c) "__contains__" f) (F : FnOk X.prog X.w X.K X.mg X.base (L2.CX X.prog X.w) k f fd ps (spM D 2 m)) (hr : Room k X.A) (hb : Binds X.K fd ps []) (ha : EX X D φ W a fa) (hb' : EX X D φ W b fb) (hm : behindInMarks .NotIn b = false := by rfl) (hK : X.K = D.K := by rfl) :
    TX X D φ W (.Compare a [.NotIn] [b] pos) (tOf (eOwnIn true c m fa fb)) :=
  t_cmp_of (fun _ _ _ h => ownIn_rd h) ha hb' (fun I rx ry q => own_in (neg := true) tk O F hr hb hK I rx ry q) hm
end
end VI

set_option Elab.async false
set_option linter.all false
set_option maxRecDepth 100000
set_option maxHeartbeats 4000000
namespace VI
open PySem L2 PySem.Spec PyProof.Rows
/-! ### an own property, read -/
def noX (m : Ro → R EV) : Ro → R EV := fun ρ => match m ρ with
  | .ex _ _ _ _ => .bad
  | r => r
theorem noX_sp {D : Wd} {n : Nat} {m : Ro → R EV} {vs : List V} {H : Hp} {Q : VK} {E E' : XK} (h : spM D n (noX m) vs H Q E) : spM D n m vs H Q E' := by
  obtain ⟨φ, ρ, h1, h2, h3, h4⟩ := h
  refine ⟨φ, ρ, h1, h2, h3, ?_⟩
  unfold noX at h4
  cases e : m ρ with
  | ok x ρ1 => rw [e] at h4; exact h4
  | ex c ks ts ρ1 => rw [e] at h4; exact h4.elim
  | bad => rw [e] at h4; exact h4.elim
section
variable {X : Cx} {D : Wd} {φ : Fr} {W : WX} {o : Expr} {fo : EF} {pos : Pos} {m : Ro → R EV} {k : Nat} {g : Addr} {fd : FuncData} {ps : List Str} {f : Str}
theorem e_prop {c : Nat} (hC : Cls D.K (D.ca c)) (hp : ∃ p, PropOf D.K (D.ca c) f p g) (F : FnOk X.prog X.w X.K X.mg X.base (L2.CX X.prog X.w) k g fd ps (spM D 1 m)) (hr : Room (k + 1) X.A) (hb : Binds X.K fd ps []) (ho : EX X D φ W o fo)
    (hab : attributeBase o f X.env (eval o X.env) = eval o X.env := by rfl) (hK : X.K = D.K := by rfl) :
    EX X D φ W (.Attribute o f pos) (eOwn1 c (noX m) fo) :=
  ⟨⟨fun pins s σ H Q I h => attr_of hab (thn (ho.pe.run pins s σ H _ I (own1_rd h)) fun u s1 ⟨x, H1, I1, rx, q1⟩ => by
    obtain ⟨a, dx, fs, rfl, ha, hsp⟩ := q1
    cases rx
    obtain ⟨p, hp⟩ := hp
    rw [← hK] at hC hp
    have hsp : spM D 1 m [.ref a] H1 Q (fun _ _ _ => False) := noX_sp hsp
    obtain ⟨mA, O, _, _, _, _⟩ := ins_get I1.hok ha
    obtain ⟨od, J, _⟩ := O.look
    obtain ⟨rest, hrec⟩ := hp.rec_
    have I2 := I1.tok (s1.toks + 1)
    have hl : ([Value.ref a] : List Value).length = ps.length := F.len _ _ _ _ hsp
    have hc : (PySem.W.clsIn X.K (D.ca c)).isSome = true := by
      obtain ⟨cd, hc, _⟩ := PySem.W.any_some hC.hd
      rw [hc]
      rfl
    have hb' := hb _ [.ref a] I2.kIn (by rw [List.append_nil]; exact hl)
    rw [List.append_nil] at hb'
    refine PySem.W.get_bind I1.kIn J (PySem.W.plainGet_of (hC.get f)).1 (PySem.W.findObj_data hc hp.at_ hp.get hp.tak) (PySem.W.plainGet_of (hC.get f)).2 (wpAny_call (PySem.W.prop_get (s := { s1 with toks := s1.toks + 1 }) I1.kIn hrec ?_))
    refine codeAny_mono (F.run X.A.in1 X.stack { s1 with toks := s1.toks + 1 } H1 ⟨[.ref a], []⟩ [.ref a] [.ref a] Q (fun _ _ _ => False) hr.in1 I2.env0.in1 hb' (.cons rfl .nil) hsp) fun r s' hq => ?_
    cases r with
    | error er => exact False.elim (by obtain ⟨_, _, _, _, _, _, _, _, _, _, _, _, hE⟩ := hq; exact hE)
    | ok fl =>
      cases fl with
      | ret u =>
        obtain ⟨v, H', I3, rv, q3⟩ := I2.after hq
        show wpAny _ _ (handedOut u) _ _ _
        rw [PySem.W.handedOut_of (handed_of rv)]
        exact wpAny_pure ⟨v, H', I3, rv, q3⟩
      | next => exact False.elim hq
      | brk => exact False.elim hq
      | cont => exact False.elim hq)⟩⟩
end
end VI

set_option Elab.async false
set_option linter.all false
set_option maxRecDepth 100000
set_option maxHeartbeats 4000000
namespace PySem.W
open PySem PySem.Spec PySem.Calls PyProof.Rows L2
section
variable {pg : Program} {wo : World} {Ar : Around} {Ex : Value → Shared → Prop} {st : Shared} {FK : Frag} {ea Dx : Addr} {ob : Obj} {dct : Option Obj}
/-- e.__class__ of a caught error, with or without a dict -/
theorem vi_class {Q : Option Value → Shared → Prop} (T : ExcC FK Dx) (XI : FK.In st.heap) (JI : InstAt st.heap ea ob Dx dct) (hq : Q (some (.ref Dx)) { st with toks := st.toks + 1 }) : wpAny (model pg wo) Ar (getAttr? (.ref ea) "__class__") Q Ex st := by
  have hcl : (clsIn FK Dx).isSome = true := by obtain ⟨cd, hc, _⟩ := any_some T.hd; rw [hc] <;> rfl
  have hfo : findObj FK Dx dct "__class__" = some (.bind (.builtin "getset_descriptor.__get__") (.builtin "object.__class__")) := by
    cases dct with
    | none => exact findObj_dataN hcl T.ha T.hn T.ht
    | some od => exact findObj_data hcl T.ha T.hn T.ht
  obtain ⟨hpp, gg, dd, tt, oo⟩ := st
  have K0 := JI.type (M := model pg wo)
  have K1 := looks_findIn (M := model pg wo) XI T.hg
  have K2 := looks_findIn (M := model pg wo) XI T.hk
  have K3 := looks_find (M := model pg wo) XI JI hfo
  have sb : Looks (model pg wo) hpp (isInstance (.ref ea) (.type "BaseException")) true := K0.andThen (looks_subIn XI T.hs)
  have b0 : (false && onTheHeap (Value.builtin "BaseException.__getattribute__")) = false := rfl
  have b2 : (Value.builtin "BaseException.__getattribute__" == Value.builtin "object.__getattribute__") = false := by decide +kernel
  have b1 : (onTheHeap (Value.ref Dx) && Value.builtin "BaseException.__getattribute__" == Value.builtin "object.__getattribute__") = false := by rw [b2] <;> rfl
  unfold getAttr? getAttrBy? getAttrBy <;>
  refine wpAny_bind (wpAny_mkText (wpAny_bind (wpAny_attempt (wpAny_holding (wpAny_bind (K0.at (wpAny_bind (K1.at ?_))))))))
  show wpAny _ _ (if (onTheHeap (Value.ref Dx) && Value.builtin "BaseException.__getattribute__" == Value.builtin "object.__getattribute__") = true then _ else _) _ _ _
  rw [b1, if_neg Bool.false_ne_true] <;> unfold getAttrByItsOwn hookBefore <;> refine wpAny_bind ?_
  rw [if_pos (show onTheHeap (Value.ref Dx) = true from rfl)]
  refine K2.at (wpAny_bind (wpAny_attempt (wpAny_holding ?_)))
  unfold callGetattribute boundAndCalled
  rw [b0, if_neg Bool.false_ne_true, PySem.F.excAttr_ValueError.ga.bind (.ref ea)] <;> refine wpAny_bind (wpAny_pure ?_)
  show wpAny _ _ (call (.builtin "BaseException.__getattribute__") [.ref ea, .str "__class__" tt]) _ _ _
  refine wpAny_call (codeAny_call_builtin PySem.F.excAttr_ValueError.ga.plain PySem.F.entry_bexc_ga (@check_slot (model pg wo) _ _ ⟨hpp, gg, dd, tt + 1, oo⟩ "BaseException.__getattribute__" "BaseException" "__getattribute__" (.ref ea) [.str "__class__" tt] [] _ (by decide +kernel) (by decide +kernel) sb (PySem.F.args_bexc_ga (.ref ea) (.str "__class__" tt)) ?_))
  unfold Builtin.«object.__getattribute__» <;>
  refine wpAny_bind (wpAny_of_eq (a := ((Value.ref ea : Value), [Value.str "__class__" tt])) (by first | rfl | (simp only [slotArgs]; rfl)) (wpAny_bind (wpAny_pure (wpAny_bind (K0.at (wpAny_bind (K3.at ?_)))))))
  show wpAny _ _ (holding [Value.builtin "object.__class__"] (call (.builtin "getset_descriptor.__get__") [.builtin "object.__class__", .ref ea, .ref Dx]) >>= ret) _ _ _
  refine wpAny_bind (wpAny_holding (wpAny_call (class_get (s := ⟨hpp, gg, dd, tt + 1, oo⟩) (ox := ob) (od := dct) XI JI T.hm (wpAny_pure ?_))))
  show wpAny _ _ (handedOut (.ref Dx)) _ _ _
  rw [handedOut_of (v := .ref Dx) rfl]
  first
    | exact wpAny_pure (wpAny_pure hq)
    | exact wpAny_pure hq
    | exact wpAny_pure (wpAny_bind (wpAny_pure (wpAny_pure hq)))
end
end PySem.W
namespace VI
open PySem L2 PySem.Spec PyProof.Rows
theorem kitX_exc {K : PySem.W.Frag} {ea Dx : Addr} {ob : Obj} {dct : Option Obj} (T : ExcC K Dx) : PySem.W.KitX K (.ref ea) (.ref Dx) (fun h => PySem.W.InstAt h ea ob Dx dct) where
  ty := fun _ _ _ J => J.type
  it := fun _ _ XI _ => by
    obtain ⟨cdD, hcD, _⟩ := PySem.W.any_some T.hd
    unfold PySem.W.clsIn at hcD
    split at hcD
    · rename_i c' d' cd' sl' ho
      intro A' Q' E' s' k q
      unfold isType loadHead
      exact wpAny_bind (wpAny_loadPart (k _ _ (XI _ _ ho)) (wpAny_pure q))
    · cases hcD
  ne := fun h tp dd its n sl XI htp => by
    obtain ⟨cdD, hcD, _⟩ := PySem.W.any_some T.hd
    refine Bool.eq_false_iff.mpr fun q => ?_
    have e : Dx = tp := Value.ref.inj (beq_iff_eq.mp q)
    subst e
    unfold PySem.W.clsIn at hcD
    split at hcD
    · rename_i c' d' cd' sl' ho
      have z := (XI _ _ ho).symm.trans htp
      cases z
    · cases hcD
  ca := fun XI J k => PySem.W.vi_class T XI J k
/-- isinstance(e, c), e the caught error, its dict as it may be -/
def rIsD (K : PySem.W.Frag) (Dx a : Addr) (d : Option Addr) : List V → Hp → VK → Prop := fun xs H Q => (∀ dd, d = some dd → ∃ fs, H dd = some (.xd fs)) ∧ rIsE K Dx a xs H Q
theorem call_isD {X : Cx} {a Dx : Addr} {d : Option Addr} {oe : Obj} {pn : List (Addr × Obj)} (C : ExcC X.K Dx) (hz : Zc (.ref Dx) d oe) (hf : ∃ vs, oe.data = .fields vs) : CallR (X.suite a ((a, oe) :: pn)) (.builtin "isinstance") (rIsD X.K Dx a d) := by
  intro pins s σ H xs us Q I r h
  obtain ⟨hd, c, cv, b, rfl, hcv, e, q⟩ := h
  match r with
  | .cons rx (.cons rt .nil) =>
    cases rx
    have ec := hcv _ rt
    subst ec
    obtain ⟨hget, _⟩ := I.pin (a, oe) (List.mem_append.mpr (.inl List.mem_cons_self))
    obtain ⟨vs, hv⟩ := hf
    have nc : PySem.W.notCls oe := by unfold PySem.W.notCls; rw [hv] <;> rfl
    have J : ∃ od, PySem.W.InstAt s.heap a oe Dx od := by
      cases d with
      | none =>
        obtain ⟨oc, od, oda, osl⟩ := oe
        obtain ⟨h1, h2⟩ := hz
        dsimp only at h1 h2 hv
        subst h1 h2 hv
        exact ⟨none, hget, rfl, rfl, trivial⟩
      | some dd =>
        obtain ⟨fs, hdd⟩ := hd dd rfl
        have hx : ObjOk X.prog X.w H s.heap dd (.xd fs) := I.hok dd _ hdd
        obtain ⟨mA, hns, hr⟩ := hx
        obtain ⟨od, ho, hl⟩ := lookIn_ns hns
        exact ⟨some od, hget, hz.1, nc, by rw [hz.2]; exact ho⟩
    obtain ⟨od, J⟩ := J
    exact PySem.W.kia_one (kitX_exc C) I.kIn J e (fun z => nomatch z) fun tk => ⟨.bl b, H, I.kept (t' := tk) fun _ _ z => z, rfl, q⟩
def eIsq (tab : List (Nat × Bool)) (i : Nat) : EF := fun ρ => match ρ[i]? with
  | some (.exn c _ _) => (match tab.lookup c with | some b => .ok (.val (.bl b)) ρ | none => .bad)
  | _ => .bad
def eXf (tab : List Nat) (k : Nat) (i : Nat) : EF := fun ρ => match ρ[i]? with
  | some (.exn c ks ts) => if tab.contains c = true then (match fget ks ts k with | some t => .ok (.val t) ρ | none => .bad) else .bad
  | _ => .bad
section
variable {X : Cx} {D : Wd} {φ : Fr} {W : WX} {cv : Value} {i : Nat} {pos : Pos} {tab : List (Nat × Bool)}
theorem e_isq {a : Addr} {oe : Obj} {cls : Value} {d : Option Addr} {pn : List (Addr × Obj)} {j : Nat} {e ce : Expr} {cb : V} {p : Pos} (hz : Zc cls d oe) (hf : ∃ vs, oe.data = .fields vs) (hx : φ.xs i = some (a, cls, d)) (ht : IsTab D cv tab) (hcv : ClsV cb cv)
    (hg : Gl (X.suite a ((a, oe) :: pn)) "isinstance") (hm : X.mg "isinstance" = none) (he : PE (X.suite a ((a, oe) :: pn)) e (tVar i)) (hce : PE (X.suite a ((a, oe) :: pn)) ce (tC cb))
    (h1 : starEach (e :: [ce]) X.env = (false, eval e X.env) :: starEach [ce] X.env := by rfl) (h2 : starEach (ce :: []) X.env = (false, eval ce X.env) :: starEach [] X.env := by rfl) (hpl : (backTo pos (starEach [ce] X.env)).any (·.1) = false := by rfl) (hK : X.K = D.K := by rfl) :
    EX (X.suite a ((a, oe) :: pn)) D φ W (.Call (.Name "isinstance" p) [e, ce] [] pos) (eIsq tab i) := by
  refine ⟨⟨fun pins s σ H Q I hh => ?_⟩⟩
  obtain ⟨G, ρ, r, pp⟩ := hh
  unfold eIsq at pp
  split at pp
  · rename_i c ks ts q
    split at pp
    · rename_i b e2
      obtain ⟨a', cls', d', g1, g2, g3⟩ := r.slot i _ q
      rw [hx] at g2; cases g2
      obtain ⟨hcls, hd⟩ := g3
      subst hcls
      obtain ⟨k1, k2⟩ := ht.of e2
      have hd' : ∀ dd, d = some dd → ∃ fs, H dd = some (.xd fs) := fun dd e => by
        rcases hd with ⟨h, _, _⟩ | ⟨_, dd', fs, h, h', _⟩
        · rw [h] at e; cases e
        · rw [h] at e; cases e; exact ⟨fs, r.sub _ _ h'⟩
      have hp := pe_callB (X := X.suite a ((a, oe) :: pn)) (call_isD (X := X) (pn := pn) (Dx := D.ca c) (by rw [hK]; exact k1) hz hf) hg hm boot_isinstance (pa_cons he (pa_cons hce pa_nil h2) h1) (by decide) (by decide) h1 hpl (pos := pos) (p := p)
      exact hp.run pins s σ H Q I ⟨_, g1, hd', cb, cv, b, rfl, fun u hu => hcv.eq hu, by rw [hK]; exact k2, pp G H (.refl _) r _ rfl⟩
    · exact pp.elim
  · exact pp.elim
def XfTab (D : Wd) (f : Str) : List Nat → Prop
  | [] => True
  | c :: r => (XfC D.K (D.ca c) ∧ PySem.W.findIn D.K (.ref (D.ca c)) f = some none) ∧ XfTab D f r
theorem XfTab.of {f : Str} : ∀ {tab : List Nat} {c : Nat}, XfTab D f tab → tab.contains c = true → XfC D.K (D.ca c) ∧ PySem.W.findIn D.K (.ref (D.ca c)) f = some none
  | [], _, _, h => by cases h
  | c' :: r, c, ⟨h1, h2⟩, h => by
    by_cases e : c = c'
    · subst e; exact h1
    · exact h2.of (by rw [List.contains_cons] at h; simpa [e] using h)
theorem Zc.cls_eq {C : Addr} {cls : Value} {d : Option Addr} {oe : Obj} (h : Zc cls d oe) (e : cls = .ref C) : Zc (.ref C) d oe := e ▸ h
/-- e.f of the caught error -/
theorem e_xf {tb : List Nat} (k : Nat) {a : Addr} {oe : Obj} {cls : Value} {d : Option Addr} {pn : List (Addr × Obj)} {e : Expr} {f : Str} (hz : Zc cls d oe) (hf : ∃ vs, oe.data = .fields vs) (hx : φ.xs i = some (a, cls, d)) (hk : D.nm k = f) (ht : XfTab D f tb)
    (he : PE (X.suite a ((a, oe) :: pn)) e (tVar i)) (hb : attributeBase e f X.env (eval e X.env) = eval e X.env := by rfl) (hK : X.K = D.K := by rfl) :
    EX (X.suite a ((a, oe) :: pn)) D φ W (.Attribute e f pos) (eXf tb k i) := by
  refine ⟨⟨fun pins s σ H Q I hh => ?_⟩⟩
  obtain ⟨G, ρ, r, pp⟩ := hh
  unfold eXf at pp
  split at pp
  · rename_i c ks ts q
    split at pp
    · rename_i hc
      obtain ⟨a', cls', d', g1, g2, g3⟩ := r.slot i _ q
      rw [hx] at g2; cases g2
      obtain ⟨hcls, hd⟩ := g3
      subst hcls
      obtain ⟨T, hno⟩ := ht.of hc
      split at pp
      · rename_i t e3
        rcases hd with ⟨_, h, _⟩ | ⟨_, dd, fs, rfl, h', h2, h3⟩
        · subst h; cases ts <;> cases e3
        · obtain ⟨v, l, hv⟩ := fget_lookup h2 h3 e3
          rw [hk] at l
          have hp := pe_xf (X := X) (pn := pn) (pos := pos) (by rw [hK]; exact T) (by rw [hK]; exact hno) hz hf he hb
          exact hp.run pins s σ H Q I ⟨_, g1, rfl, rfl, dd, fs, v, rfl, r.sub _ _ h', l, pp G H (.refl _) r v hv⟩
      · exact pp.elim
    · exact pp.elim
  · exact pp.elim
end
end VI

set_option Elab.async false
set_option linter.all false
set_option maxRecDepth 100000
set_option maxHeartbeats 4000000
namespace VI
open PySem L2 PySem.Spec PyProof.Rows
/-! ### a op b op c op d, as a test -/
def eChain3 (g g' g2 : T → T → Out) (fa fb fc fd : EF) : EF := fun ρ => (fa ρ).bind fun x ρ1 => (fb ρ1).bind fun y ρ2 => match deref ρ2 x, deref ρ2 y with
  | some t, some u => (match blOf (g t u) with
    | some true => (fc ρ2).bind fun z ρ3 => (match deref ρ3 y, deref ρ3 z with
      | some u, some w => (match blOf (g' u w) with
        | some true => (fd ρ3).bind fun q ρ4 => (match deref ρ4 z, deref ρ4 q with
          | some w, some o => out (g2 w o) ρ4
          | _, _ => .bad)
        | some false => .ok (.val (.bl false)) ρ3
        | none => .bad)
      | _, _ => .bad)
    | some false => .ok (.val (.bl false)) ρ2
    | none => .bad)
  | _, _ => .bad
def tChain3 (r r' r2 : R2) (ta tb tc td : TE) : TE := fun σ H Q => ta σ H fun x H1 => tb σ H1 fun y H2 => r x y H2 fun z H3 => ∃ k, z = .bl k ∧
  (if k = true then tc σ H3 fun w' H4 => r' y w' H4 (fun z H5 => ∃ k, z = .bl k ∧ (if k = true then td σ H5 fun o H6 => r2 w' o H6 Q else Q (.bl false) H5)) else Q (.bl false) H3)
section
variable {X : Cx} {D : Wd} {φ : Fr} {W : WX} {a b c d : Expr} {fa fb fc fd : EF} {pos : Pos} {ta tb tc td : TE}
theorem pt_chain3 {o1 o2 o3 : CmpOp} {r r' r2 : R2} (h1 : OpR X (compareOp o1) r) (h2 : OpR X (compareOp o2) r') (h3 : OpR X (compareOp o3) r2) (ha : PE X a ta) (hb : PE X b tb) (hc : PE X c tc) (hd : PE X d td)
    (hm : lastMarks [o1, o2, o3] [b, c, d] = false := by with_unfolding_all rfl) : PT X (.Compare a [o1, o2, o3] [b, c, d] pos) (tTest (tChain3 r r' r2 ta tb tc td)) := by
  refine ⟨fun pins s σ H Q I h => ?_⟩
  refine isTrue_chain (thn (ha.run pins s σ H _ I h) fun v s1 ⟨x, H1, I1, r1, q1⟩ => test_link (thn (hb.run pins s1 σ H1 _ I1 q1) fun u s2 ⟨y, H2, I2, r2', q2⟩ =>
    thn (h1 pins s2 σ H2 x y v u _ I2 r1 r2' q2) fun dd s3 ⟨z, H3, I3, r3, k, e, q3⟩ => ?_)) hm
  subst e
  cases r3
  refine wpAny_truthy_bool ?_
  cases k with
  | false =>
    obtain ⟨k', e', q'⟩ := q3
    cases e'
    exact ite_ff ⟨H3, I3, q'⟩
  | true =>
    refine ite_tt (test_link (thn (hc.run pins s3 σ H3 _ I3 q3) fun w s4 ⟨z4, H4, I4, r4, q4⟩ => thn (h2 pins s4 σ H4 y z4 u w _ I4 r2' r4 q4) fun dd s5 ⟨z5, H5, I5, r5, k5, e5, q5⟩ => ?_))
    subst e5
    cases r5
    refine wpAny_truthy_bool ?_
    cases k5 with
    | false =>
      obtain ⟨k', e', q'⟩ := q5
      cases e'
      exact ite_ff ⟨H5, I5, q'⟩
    | true =>
      refine ite_tt (test_last (thn (hd.run pins s5 σ H5 _ I5 q5) fun w' s6 ⟨z6, H6, I6, r6, q6⟩ => thn (h3 pins s6 σ H6 z4 z6 w w' _ I6 r4 r6 q6) fun d' s7 ⟨z7, H7, I7, r7, k7, e7, q7⟩ => ?_))
      subst e7
      cases r7
      exact wpAny_truthy_bool ⟨H7, I7, q7⟩
theorem chain3_rd {r r' r2 : R2} {g g' g2 : T → T → Out} (os : Op2 D r g) (os' : Op2 D r' g') (os2 : Op2 D r2 g2) {σ : L2.St} {H : Hp} {Q : VK} (h : rdE D φ W (eChain3 g g' g2 fa fb fc fd) σ H Q) : tChain3 r r' r2 (rdE D φ W fa) (rdE D φ W fb) (rdE D φ W fc) (rdE D φ W fd) σ H Q := by
  obtain ⟨G, ρ, rl, p⟩ := h
  refine ⟨G, ρ, rl, Post.imp (Post.bind p) fun x ρ1 G1 H1 s1 r1 p1 v hv => ?_⟩
  obtain ⟨G2, s2, r2', hh⟩ := settle r1 hv
  refine ⟨G2, ρ1, r2', Post.imp (Post.bind (Post.weak s2 p1)) fun y ρ2 G3 H3 s3 r3 p3 w hw => ?_⟩
  obtain ⟨G4, s4, r4, hw'⟩ := settle r3 hw
  have hh' := hh.mono (s3.trans s4)
  have p4 := Post.weak s4 p3
  cases e1 : deref ρ2 x with
  | none => simp only [e1] at p4; exact p4.elim
  | some t =>
    cases e2 : deref ρ2 y with
    | none => simp only [e1, e2] at p4; exact p4.elim
    | some u =>
      simp only [e1, e2] at p4
      cases e3 : g t u with
      | l xs => simp only [e3, blOf] at p4; exact p4.elim
      | u xs => simp only [e3, blOf] at p4; exact p4.elim
      | no => simp only [e3, blOf] at p4; exact p4.elim
      | v q =>
        cases q with
        | bl k =>
          refine os G4 H3 v w t u _ r4.sub (hh'.use r4 e1) (hw'.use r4 e2) ?_
          rw [e3]
          intro z H5 s5 hz
          cases (show z = .bl k from hz)
          refine ⟨k, rfl, ?_⟩
          have r5 := r4.grow s5
          cases k with
          | false => simp only [e3, blOf] at p4; exact p4 G4 H5 (.refl _) r5 _ rfl
          | true =>
            simp only [e3, blOf] at p4
            refine ⟨G4, ρ2, r5, Post.imp (Post.bind p4) fun zz ρ3 G6 H6 s6 r6 p6 zv hzv => ?_⟩
            obtain ⟨G7, s7, r7, hz'⟩ := settle r6 hzv
            have p7 := Post.weak s7 p6
            have hw2 := hw'.mono (s6.trans s7)
            cases e4 : deref ρ3 y with
            | none => simp only [e4] at p7; exact p7.elim
            | some u' =>
              cases e5 : deref ρ3 zz with
              | none => simp only [e4, e5] at p7; exact p7.elim
              | some w' =>
                simp only [e4, e5] at p7
                cases e6 : g' u' w' with
                | l xs => simp only [e6, blOf] at p7; exact p7.elim
                | u xs => simp only [e6, blOf] at p7; exact p7.elim
                | no => simp only [e6, blOf] at p7; exact p7.elim
                | v q =>
                  cases q with
                  | bl k =>
                    refine os' G7 H6 w zv u' w' _ r7.sub (hw2.use r7 e4) (hz'.use r7 e5) ?_
                    rw [e6]
                    intro z8 H8 s8 hz8
                    cases (show z8 = .bl k from hz8)
                    refine ⟨k, rfl, ?_⟩
                    have r8 := r7.grow s8
                    cases k with
                    | false => simp only [e6, blOf] at p7; exact p7 G7 H8 (.refl _) r8 _ rfl
                    | true =>
                      simp only [e6, blOf] at p7
                      refine ⟨G7, ρ3, r8, Post.imp (Post.bind p7) fun qq ρ4 G9 H9 s9 r9 p9 qv hqv => ?_⟩
                      obtain ⟨Ga, sa, ra, hq'⟩ := settle r9 hqv
                      cases e7 : deref ρ4 zz with
                      | none => simp only [e7] at p9; exact p9.elim
                      | some w2 =>
                        cases e8 : deref ρ4 qq with
                        | none => simp only [e7, e8] at p9; exact p9.elim
                        | some o2 =>
                          simp only [e7, e8] at p9
                          exact os2 Ga H9 zv qv w2 o2 Q ra.sub ((hz'.mono (s9.trans sa)).use ra e7) (hq'.use ra e8) (fin_out ra sa p9)
                  | _ => simp only [e6, blOf] at p7; exact p7.elim
        | _ => simp only [e3, blOf] at p4; exact p4.elim
theorem t_chain3 {o1 o2 o3 : CmpOp} {r r' r2 : R2} {g g' g2 : T → T → Out} (h1 : OpR X (compareOp o1) r) (h2 : OpR X (compareOp o2) r') (h3 : OpR X (compareOp o3) r2) (os : Op2 D r g) (os' : Op2 D r' g') (os2 : Op2 D r2 g2) (ha : EX X D φ W a fa) (hb : EX X D φ W b fb) (hc : EX X D φ W c fc) (hd : EX X D φ W d fd)
    (hm : lastMarks [o1, o2, o3] [b, c, d] = false := by with_unfolding_all rfl) : TX X D φ W (.Compare a [o1, o2, o3] [b, c, d] pos) (tOf (eChain3 g g' g2 fa fb fc fd)) :=
  ⟨pt_mono (pt_chain3 h1 h2 h3 ha.pe hb.pe hc.pe hd.pe hm) fun _ _ _ h => chain3_rd os os' os2 (rd_of h)⟩
end
/-! ### is not True, is not False -/
def notCo (b : Bool) : T → T → Out := fun t u => match u with | .bl c => if c = b then .v (.bl (!isB b t)) else .no | _ => .no
def rNotC (b : Bool) : R2 := fun x y H Q => y = .bl b ∧ Q (.bl (!decide (x = .bl b))) H
section
variable {X : Cx} {D : Wd}
theorem op_notC (b : Bool) : OpR X (compareOp .IsNot) (rNotC b) := by
  intro pins s σ H x y v u Q I rx ry h
  obtain ⟨rfl, q⟩ := h
  cases (show u = Value.bool b from ry)
  by_cases e : x = .bl b
  · subst e
    cases (show v = Value.bool b from rx)
    exact wpAny_isNot_self rfl ⟨.bl false, H, I, rfl, by simpa using q⟩
  · have ne : v ≠ Value.bool b := fun z => by
      subst z
      exact e (rx.inj (show RelV (.bl b) (Value.bool b) from rfl))
    refine wpAny_isNot_other ?_ ne ⟨.bl true, H, I, rfl, by simpa [e] using q⟩
    cases x with
    | non => cases rx; rfl
    | bl _ => cases rx; rfl
    | int _ => obtain ⟨t, rfl⟩ := rx; rfl
    | str _ => obtain ⟨t, rfl⟩ := rx; rfl
    | byt _ => obtain ⟨t, rfl⟩ := rx; rfl
    | flt _ => obtain ⟨t, rfl⟩ := rx; rfl
    | ref _ => cases rx; rfl
    | ty _ => cases rx; rfl
theorem op2_notC (b : Bool) : Op2 D (rNotC b) (notCo b) := fun G H x y t u Q s ht hu ho => by
  unfold notCo at ho
  cases u <;> first | exact ho.elim | skip
  rename_i c
  cases hu
  simp only at ho
  split at ho
  · rename_i e; subst e; exact ⟨rfl, by rw [use_bl ht]; exact ho _ H (.refl _) rfl⟩
  · exact ho.elim
end
end VI

set_option Elab.async false
set_option linter.all false
set_option maxRecDepth 100000
set_option maxHeartbeats 4000000
namespace VI
open PySem L2 PySem.Spec PyProof.Rows
/-! ### a slot's list is frozen behind a statement -/
def frzSl (ρ : Ro) (i : Nat) (s : Option Sl) : Ro := match s with
  | some (.own xs) => ρ.set i (.val (.lst xs))
  | some (.odc kvs) => ρ.set i (.val (.dct kvs))
  | _ => ρ
theorem Rel.setValD {D : Wd} {φ : Fr} {G : Hp} {σ : L2.St} {ρ : Ro} {H : Hp} {i : Nat} {a : Addr} {kvs : List (List Int × Int)} (r : Rel D φ G σ ρ H) (q : ρ[i]? = some (.odc kvs)) (h1 : σ[i]? = some (some (.ref a))) (h2 : H a = some (.dT (kvs.map encD))) (h3 : G a = none) (h4 : φ.H a = none) :
    Rel D φ (upd G a (.dT (kvs.map encD))) σ (ρ.set i (.val (.dct kvs))) H := by
  have r0 : Rel D φ G σ (ρ.set i .no) H := by
    refine ⟨by rw [List.length_set]; exact r.len, r.sub, r.base, r.keep, r.alive, r.frame, fun j s e => ?_, fun j k b m m' => r.disj j k b (m.of_set rfl).1 (m'.of_set rfl).1, r.pin, fun j b m => r.pinM j b (m.of_set rfl).1, fun j b m => by rw [List.length_set]; exact r.ioLt j b m, r.pnOk⟩
    rcases getElem?_set_cases e with ⟨rfl, rfl, _⟩ | ⟨_, e⟩
    · trivial
    · exact r.slot j s e
  have r1 := r0.freeze1 h2 h3 h4 (r.pinM i a ⟨⟨_, q, rfl⟩, h1⟩) fun j m => by
    obtain ⟨m, ne⟩ := m.of_set rfl
    exact ne (r.disj j i a m ⟨⟨_, q, rfl⟩, h1⟩)
  have r2 := r1.setVal (i := i) (t := .dct kvs) h1 ⟨a, rfl, upd_same⟩
  rwa [List.set_set] at r2
def sFz (i : Nat) (f : SF) : SF := fun ρ => match f ρ with
  | .ok .nx ρ1 => .ok .nx (frzSl ρ1 i ρ1[i]?)
  | r => r
theorem s_fz {X : Cx} {D : Wd} {φ : Fr} {W : WX} {st : Stmt} {f : SF} (i : Nat) (h : SX X D φ W st f) : SX X D φ W st (sFz i f) := ⟨ps_mono h.ps fun E σ H ⟨G, ρ, r, p⟩ => by
  refine ⟨G, ρ, r, ?_⟩
  unfold sFz at p
  cases e : f ρ with
  | bad => rw [e] at p; exact p
  | ex c ks ts ρ1 => rw [e] at p; exact p
  | ok fl ρ1 =>
    rw [e] at p
    cases fl with
    | nx =>
      intro G1 σ1 H1 s1 r1
      have p' : PostS D φ W G E (.ok .nx (frzSl ρ1 i ρ1[i]?)) := p
      cases q : ρ1[i]? with
      | none => rw [q] at p'; exact p' G1 σ1 H1 s1 r1
      | some s =>
        cases s with
        | own xs =>
          rw [q] at p'
          obtain ⟨a, vs, h1, h2, h3, h4, h5⟩ := r1.slot i _ q
          exact p' _ σ1 H1 (s1.trans (Same.fresh_up h3)) (r1.setVal' q h1 h2 h3 h4 h5)
        | odc kvs =>
          rw [q] at p'
          obtain ⟨a, h1, h2, h3, h4⟩ := r1.slot i _ q
          exact p' _ σ1 H1 (s1.trans (Same.fresh_up h3)) (r1.setValD q h1 h2 h3 h4)
        | _ => rw [q] at p'; exact p' G1 σ1 H1 s1 r1
    | _ => exact p⟩
end VI

set_option Elab.async false
set_option linter.all false
set_option maxRecDepth 100000
set_option maxHeartbeats 4000000
namespace VI
open PySem L2 PySem.Spec PyProof.Rows
/-! ### defs with defaults -/
section
variable {P : Program} {w : World} {K : PySem.W.Frag} {mg : Str → Option Value} {base : Heap} {D : Wd}
theorem fnD_ok {x qual : Str} {st : Stmt} {f : Addr} {fd : FuncData} {N ps : List Str} {k : Nat} {body : SF} {dvs : List V} {kws : List (Str × V)} (F : FunD K x qual (defArgs st) (defBody st) (defScope st) dvs kws f fd) (S : FnScope N ps (defScope st))
    (hbody : ∀ (cdv : Value) (A : Around) (outer : List Env) (s : Shared) (H : Hp) (E : XK) (φ : Fr), Room k (A.deeper (envOfC qual (defScope st) s.heap.objs.size f cdv)) →
      BX (cxOf (L2.CX P w) P w K mg base N qual (defScope st) f cdv A outer s H E) D φ (fun cls d _ H => E cls d H) (defBody st) body) :
    FnOk P w K mg base (L2.CX P w) (k + 1) f fd ps (spM D ps.length (runF (N.length - ps.length) body)) := by
  refine F.ok S (fun vs H Q E h => ?_) (fun cdv A outer s H vs Q E hr h => ?_)
  · obtain ⟨_, _, h, _⟩ := h; exact h
  · obtain ⟨φ, ρ, hl, hH, r, p⟩ := h
    refine ⟨_, (hbody cdv A outer s H E φ hr).ps, φ.G, ρ ++ List.replicate (N.length - ps.length) .no, ?_, ?_⟩
    · have := rel_ext (N.length - ps.length) r
      unfold L2.start
      rw [hl]; exact this
    · unfold runF at p
      split at p
      · rename_i x' ρ' e; rw [e]; exact fun v G H _ f r => p v G H f r
      · rename_i ρ' e; rw [e]; exact fun G σ H _ r => p .non G H r.fin rfl
      · rename_i c ks ts ρ' e; rw [e]; exact fun cls d G σ H _ r q => p cls d G H r.fin q
      · exact p.elim
theorem bindsD_all {x qual : Str} {params : Arguments} {body : List Stmt} {scope : Scope} {f : Addr} {fd : FuncData} {ps : List Str} {dvs : List V} {kws : List (Str × V)} (F : FunD K x qual params body scope dvs kws f fd) (hd : dvs ≠ [])
    (h : ∀ (T : Addr) (kV doc pm : Value) (an : Option Addr) (cdv ct : Value) (us its : List Value), us.length = ps.length → its.length = dvs.length →
      ∃ k, bindArgs (PySem.W.fnOf x qual params body scope (.ref T) kV doc pm an cdv ct) ⟨us, []⟩ = seqItems? (.ref T) >>= k ∧ k (some its.toArray) = pure (ps.zip us)) : Binds K fd ps [] := by
  obtain ⟨ds, r, b⟩ := F.binds1 (ps := ps) ps.length dvs.length hd (by omega) fun T kV doc pm an cdv ct us its h1 h2 => by
    have : its.drop dvs.length = [] := List.drop_of_length_le (by omega)
    rw [this, List.append_nil]
    exact h T kV doc pm an cdv ct us its h1 h2
  rw [List.drop_length] at r
  cases r
  exact b
end
/-! ### a call that leaves the last ones out -/
def aDfl (ts : List T) (g : AF) : AF := fun ρ => (g ρ).bind fun xs ρ1 => .ok (xs ++ ts.map EV.val) ρ1
def cstV : T → Option V
  | .non => some .non
  | .bl b => some (.bl b)
  | .int i => some (.int i)
  | .str x => some (.str x)
  | _ => none
theorem cst_rep {D : Wd} {G : Hp} : ∀ {t : T} {v : V}, cstV t = some v → Rep D G t v
  | .non, _, h => by cases h; rfl
  | .bl _, _, h => by cases h; rfl
  | .int _, _, h => by cases h; rfl
  | .str _, _, h => by cases h; rfl
inductive CstVs : List T → List V → Prop where
  | nil : CstVs [] []
  | cons {t : T} {v : V} {ts : List T} {vs : List V} : cstV t = some v → CstVs ts vs → CstVs (t :: ts) (v :: vs)
section
variable {X : Cx} {D : Wd} {φ : Fr} {W : WX} {ga : AF} {mm : Ro → R EV} {ms : List Md} {k : Nat} {f : Addr} {fd : FuncData} {ps : List Str} {x : Str} {p pos : Pos} {e : Expr} {es : List Expr}
theorem hlds_app {G : Hp} {σ : L2.St} : ∀ {xs : List EV} {vs : List V} {ts : List T} {ws : List V}, Hlds D G σ xs vs → CstVs ts ws → Hlds D G σ (xs ++ ts.map EV.val) (vs ++ ws)
  | _, _, _, _, .nil, .nil => .nil
  | _, _, _, _, .nil, .cons h r => .cons (cst_rep h) (hlds_app .nil r)
  | _, _, _, _, .cons a b, r => .cons a (hlds_app b r)
theorem e_callD {ts : List T} {dvs : List V} (tk : Takes X W) (F : FnOk X.prog X.w X.K X.mg X.base (L2.CX X.prog X.w) k f fd ps (spM D ms.length mm)) (hr : Room k X.A) (hg : Gl X x) (hm : X.mg x = some (.ref f)) (hk : PySem.W.keepIn X.K (.ref f) = true)
    (hb : ∃ ds, Vals dvs ds ∧ Binds X.K fd ps ds) (hc : CstVs ts dvs)
    (ha : AX X D φ W (e :: es) ga) (hdb : (x == ("__debug__" : Str)) = false := by decide) (he : starEach (e :: es) X.env = (false, eval e X.env) :: starEach es X.env := by rfl) (hpl : (backTo pos (starEach es X.env)).any (·.1) = false := by rfl) :
    EX X D φ W (.Call (.Name x p) (e :: es) [] pos) (eCall ms mm (aDfl ts ga)) := by
  obtain ⟨ds, hd, hb⟩ := hb
  refine ⟨pe_mono (pe_callSD F hr hg hm hk hb hd (fun σ => passAt tk σ) ha.pa hdb he hpl) fun σ H Q ⟨G, ρ, r, pp⟩ => ?_⟩
  refine ⟨G, ρ, r, ?_⟩
  have p2 := Post.bind (show Post D φ W G σ (PV D φ σ Q) ((aDfl ts ga ρ).bind fun xs ρ1 => callM ms mm xs ρ1) from pp)
  have p3 := Post.bind (show Post D φ W G σ _ ((ga ρ).bind fun xs ρ1 => .ok (xs ++ ts.map EV.val) ρ1) from p2)
  refine Post.imp p3 fun xs ρ1 G1 H1 s1 r1 p1 vs hvs => ?_
  have p4 := p1 G1 H1 (.refl _) r1
  exact call_sp (ms := ms) (E := WE W σ) r1 (hlds_app hvs hc) (fun _ _ _ h => h) (.refl _) p4
end
end VI

set_option Elab.async false
set_option linter.all false
set_option maxRecDepth 100000
set_option maxHeartbeats 4000000
/-! ### enumerate over a tuple -/
namespace PySem
open Sem (wp)
open AutoSeq1 (wpAny_loadPart')
theorem vi_enum_new (ta : Addr) (its : Array Value) (nn : Nat) (dd : Option Addr) (ss : Array (Option Value)) :
    Meets (Builtin.«enumerate.__new__» ⟨[.type "enumerate", .ref ta], []⟩) (fun _ R s => s.heap.get? ta = some { cls := .type "tuple", dict := dd, data := .seq its nn, slots := ss } ∧
      R (.ok (.ret (.ref (s.heap.push { cls := .type "tuple_iterator", data := .fields #[.ref ta, .int 0 0] }).objs.size)))
        { s with heap := (s.heap.push { cls := .type "tuple_iterator", data := .fields #[.ref ta, .int 0 0] }).push { cls := .type "enumerate", data := .fields #[.none, .bool false, .ref s.heap.objs.size, rawInt 0, .none, .none] } }) :=
  .of_wp fun pg wo Ar Rr st hh => by
    obtain ⟨hpp, gg, dr, tkk, oss⟩ := st <;> obtain ⟨hget, hrr⟩ := hh
    have hsub := sub_enumerate
    have hTup : Heap.IsTuple (Shared.heap ⟨hpp, gg, dr, tkk, oss⟩) ta its := ⟨_, hget, rfl, nn, rfl⟩
    wp_walk using wpAny_loadPart' hget
    refine wpAny_stack_any (fun stk => wpAny_pure ?_)
    split
    · rename_i cc _ _ _ _ _
      cases (cc == Value.type "enumerate") <;>
      · wp_walk using wpAny_loadPart' hget, wpAny_pyIter_tuple hTup
        exact ⟨_, rfl, hrr⟩
    · wp_walk using wpAny_loadPart' hget, wpAny_pyIter_tuple hTup
      exact ⟨_, rfl, hrr⟩
section
variable {pg : Program} {wo : World} {Ar : Around} {Ex : Value → Shared → Prop} {st : Shared}
theorem vi_call_enum {ta : Addr} {its : Array Value} {Q : Value → Shared → Prop} (hL : st.heap.IsTuple ta its)
    (hq : ∀ h2, IsEnum h2 (st.heap.objs.size + 1) st.heap.objs.size 0 .none → h2.IsTupleIter st.heap.objs.size ta 0 → h2.objs.size = st.heap.objs.size + 2 →
      (∀ b o, st.heap.get? b = some o → h2.get? b = some o) → Q (.ref (st.heap.objs.size + 1)) { st with heap := h2 }) :
    wpAny (model pg wo) Ar (call (.type "enumerate") [.ref ta]) Q Ex st := by
  obtain ⟨⟨cc, dct, dt, sl⟩, hl, hc, nn, hd⟩ := hL
  obtain rfl : cc = .type "tuple" := hc
  obtain rfl : dt = .seq its nn := hd
  refine callType_new F.called_enumerate (by decide) (F.typeCall_enumerate_1 _) (F.newCall_enumerate_1 _) (fun obj => F.args_object_init_2 obj _) F.entry_enumerate_new (vi_enum_new ta its nn dct sl) ⟨hl, ?_⟩
  have hz : (st.heap.push { cls := .type "tuple_iterator", data := .fields #[.ref ta, .int 0 0] }).objs.size = st.heap.objs.size + 1 := Heap.size_push ..
  show _ ∧ _
  rw [hz]
  have he := Heap.get?_push_size (st.heap.push { cls := .type "tuple_iterator", data := .fields #[.ref ta, .int 0 0] }) (o := { cls := .type "enumerate", data := .fields #[.none, .bool false, .ref st.heap.objs.size, rawInt 0, .none, .none] }) rfl
  rw [hz] at he
  exact ⟨⟨_, he, rfl⟩, hq _ he ⟨_, Heap.get?_push_of_some _ (Heap.get?_push_size _ rfl), rfl, rfl⟩ (by rw [Heap.size_push, hz]) fun b o x => Heap.get?_push_of_some _ (Heap.get?_push_of_some _ x)⟩
theorem vi_enum_end {e it ta : Addr} {its : Array Value} {i : Nat} {c : Int} {old : Value} {Q : Option Value → Shared → Prop} (hh : Ar.in1.handled = none) (he : IsEnum st.heap e it c old) (hit : st.heap.IsTupleIter it ta i) (ht : st.heap.IsTuple ta its) (hx : its[i]? = none)
    (hq : ∀ h', Heap.ExtBut it st.heap h' → Q none { st with heap := h' }) : wpAny (model pg wo) Ar (pyNext (.ref e)) Q Ex st := by
  have hT : st.TypeIs (.ref e) "enumerate" := ⟨_, he, rfl⟩
  unfold pyNext <;>
  refine wpAny_bind (wpAny_attempt (wpAny_callSpecial?_slot (name := Str.ofString "__next__") hT F.slot_enumerate_next (wpAny_call_entry F.slot_enumerate_next hT F.entry_enumerate_next ?_ (F.args_enumerate_next_1 _))))
  show wpAny _ _ (field (.ref e) 2 >>= _) _ _ _
  refine wpAny_bind (wpAny_field he rfl (x := .ref it) rfl (wpAny_bind (wpAny_nextOf_tuple_end hh hit ht hx fun h' x he' hx' => ?_)))
  obtain ⟨o, ho, hc⟩ := hx'
  exact wpAny_bind (wpAny_isInstance (T := "StopIteration") (b := true) ⟨o, ho, hc⟩ isSubtype_stop (wpAny_pure (hq _ he')))
end
end PySem
namespace VI
open PySem L2 PySem.Spec PyProof.Rows
def ItE (K : PySem.W.Frag) (a : Addr) : It :=
  ⟨fun i H => ∃ (xs : List V) (x : V), SqT K H a xs ∧ xs[i]? = some x, fun i H v H' => ∃ T x, v = .ref T ∧ H T = none ∧ H' = upd H T (.tup [.int (i : Nat), x]) ∧ ∀ xs, SqT K H a xs → xs[i]? = some x, fun i H => ∃ xs : List V, SqT K H a xs ∧ xs.length ≤ i⟩
theorem turn_enumT {P : Program} {w : World} {K : PySem.W.Frag} {elts : List Expr} {kk : Nat} {tpos : Pos} (a e it : Addr) (hai : a ≠ it) (hae : a ≠ e) :
    Turn P w K (.Tuple elts kk tpos) (ItE K a) [e, it] e (fun i h => (∃ old, IsEnum h e it ((i : Nat) : Int) old) ∧ h.IsTupleIter it a i ∧ e ≠ it) where
  mem := by simp
  obj := fun i h st b hb => by
    obtain ⟨⟨old, he⟩, ⟨o, ho, hc, hd⟩, _⟩ := st
    rcases (by simpa using hb : b = e ∨ b = it) with rfl | rfl
    · exact ⟨_, he, fun v q => nomatch q⟩
    · exact ⟨o, ho, fun v q => by rw [hd] at q; cases q⟩
  keep := fun i h h' st k => let ⟨⟨old, he⟩, hi, hne⟩ := st; ⟨⟨old, k e (by simp) _ he⟩, hi.at fun o q => k it (by simp) o q, hne⟩
  item := by
    intro X hP hw hK hc i pins s σ H E I hf st hg
    subst hP hw hK
    obtain ⟨⟨old, he⟩, hit, hne⟩ := st
    obtain ⟨xs, x, hq, hx⟩ := hg
    obtain ⟨its, rv, p, hz⟩ := I.tuple hq
    obtain ⟨u, hu, ru⟩ := rv.get hx
    have p' : s.heap.IsTuple a its.toArray := p
    have hel : e < s.heap.objs.size := Heap.lt_size he
    have hil : it < s.heap.objs.size := by obtain ⟨_, q, _⟩ := hit; exact Heap.lt_size q
    have hlt : i < its.toArray.size := by
      have := (List.getElem?_eq_some_iff.mp hu).1
      simpa using this
    refine wpAny_pyNext_enum_itemD (Draws.tuple (prog := X.prog) (w := X.w) (A := X.A.in1) (I.ok.hd hc) it a hai its.toArray) he ⟨hit, p'⟩ hlt hne (by simp [hne, Ne.symm hae]) fun y h' tk hy ho hst hT hsz hk => ?_
    have hyu : y = u := by
      have e1 : its.toArray[i]? = some u := by simpa using hu
      rw [e1] at hy; exact (Option.some.inj hy).symm
    subst hyu
    refine ⟨_, rfl, wpAny_letOwnedTupleGo_enum (s := { s with heap := h', toks := tk + 1 }) ho fun h'' he' sb => ?_⟩
    have hT2 : h''.get? s.heap.objs.size = some { cls := .type "tuple", data := .seq #[.int i tk, y] } := (sb.2 _ (Nat.ne_of_gt hel)).trans hT
    have fresh : ObjOk X.prog X.w (upd H s.heap.objs.size (.tup [.int (i : Nat), x])) h'' s.heap.objs.size (.tup [.int (i : Nat), x]) :=
      ⟨by show 2 ≤ sizeLine; decide, [.int i tk, y], .cons ⟨_, rfl⟩ (.cons ru .nil), ⟨_, hT2, rfl, _, rfl⟩⟩
    have I1 : Inv X pins σ (upd H s.heap.objs.size (.tup [.int (i : Nat), x])) { s with heap := h'', toks := tk + 1 } :=
      (I.turnedNew (t' := tk + 1) (ch := [e, it]) (fun b ob hb q => (sb.2 b (fun z => hb (by simp [z]))).trans (hk b ob (fun z => hb (by simp [z])) (fun z => hb (by simp [z])) q)) hf (Nat.le_refl _) fresh)
    refine ⟨.ref s.heap.objs.size, _, I1, rfl, ⟨_, x, rfl, I.hok.fresh (Nat.le_refl _), rfl, fun ys hy => by rw [I.tuple_inj hy hq] <;> exact hx⟩, ⟨⟨y, ?_⟩, hst.1.at fun o q => (sb.2 it (Ne.symm hne)).trans q, hne⟩, fun b hb => ?_⟩
    · rw [show ((i + 1 : Nat) : Int) = (i : Int) + 1 by omega]; exact he'
    · have hb' : b < s.heap.objs.size := by
        rcases (by simpa using hb : b = e ∨ b = it) with rfl | rfl
        · exact hel
        · exact hil
      rw [upd_ne (Nat.ne_of_lt hb')] <;> exact (hf b hb).1
  done := by
    intro X hP hw hK hc i pins s σ H E I hf st hg
    subst hP hw hK
    obtain ⟨⟨old, he⟩, hit, hne⟩ := st
    obtain ⟨xs, hq, hx⟩ := hg
    obtain ⟨its, rv, p, hz⟩ := I.tuple hq
    obtain ⟨f0, f1, f2, f3, f4, f5⟩ := hf it (by simp)
    have hl := rv.length
    exact vi_enum_end (I.ok.hd hc) he hit (show s.heap.IsTuple a its.toArray from p) (by simp; omega) fun h' eb => ⟨rfl, I.turned (t' := s.toks) (fun b o hb q => eb b o hb q) f0 f1 f3 f4 f5⟩
  self := fun A i s Q E st h => let ⟨⟨_, he⟩, _⟩ := st; wpAny_pyIter_enum he h
/-- enumerate(x), x a list or a tuple -/
def iEn2 (K : PySem.W.Frag) (ta : TA) : TI := fun σ H R => ta σ H fun vs H1 => ∃ a, vs = [.ref a] ∧ (((∃ xs, SqL K H1 a xs) ∧ R (Ite K a) H1) ∨ ((∃ xs, SqT K H1 a xs) ∧ R (ItE K a) H1))
theorem pi_en2 {X : Cx} {e : Expr} {ta : TA} {p pos tpos : Pos} {elts : List Expr} {kk : Nat} (hg : Gl X "enumerate") (hm : X.mg "enumerate" = none) (ha : PA X [e] ta) (hs : starEach [e] X.env = [(false, eval e X.env)] := by rfl) :
    PI X (.Tuple elts kk tpos) (.Call (.Name "enumerate" p) [e] [] pos) (iEn2 X.K ta) := by
  refine ⟨fun pins s σ H R I h => ?_⟩
  refine Call_ (ld_blt I hg hm boot_enumerate (PyProof.Rows.callWith_type1 (thn (ha.run pos pins s σ H _ I h) fun us s1 ⟨vs, H1, I1, r1, q1⟩ => ?_) hs rfl))
  obtain ⟨a, ex, q⟩ := q1
  subst ex
  match r1 with
  | .cons r .nil =>
    cases r
    have apart : ∀ (b : Addr), b = s1.heap.objs.size + 1 ∨ b = s1.heap.objs.size → s1.heap.objs.size ≤ b := fun b h => h.elim (fun e => e ▸ Nat.le_succ _) fun e => e ▸ Nat.le_refl _
    rcases q with ⟨⟨xs, hq⟩, q⟩ | ⟨⟨xs, hq⟩, q⟩
    · obtain ⟨its, rv, p', hz⟩ := I1.list hq
      refine call_enumerate_list p'.isList fun h' he hit hsz hk => wpAny_pyIter_enum he ?_
      have I2 : Inv X pins σ H1 { s1 with heap := h' } := I1.kept (t' := s1.toks) hk
      refine ⟨s1.heap.objs.size + 1, [s1.heap.objs.size + 1, s1.heap.objs.size], _, _, H1, rfl, I2, turn_enum a (s1.heap.objs.size + 1) s1.heap.objs.size, ⟨⟨.none, he⟩, hit, Nat.succ_ne_self _⟩, fun b hb => ?_, q⟩
      have hle := apart b (by simpa using hb)
      exact I1.fpOk hle (I1.hok.fresh hle)
    · obtain ⟨its, rv, p', hz⟩ := I1.tuple hq
      have ht : s1.heap.IsTuple a its.toArray := p'
      have hal : a < s1.heap.objs.size := by obtain ⟨o, ho, _⟩ := ht; exact Heap.lt_size ho
      refine vi_call_enum ht fun h' he hit hsz hk => wpAny_pyIter_enum he ?_
      have I2 : Inv X pins σ H1 { s1 with heap := h' } := I1.kept (t' := s1.toks) hk
      refine ⟨s1.heap.objs.size + 1, [s1.heap.objs.size + 1, s1.heap.objs.size], _, _, H1, rfl, I2, turn_enumT a (s1.heap.objs.size + 1) s1.heap.objs.size (Nat.ne_of_lt hal) (Nat.ne_of_lt (Nat.lt_succ_of_lt hal)), ⟨⟨.none, he⟩, hit, Nat.succ_ne_self _⟩, fun b hb => ?_, q⟩
      have hle := apart b (by simpa using hb)
      exact I1.fpOk hle (I1.hok.fresh hle)
theorem walk_enT {K : PySem.W.Frag} {a : Addr} {xs : List V} : Walk (ItE K a) xs.length (fun H => SqT K H a xs) (YPair (fun i => some (.int (i : Nat))) (fun i => xs[i]?)) := by
  refine ⟨fun i _ hi q => ⟨xs, xs[i], q, by simp [hi]⟩, fun _ q => ⟨xs, q, Nat.le_refl _⟩, fun i H v H' _ q y => ?_⟩
  obtain ⟨T, x, h1, h2, h3, h4⟩ := y
  exact ⟨T, .int (i : Nat), x, h1, h2, h3, rfl, h4 xs q⟩
section
variable {X : Cx} {D : Wd} {φ : Fr} {W : WX} {pos : Pos}
theorem itok_enT {G0 : Hp} {a : Addr} {vs : List V} {ts : List T} (h : SqT D.K G0 a vs) (r : Reps D G0 ts vs) : ItOk D φ G0 (ItE D.K a) (enumT 0 ts) := by
  refine ⟨_, _, by rw [enumT_len, ← r.len]; exact walk_enT (xs := vs), fun _ G σ ρ H _ s r => same_t (s.trans r.sub) h, fun i H x H' t e s y => ?_⟩
  obtain ⟨p, x1, y1, rfl, h1, rfl, h3, h4⟩ := y
  obtain ⟨u, e1, rfl⟩ := enumT_get 0 ts i t e
  obtain ⟨v, g1, g2⟩ := r.get e1
  have h4' : vs[i]? = some y1 := h4
  rw [h4'] at g1; cases g1
  have h3' : some (V.int (i : Int)) = some x1 := h3
  cases h3'
  refine ⟨?_, Same.fresh_up h1⟩
  rw [Nat.zero_add]
  exact yok_pair rfl g2 h1
def iEnA (fa : AF) : Ro → R (List T) := fun ρ => (fa ρ).bind fun xs ρ1 => match grounds xs with
  | some [.lst ts] => .ok (enumT 0 ts) ρ1
  | some [.tup ts] => .ok (enumT 0 ts) ρ1
  | _ => .bad
theorem i_enA {fa : AF} {a : Expr} {p tpos : Pos} {elts : List Expr} {kk : Nat} (hg : Gl X "enumerate") (hm : X.mg "enumerate" = none) (ha : AX X D φ W [a] fa) (hs : starEach [a] X.env = [(false, eval a X.env)] := by rfl) (hK : X.K = D.K := by rfl) :
    IX X D φ W (.Tuple elts kk tpos) (.Call (.Name "enumerate" p) [a] [] pos) (iEnA fa) :=
  ⟨pi_mono (pi_en2 hg hm ha.pa hs) fun σ H S ⟨G, ρ, r, p⟩ => by
    refine ⟨G, ρ, r, Post.imp (Post.bind p) fun x ρ1 G1 H1 s1 r1 p1 vs hvs => ?_⟩
    split at p1
    · rename_i ts e
      obtain ⟨v, r', rfl, h1, h2⟩ := hvs.ground e
      cases h2
      obtain ⟨b, ws, rfl, g1, g2⟩ := h1
      exact ⟨b, rfl, .inl ⟨⟨ws, by rw [hK]; exact .of (r1.sub _ _ g1)⟩, by rw [hK]; exact p1 G1 H1 (.refl _) r1 _ G1 (.refl _) r1 (itok_enum (.of g1) g2)⟩⟩
    · rename_i ts e
      obtain ⟨v, r', rfl, h1, h2⟩ := hvs.ground e
      cases h2
      obtain ⟨b, ws, rfl, g1, g2⟩ := h1
      exact ⟨b, rfl, .inr ⟨⟨ws, by rw [hK]; exact same_t r1.sub g1⟩, by rw [hK]; exact p1 G1 H1 (.refl _) r1 _ G1 (.refl _) r1 (itok_enT g1 g2)⟩⟩
    · exact p1.elim⟩
end
end VI

set_option Elab.async false
set_option linter.all false
set_option maxRecDepth 100000
set_option maxHeartbeats 4000000
/-! ### try with several handlers -/
namespace VI
open PySem L2 PySem.Spec PyProof.Rows
/-- a handler, as it is read: the class it names, the slot of its name, its suite -/
abbrev HR := Value × Option Nat × (Addr → Value → Option Addr → TS)
def asD (i : Nat) (D : Ends) : Ends := { nx := fun σ H => D.nx (σ.set i none) H, rt := D.rt, bk := fun σ H => D.bk (σ.set i none) H, ct := fun σ H => D.ct (σ.set i none) H }
def wHs (K : PySem.W.Frag) (D : Ends) (Wo : WX) : List HR → WX
  | [], cls, d, σ, H => Wo cls d σ H
  | (c, some i, ts) :: r, cls, d, σ, H => ∃ b, PySem.W.exmOne K cls c = some b ∧ (b = true → ∀ a, H a = none → ts a cls d (asD i D) (σ.set i (some (.ref a))) H) ∧ (b = false → wHs K D Wo r cls d σ H)
  | (c, none, ts) :: r, cls, d, σ, H => ∃ b, PySem.W.exmOne K cls c = some b ∧ (b = true → ∀ a, H a = none → ts a cls d D σ H) ∧ (b = false → wHs K D Wo r cls d σ H)
inductive HsOk (X : Cx) : List ExceptHandler → List HR → Prop
  | nil : HsOk X [] []
  | as {x n : Str} {c : Value} {i : Nat} {np pos : Pos} {b₀ : Stmt} {su : List Stmt} {ts : Addr → Value → Option Addr → TS} {hs : List ExceptHandler} {l : List HR} (hi : X.N[i]? = some n) (hln : X.env.kindOf n = some .local) (hc : Names X x c)
      (hsu : ∀ (a : Addr) (oe : Obj) (cls : Value) (d : Option Addr) (pn : List (Addr × Obj)), Zc cls d oe → (∃ vs, oe.data = .fields vs) → PSs (X.suite a ((a, oe) :: pn)) (b₀ :: su) (ts a cls d)) (h : HsOk X hs l) :
      HsOk X (.ExceptHandler (some (.Name x np)) (some n) (b₀ :: su) pos :: hs) ((c, some i, ts) :: l)
  | only {x : Str} {c : Value} {np pos : Pos} {b₀ : Stmt} {su : List Stmt} {ts : Addr → Value → Option Addr → TS} {hs : List ExceptHandler} {l : List HR} (hc : Names X x c)
      (hsu : ∀ (a : Addr) (oe : Obj) (cls : Value) (d : Option Addr) (pn : List (Addr × Obj)), Zc cls d oe → (∃ vs, oe.data = .fields vs) → PSs (X.suite a ((a, oe) :: pn)) (b₀ :: su) (ts a cls d)) (h : HsOk X hs l) :
      HsOk X (.ExceptHandler (some (.Name x np)) none (b₀ :: su) pos :: hs) ((c, none, ts) :: l)
section
variable {X : Cx} {D : Ends} {Wo : WX}
theorem catch_hs {pins : List (Addr × Obj)} {sI st : Shared} {σ : L2.St} {H : Hp} {a : Addr} {B h3 : Heap} {cls : Value} {d : Option Addr} (ok : X.Ok) (hst : X.stack = X.env :: X.outer) (hfm : X.env.frame = some X.env.locals) (hN : X.N.Nodup) (tk : Takes X Wo)
    (J : Inv X pins σ H sI) (nb : ∀ b o, sI.heap.get? b = some o → b ∉ frs X.stack → B.get? b = some o) (u3 : sI.heap.UpToSlots h3) (fl : HandSPX.FlyingZ B (X.env :: X.outer) a (Zc cls d) h3) (na : H a = none) (os : st.os = sI.os) (ag : AllBare st.gens) :
    ∀ {hs : List ExceptHandler} {l : List HR}, HsOk X hs l → wHs X.K D Wo l cls d σ H → wpAny (model X.prog X.w) X.A (handleBy (.ref a) X.env hs) (SP X pins D) X.xe { st with heap := h3 } := by
  have J3 : Inv X pins σ H { st with heap := h3 } := J.landed nb fl.1 u3 os ag
  obtain ⟨oa, va, ga, za, da⟩ := fl.there
  have nfr : a ∉ frs (X.env :: X.outer) := fun hm => by
    obtain ⟨_, o', e', hnf⟩ := fl.2.2.1.mem hm
    rw [ga] at e'; cases e' <;> exact hnf _ da
  have nL : a ≠ X.env.locals := fun z => nfr (List.mem_filterMap.mpr ⟨X.env, List.mem_cons_self, by rw [hfm, z]⟩)
  have nF : a ∉ X.fs := fun hm => by
    obtain ⟨e, he, q⟩ := List.mem_filterMap.mp hm
    exact nfr (List.mem_filterMap.mpr ⟨e, List.mem_cons_of_mem _ he, q⟩)
  have S3 := J3.suite ga da na nL nF
  have LT : PySem.W.Looks (model X.prog X.w) h3 (typeOf (.ref a)) cls := fun A Q E s k q => wpAny_typeOf_ref (k _ _ ga) (by rw [za.1] <;> exact q)
  have asks : ∀ {x : Str} {c : Value} {np : Pos}, Names X x c → ∀ {Q : Value → Shared → Prop} {E : Value → Shared → Prop}, Q c { st with heap := h3 } → wpAny (model X.prog X.w) (X.A.mark (some (.ref a))) (eval (.Name x np) X.env) Q E { st with heap := h3 } := fun {x c np} hc {Q E} q => by
    obtain ⟨hg, hdbg, hm | ⟨hm, hv, hnn⟩⟩ := hc
    · exact ld_glob (X := X.suite a ((a, oa) :: (X.pn ++ pins))) S3 hg hm q hdbg
    · exact ld_blt (X := X.suite a ((a, oa) :: (X.pn ++ pins))) S3 hg hm hv q hnn hdbg
  intro hs l hk
  induction hk with
  | nil =>
    intro hw
    refine wpAny_handleBy_nil ?_
    obtain ⟨k1, k2, k3, oe, vs, T, oT, ts', he, hz, hd, h1, hr⟩ := id fl
    unfold PySem.passOn <;> refine wpAny_bind (wpAny_field he hd h1 ?_)
    rw [if_neg (show ¬ ((Value.ref T == Value.none) = true) from by simp)]
    have fin : wpAny (model X.prog X.w) X.A (setFlight (.ref a) X.env.frame) (fun _ s4 => wpAny (model X.prog X.w) X.A (throw (.ref a) : Sem Flow) (SP X pins D) X.xe s4) X.xe { st with heap := h3 } := by
      rw [hfm]
      refine HandSPX.setFlight_upZ fl fun h4 hh4 up4 => wpAny_throw (tk _ _ ⟨a, B, sI, pins, σ, H, cls, d, rfl, J, nb, u3.trans up4, .inr (.inr (by rw [hst]; exact hh4)), na, os, ag, hw⟩)
    first
      | exact wpAny_bind (wpAny_pure (wpAny_bind fin))
      | exact wpAny_bind fin
  | @as x n c i np pos b₀ su ts hs l hi hln hc hsu hk ih =>
    intro hw
    obtain ⟨b, hb1, hyes, hno⟩ := hw
    refine wpAny_handleBy_cons (codeAny_handlers_test ?_) (by intro q; cases q)
    have LM := PySem.W.exm_one (M := model X.prog X.w) (J3.kIn) LT hb1
    refine asks hc (LM.here ?_)
    cases b with
    | false => exact ih (hno rfl)
    | true =>
      have hloc : Loc X.env.scope n := .inl hln
      refine codeAny_handlers_suite_as (HandSPX.lands_againZ fl fun h4 fl4 up4 => ?_)
      have J4 : Inv X pins σ H { st with heap := h4 } := J.landed nb fl4.1 (u3.trans up4) os ag
      obtain ⟨o4, v4, g4, z4, d4⟩ := fl4.there
      have S4 := J4.suite g4 d4 na nL nF
      refine store_ok (X := X.suite a ((a, o4) :: (X.pn ++ pins))) (v := .ref a) S4 hN hi hloc rfl (fun s5 S5 => wpAny_mono ((hsu a o4 cls d (X.pn ++ pins) z4 ⟨_, d4⟩).run [] s5 _ H _ S5 (hyes rfl a na)) (fun f s6 hsp => ?_) (fun _ _ z => False.elim z)) (.inr hln)
      have gone : ∀ {σ6 : L2.St} {H6 : Hp} {Q : Shared → Prop}, Inv (X.suite a ((a, o4) :: (X.pn ++ pins))) [] σ6 H6 s6 → (∀ s7, Inv X pins (σ6.set i none) H6 s7 → Q s7) →
          wpAny (model X.prog X.w) X.A (do bindName X.env n .none; unbindBehindTheSuite X.env n pos) (fun _ s7 => Q s7) X.xe s6 := fun {σ6 H6 Q} S6 hq => gone_ok (S6.unsuite ok) hN hi hln hq
      cases f with
      | next => obtain ⟨σ6, H6, S6, q6⟩ := hsp; exact gone S6 fun s7 J7 => ⟨_, _, J7, q6⟩
      | brk => obtain ⟨σ6, H6, S6, q6⟩ := hsp; exact gone S6 fun s7 J7 => ⟨_, _, J7, q6⟩
      | cont => obtain ⟨σ6, H6, S6, q6⟩ := hsp; exact gone S6 fun s7 J7 => ⟨_, _, J7, q6⟩
      | ret u => obtain ⟨v6, σ6, H6, S6, r6, q6⟩ := hsp; exact gone S6 fun s7 J7 => ⟨_, _, _, J7, r6, q6⟩
  | @only x c np pos b₀ su ts hs l hc hsu hk ih =>
    intro hw
    obtain ⟨b, hb1, hyes, hno⟩ := hw
    refine wpAny_handleBy_cons (codeAny_handlers_test ?_) (by intro q; cases q)
    have LM := PySem.W.exm_one (M := model X.prog X.w) (J3.kIn) LT hb1
    refine asks hc (LM.here ?_)
    cases b with
    | false => exact ih (hno rfl)
    | true =>
      refine codeAny_handlers_suite (HandSPX.lands_againZ fl fun h4 fl4 up4 => ?_)
      have J4 : Inv X pins σ H { st with heap := h4 } := J.landed nb fl4.1 (u3.trans up4) os ag
      obtain ⟨o4, v4, g4, z4, d4⟩ := fl4.there
      have S4 := J4.suite g4 d4 na nL nF
      refine wpAny_mono ((hsu a o4 cls d (X.pn ++ pins) z4 ⟨_, d4⟩).run [] _ _ H _ S4 (hyes rfl a na)) (fun f s6 hsp => ?_) (fun _ _ z => False.elim z)
      cases f with
      | next => obtain ⟨σ6, H6, S6, q6⟩ := hsp; exact ⟨_, _, S6.unsuite ok, q6⟩
      | brk => obtain ⟨σ6, H6, S6, q6⟩ := hsp; exact ⟨_, _, S6.unsuite ok, q6⟩
      | cont => obtain ⟨σ6, H6, S6, q6⟩ := hsp; exact ⟨_, _, S6.unsuite ok, q6⟩
      | ret u => obtain ⟨v6, σ6, H6, S6, r6, q6⟩ := hsp; exact ⟨_, _, _, S6.unsuite ok, r6, q6⟩
theorem ps_try_hs {body : List Stmt} {h₀ : ExceptHandler} {hs : List ExceptHandler} {l : List HR} {tb : WX → TS} {pos : Pos} (hst : X.stack = X.env :: X.outer) (hfm : X.env.frame = some X.env.locals) (hN : X.N.Nodup) (tk : Takes X Wo) (hk : HsOk X (h₀ :: hs) l)
    (hb : ∀ (W : WX) (pn : List (Addr × Obj)) (xe : Value → Shared → Prop), Takes (X.tr pn xe) W → PassesOwn (model X.prog X.w) X.A X.env xe → PSs (X.tr pn xe) body (tb W)) :
    PS X (.Try body (h₀ :: hs) [] [] pos) (fun D σ H => tb (wHs X.K D Wo l) D σ H) := by
  refine ⟨fun pins s σ H D I h => ?_⟩
  have ok := I.ok
  have hfr : X.A.frames = some (X.env :: X.outer) := by rw [ok.frames, hst]
  refine wpAny_Try_except (wpAny_mono ((hb (wHs X.K D Wo l) (X.pn ++ pins) (fun e s₁ => wpAny (model X.prog X.w) X.A (noteFrame e X.env) (fun _ s₂ => wpAny (model X.prog X.w) X.A (setFlight e none) (fun _ s₃ =>
    wpAny (model X.prog X.w) X.A (handleBy e X.env (h₀ :: hs)) (SP X pins D) X.xe s₃) X.xe s₂) X.xe s₁) (fun u st xx => ?_) PassesOwn.looking).run [] s σ H D (I.toTry _) h) (fun f s1 hsp => ?_) (fun e s1 he => he))
  · obtain ⟨a, B, sI, pins', σ', H', cls, d, rfl, J', nb, up, sky, na, os, ag, hw⟩ := xx
    have J : Inv X pins σ' H' sI := J'.ofTry ok
    have sky' : Sky B (X.env :: X.outer) a (Zc cls d) X.env.locals st.heap := by rw [← hst] <;> exact sky
    show wpAny (model X.prog X.w) X.A (noteFrame (.ref a) X.env) _ _ _
    exact Sky.land Zc.steady hfr hfm sky' fun h3 fl3 up3 => catch_hs ok hst hfm hN tk J nb (up.trans up3) fl3 na os ag hk hw
  · cases f with
    | next => obtain ⟨σ', H', J', q⟩ := hsp; exact wpAny_execs_nil ⟨σ', H', J'.ofTry ok, q⟩
    | brk => obtain ⟨σ', H', J', q⟩ := hsp; exact ⟨σ', H', J'.ofTry ok, q⟩
    | cont => obtain ⟨σ', H', J', q⟩ := hsp; exact ⟨σ', H', J'.ofTry ok, q⟩
    | ret u => obtain ⟨v, σ', H', J', r, q⟩ := hsp; exact ⟨v, σ', H', J'.ofTry ok, r, q⟩
end
end VI
namespace VI
open PySem L2 PySem.Spec PyProof.Rows
abbrev HM := List (Nat × Bool) × Option Nat × SF
def hndM : List HM → Nat → List Nat → List T → SF
  | [], c, ks, ts, ρ => .ex c ks ts ρ
  | (tab, some i, fs) :: r, c, ks, ts, ρ => (match tab.lookup c with
    | some true => (match fs (ρ.set i (.exn c ks ts)) with
      | .ok fl ρ2 => .ok fl (ρ2.set i .no)
      | _ => .bad)
    | some false => hndM r c ks ts ρ
    | none => .bad)
  | (tab, none, fs) :: r, c, ks, ts, ρ => (match tab.lookup c with
    | some true => (match fs ρ with
      | .ok fl ρ2 => .ok fl ρ2
      | _ => .bad)
    | some false => hndM r c ks ts ρ
    | none => .bad)
def sTryH (hs : List HM) (fb : SF) : SF := fun ρ => match fb ρ with
  | .ex c ks ts ρ1 => hndM hs c ks ts ρ1
  | r => r
inductive HmOk (X : Cx) (D : Wd) (φ : Fr) : List ExceptHandler → List HM → List HR → Prop
  | nil : HmOk X D φ [] [] []
  | as {x n : Str} {cv : Value} {i : Nat} {np pos : Pos} {b₀ : Stmt} {su : List Stmt} {tab : List (Nat × Bool)} {fs : SF} {hs : List ExceptHandler} {ms : List HM} {l : List HR} (hi : X.N[i]? = some n) (hln : X.env.kindOf n = some .local) (hc : Names X x cv) (ht : ExTab D cv tab)
      (hsu : ∀ (a : Addr) (oe : Obj) (cls : Value) (d : Option Addr) (pn : List (Addr × Obj)), Zc cls d oe → (∃ vs, oe.data = .fields vs) → BX (X.suite a ((a, oe) :: pn)) D (xsAt φ i a cls d) W0 (b₀ :: su) fs) (h : HmOk X D φ hs ms l) :
      HmOk X D φ (.ExceptHandler (some (.Name x np)) (some n) (b₀ :: su) pos :: hs) ((tab, some i, fs) :: ms) ((cv, some i, fun a cls d => rdS D (xsAt φ i a cls d) W0 fs) :: l)
  | only {x : Str} {cv : Value} {np pos : Pos} {b₀ : Stmt} {su : List Stmt} {tab : List (Nat × Bool)} {fs : SF} {hs : List ExceptHandler} {ms : List HM} {l : List HR} (hc : Names X x cv) (ht : ExTab D cv tab)
      (hsu : ∀ (a : Addr) (oe : Obj) (cls : Value) (d : Option Addr) (pn : List (Addr × Obj)), Zc cls d oe → (∃ vs, oe.data = .fields vs) → BX (X.suite a ((a, oe) :: pn)) D φ W0 (b₀ :: su) fs) (h : HmOk X D φ hs ms l) :
      HmOk X D φ (.ExceptHandler (some (.Name x np)) none (b₀ :: su) pos :: hs) ((tab, none, fs) :: ms) ((cv, none, fun a cls d => rdS D φ W0 fs) :: l)
section
variable {X : Cx} {D : Wd} {φ : Fr} {W : WX} {body : List Stmt} {fb : SF} {h₀ : ExceptHandler} {hs : List ExceptHandler} {ms : List HM} {l : List HR} {pos : Pos}
theorem HmOk.toHs (h : HmOk X D φ hs ms l) : HsOk X hs l := by
  induction h with
  | nil => exact .nil
  | as hi hln hc ht hsu _ ih => exact .as hi hln hc (fun a oe cls d pn z f => (hsu a oe cls d pn z f).ps) ih
  | only hc ht hsu _ ih => exact .only hc (fun a oe cls d pn z f => (hsu a oe cls d pn z f).ps) ih
theorem hnd_rd {E : Ends} {G : Hp} {σ : L2.St} {ρ : Ro} {H : Hp} {cls : Value} {d : Option Addr} {c : Nat} {ks : List Nat} {ts : List T} (r : Rel D φ G σ ρ H) (hx : RepX D G cls d c ks ts) (hK : X.K = D.K) (h : HmOk X D φ hs ms l) :
    PostS D φ W G E (hndM ms c ks ts ρ) → wHs X.K E W l cls d σ H := by
  have hcls := hx.1
  induction h with
  | nil => exact fun p => p cls d G σ H (.refl _) r hx
  | @as x n cv i np pos b₀ su tab fs hs ms l hi hln hc ht hsu _ ih =>
    intro p
    unfold hndM at p
    cases e2 : tab.lookup c with
    | none => simp only [e2] at p; exact p.elim
    | some b =>
      simp only [e2] at p
      refine ⟨b, by rw [hK, hcls]; exact ht.of e2, fun hb' a ha => ?_, fun hb' => ?_⟩
      · subst hb'
        simp only at p
        refine ⟨G, ρ.set i (.exn c ks ts), r.catch i hx, ?_⟩
        cases e3 : fs (ρ.set i (.exn c ks ts)) with
        | ok fl ρ2 =>
          simp only [e3] at p
          cases fl with
          | nx => exact fun G2 σ2 H2 s2 r2 => p G2 _ H2 s2 r2.uncatch
          | rt ev => exact fun v G2 H2 s2 f2 q => p v G2 H2 s2 (by
              have f3 := Fin.of_xs f2
              refine ⟨f3.sub, f3.base, f3.keep, f3.frame, f3.alive, fun j b xs h e => ?_, fun j b c ks ts h e => ?_⟩
              · rcases getElem?_set_cases e with ⟨_, z, _⟩ | ⟨_, e⟩
                · cases z
                · exact f3.ioL j b xs h e
              · rcases getElem?_set_cases e with ⟨_, z, _⟩ | ⟨_, e⟩
                · cases z
                · exact f3.ioR j b c ks ts h e) (by cases ev <;> exact q)
          | bk => exact fun G2 σ2 H2 s2 r2 => p G2 _ H2 s2 r2.uncatch
          | ct => exact fun G2 σ2 H2 s2 r2 => p G2 _ H2 s2 r2.uncatch
        | ex c ks ts ρ2 => simp only [e3] at p; exact p.elim
        | bad => simp only [e3] at p; exact p.elim
      · subst hb'; exact ih p
  | @only x cv np pos b₀ su tab fs hs ms l hc ht hsu _ ih =>
    intro p
    unfold hndM at p
    cases e2 : tab.lookup c with
    | none => simp only [e2] at p; exact p.elim
    | some b =>
      simp only [e2] at p
      refine ⟨b, by rw [hK, hcls]; exact ht.of e2, fun hb' a ha => ?_, fun hb' => ?_⟩
      · subst hb'
        simp only at p
        refine ⟨G, ρ, r, ?_⟩
        cases e3 : fs ρ with
        | ok fl ρ2 => simp only [e3] at p; cases fl <;> exact p
        | ex c ks ts ρ2 => simp only [e3] at p; exact p.elim
        | bad => simp only [e3] at p; exact p.elim
      · subst hb'; exact ih p
theorem s_try_hs (hst : X.stack = X.env :: X.outer) (hf : X.env.frame = some X.env.locals) (hN : X.N.Nodup) (tk : Takes X W) (hk : HmOk X D φ (h₀ :: hs) ms l) (hb : Body X D φ body fb) (hK : X.K = D.K := by rfl) :
    SX X D φ W (.Try body (h₀ :: hs) [] [] pos) (sTryH ms fb) :=
  ⟨ps_mono (ps_try_hs hst hf hN tk hk.toHs (tb := fun W => rdS D φ W fb) fun W pn xe t p => (hb W pn xe t p).ps) fun E σ H ⟨G, ρ, r, p⟩ => by
    refine ⟨G, ρ, r, ?_⟩
    unfold sTryH at p
    cases e1 : fb ρ with
    | ok a ρ1 => rw [e1] at p; cases a <;> exact p
    | bad => rw [e1] at p; exact p
    | ex c ks ts ρ1 =>
      simp only [e1] at p
      intro cls d G1 σ1 H1 s1 r1 hx
      exact hnd_rd r1 hx hK hk (PostS.weak s1 p)⟩
end
end VI

set_option Elab.async false
set_option linter.all false
set_option maxRecDepth 100000
set_option maxHeartbeats 4000000
/-! ### an int times an own object: __rmul__ -/
namespace PySem
theorem vi_mul_inst (a : Int) (t : Tok) (x C dx : Addr) :
    Meets (Builtin.«int.__mul__» ⟨[.int a t, .ref x], []⟩) (fun _ R s => s.heap.get? x = some (PySem.W.instObj C dx) ∧ R (.ok (.ret Value.notImplemented)) s) :=
  .of_wp fun pg wo Ar Rr st hh => by obtain ⟨hpp, gg, dd, tk, os⟩ := st; obtain ⟨hget, hrr⟩ := hh; unfold PySem.W.instObj at hget; wp_walk; exact ⟨_, rfl, hrr⟩
end PySem
namespace VI
open PySem L2 PySem.Spec PyProof.Rows
section
variable {X : Cx} {D : Wd} {φ : Fr} {W : WX} {a b : Expr} {fa fb : EF} {pos p : Pos} {m : Ro → R EV} {k : Nat} {f : Addr} {fd : FuncData} {ps : List Str}
def eOwnR (c : Nat) (m : Ro → R EV) (fa fb : EF) : EF := fun ρ => (fa ρ).bind fun x ρ1 => (fb ρ1).bind fun y ρ2 => match deref ρ2 x, deref ρ2 y with
  | some (.int _), some (.ins c1 _ _) => if c1 = c then callM [.v, .v] m [y, x] ρ2 else .bad
  | _, _ => .bad
theorem ownR_rd {c : Nat} {σ : L2.St} {H : Hp} {Q : VK} (h : rdE D φ W (eOwnR c m fa fb) σ H Q) : rdE D φ W fa σ H fun x H1 => rdE D φ W fb σ H1 fun y H2 =>
    ∃ a dx fs i, y = .ref a ∧ x = .int i ∧ H2 a = some (.ins (D.ca c) dx fs) ∧ spM D 2 m [y, x] H2 Q (WE W σ) := by
  obtain ⟨G, ρ, r, pp⟩ := h
  refine ⟨G, ρ, r, Post.imp (Post.bind pp) fun x ρ1 G1 H1 s1 r1 p1 v hv => ?_⟩
  obtain ⟨G2, s2, r2, hh⟩ := settle r1 hv
  refine ⟨G2, ρ1, r2, Post.imp (Post.bind (Post.weak s2 p1)) fun y ρ2 G3 H3 s3 r3 p3 w hw => ?_⟩
  obtain ⟨G4, s4, r4, hw'⟩ := settle r3 hw
  have hh' := hh.mono (s3.trans s4)
  split at p3
  · rename_i i c1 ks1 ts1 e1 e2
    split at p3
    · rename_i hc
      subst hc
      obtain ⟨a, dx, fs, rfl, g1, _⟩ := hw'.use r4 e2
      have hi : v = .int i := hh'.use r4 e1
      subst hi
      exact ⟨a, dx, fs, i, rfl, rfl, g1, call_sp (ms := [.v, .v]) (E := WE W σ) r4 (.cons hw' (.cons hh' .nil)) (fun _ _ _ h => h) s4 p3⟩
    · exact p3.elim
  · exact p3.elim
theorem binop1R_K {prog : Program} {w : World} {A : Around} {E : Value → Shared → Prop} {s : Shared} {K : PySem.W.Frag} {x C dx g gr : Addr} {od : Option Obj} {i : Int} {t : Tok} {Q : Option Value → Shared → Prop}
    (Xh : K.In s.heap) (I : PySem.W.InstAt s.heap x (PySem.W.instObj C dx) C od) (hc : PySem.W.selfFirst K C = true) (hs : PySem.W.findIn K (.ref C) "__mul__" = some (some (.ref g))) (hr : PySem.W.findIn K (.ref C) "__rmul__" = some (some (.ref gr))) (hf : PySem.W.isFn K (.ref gr) = true)
    (hsub : PySem.W.subIn K (.ref C) (.type "int") = some false) (hx : s.heap.get? x = some (PySem.W.instObj C dx))
    (h : wpAny (model prog w) A (call (.ref gr) [.ref x, .int i t]) (PySem.W.CmpBack fun v s' => Q (some v) s') E s) : wpAny (model prog w) A (binaryOp1 "mul" (.int i t) (.ref x)) Q E s := by
  obtain ⟨cd, hcd, hm⟩ := PySem.W.any_some hc
  obtain ⟨rest, hm⟩ : ∃ rest, cd.mro = .ref C :: rest := by
    cases q : cd.mro with
    | nil => rw [q] at hm; cases hm
    | cons a r => rw [q] at hm; exact ⟨r, by rw [List.head?_cons] at hm; cases (beq_iff_eq.mp hm); rfl⟩
  have hs' : PySem.W.findIn K (.ref C) (PySem.dunder "mul") = some (some (.ref g)) := hs
  unfold binaryOp1
  refine wpAny_bind (wpAny_typeOf (typeIs_int s i t) (wpAny_bind (I.type.here ?_)))
  refine wpAny_bind (wpAny_of_eq F.fills_int_mul ?_)
  have hne : (Value.type "int" == Value.ref C) = false := rfl
  simp only [hne, Bool.false_eq_true, if_false]
  refine wpAny_bind ((PySem.W.fills_K Xh hcd hm hs').here ?_)
  simp only [Bool.and_self, if_true]
  refine wpAny_bind (m := isSubtype _ _) ((PySem.W.looks_subIn Xh hsub).here ?_)
  have hpy : numberSlotInPython (.type "int") "mul" = pure false := rfl
  simp only [Bool.false_eq_true, if_false, Bool.not_false, Bool.and_true, Bool.and_self, if_true, hpy, pure_bind]
  refine wpAny_bind (wpAny_tryMethod_declines (typeIs_int s i t) F.slot_int_mul (call_meets F.slot_int_mul (typeIs_int s i t) F.entry_int_mul (F.args_int_mul_2 _ _) (vi_mul_inst i t x C dx) ⟨hx, rfl, ?_⟩))
  refine wpAny_bind (m := tryMethod (.ref x) _ _) ?_
  unfold tryMethod
  refine wpAny_bind (PySem.W.special_fn Xh I hr (beq_iff_eq.mp hf) (wpAny_mono h (fun v s' hv => ?_) fun _ _ e => e))
  cases v <;> first | exact hv.elim | exact wpAny_pure (wpAny_bind (wpAny_rule (wpAny_pure hv)))
theorem e_ownRMul {c : Nat} (tk : Takes X W) (hc : PySem.W.selfFirst D.K (D.ca c) = true) {g : Addr} (hs : PySem.W.findIn D.K (.ref (D.ca c)) "__mul__" = some (some (.ref g))) (O : OwnM D.K (D.ca c) "__rmul__" f) (hsub : PySem.W.subIn D.K (.ref (D.ca c)) (.type "int") = some false)
    (F : FnOk X.prog X.w X.K X.mg X.base (L2.CX X.prog X.w) k f fd ps (spM D 2 m)) (hr : Room k X.A) (hb : Binds X.K fd ps []) (ha : EX X D φ W a fa) (hb' : EX X D φ W b fb) (hK : X.K = D.K := by rfl) :
    EX X D φ W (.BinOp a .Mult b pos) (eOwnR c m fa fb) :=
  ⟨⟨fun pins s σ H Q I h => wpAny_BinOp (binT ha.pe hb'.pe I (ownR_rd h) fun v u s2 x y H2 I2 rx ry q => by
    obtain ⟨a, dx, fs, i, rfl, rfl, ha, hsp⟩ := q
    cases ry
    obtain ⟨t, rfl⟩ := rx
    obtain ⟨od, J⟩ := ins_at I2 ha
    obtain ⟨mm, hF⟩ := I2.fr
    have run := run_fnS (us := [.ref a, .int i t]) (vs := [.ref a, .int i]) F hr hb (passAt tk σ) I2 (.cons rfl (.cons ⟨_, rfl⟩ .nil)) hsp
    unfold binaryOp
    refine wpAny_holding (wpAny_bind (binop1R_K (I2.ok.mod.kin.keeps hF.keep) J (by rw [hK]; exact hc) (by rw [hK]; exact hs) (by rw [hK]; exact O.hs) (by rw [hK]; exact O.hf) (by rw [hK]; exact hsub) J.at_ (thn run fun w s' hq => ?_)))
    obtain ⟨z, H', I', rz, q⟩ := hq
    exact relV_noNot rz (wpAny_pure ⟨z, H', I', rz, q⟩))⟩⟩
end
end VI

set_option Elab.async false
set_option linter.all false
set_option maxRecDepth 100000
set_option maxHeartbeats 4000000
namespace VI
open PySem L2 PySem.Spec PyProof.Rows PpSet

/-! ### set(xs), xs a list of ints -/
section
variable {P : Program} {w : World} {A : Around} {E : Value → Shared → Prop} {s : Shared}
/-- the empty set as the code lays it -/
abbrev bare (w : World) : Obj := { cls := .type "set", dict := none, data := .set #[] 0 (.fresh 0 0 (!w.params.followText "set-order")) }
theorem fill_list {l : Addr} {vs : Array Value} (ns : List Int) {R : Result → Shared → Prop} (hh : A.handled = none) (hl : s.heap.IsList l vs) (hi : IntsAre vs.toList ns) (hb : ns.length + 1 < scanBound)
    (h : ∀ h' tk c, SetR w h' s.heap.objs.size (fun j => decide (j ∈ ns)) c → (∀ b o, s.heap.get? b = some o → h'.get? b = some o) → R (.ok (.ret .none)) { s with heap := h', toks := tk }) :
    codeAny (model P w) A (.builtin "set.update.loop" ⟨[.ref s.heap.objs.size, .ref (s.heap.push (bare w)).objs.size], []⟩) R { s with heap := (s.heap.push (bare w)).push { cls := .type "list_iterator", data := .fields #[.ref l, .int 0 0] } } := by
  have sz : vs.size = ns.length := by have q := IntsAre.length hi; rwa [Array.length_toList] at q
  have z1 : (s.heap.push (bare w)).objs.size = s.heap.objs.size + 1 := Heap.size_push ..
  have lt : l < s.heap.objs.size := by obtain ⟨o, ho, _⟩ := hl; exact Heap.lt_size ho
  have hl1 : (s.heap.push (bare w)).IsList l vs := hl.push _
  have val : ∀ (i : Nat) (v : Value), vs[i]? = some v → ∃ k t, ns[i]? = some k ∧ v = .int k t := fun i v hv => by
    have il : i < ns.length := by rw [← sz]; exact (Array.getElem?_eq_some_iff.mp hv).1
    obtain ⟨t, e⟩ := IntsAre.int_at hi i v (by rw [Array.getElem?_toList]; exact hv)
    exact ⟨ns[i], t, List.getElem?_eq_getElem il, by rw [e, List.getD_eq_getElem?_getD, List.getElem?_eq_getElem il]; rfl⟩
  have wk := (Walks.list (prog := P) (w := w) (A := A.in1) (by simpa using hh) (s.heap.push (bare w)).objs.size l (by rw [z1]; exact Nat.ne_of_lt (Nat.lt_succ_of_lt lt)) vs).toS
  refine set_update_ints wk s.heap.objs.size (by rw [List.mem_cons, List.mem_singleton]; rintro (q | q); exact Nat.ne_of_lt (Nat.lt_succ_self _) (by rw [z1] at q; exact q); exact Nat.ne_of_gt lt q) ns sz hb val vs.size 0 _ (by omega) (Nat.zero_le _) ?_ ?_ ?_
  · exact ⟨⟨_, Heap.get?_push_size _ rfl, rfl, rfl⟩, hl1.push _⟩
  · exact ⟨0, Nat.le_refl 0, setR_new_at (Heap.get?_push_of_some _ (Heap.get?_push_size _ rfl))⟩
  · intro s' c hm _ hS
    obtain ⟨h', g', d', tk', os'⟩ := s'
    have eg : g' = s.gens := hm.gens
    have ed : d' = s.drawn := hm.drawn
    have eo : os' = s.os := hm.os
    subst eg ed eo
    refine h h' tk' c hS fun b o e => ?_
    have hb := Heap.lt_size e
    exact hm.heap b o (by rw [List.mem_cons, List.mem_singleton]; rintro (q | q); exact Nat.ne_of_lt hb q; exact Nat.ne_of_lt (Nat.lt_succ_of_lt hb) (by rw [z1] at q; exact q)) (Heap.get?_push_of_some _ (Heap.get?_push_of_some _ e))
theorem set_of_list {l : Addr} {vs : Array Value} (ns : List Int) {Q : Value → Shared → Prop} (hh : A.handled = none) (hl : s.heap.IsList l vs) (hi : IntsAre vs.toList ns) (hb : ns.length + 1 < scanBound)
    (h : ∀ h' tk c, SetR w h' s.heap.objs.size (fun j => decide (j ∈ ns)) c → (∀ b o, s.heap.get? b = some o → h'.get? b = some o) → Q (.ref s.heap.objs.size) { s with heap := h', toks := tk }) :
    wpAny (model P w) A (call (.type "set") [.ref l]) Q E s := by
  obtain ⟨m1, m2, hm⟩ := F.called_set.mro
  have c1 := F.called_set.made
  have c2 := F.called_set.sub
  have c3 := F.called_set.notType
  have c4 := F.called_set.canCreate
  have c5 := F.typeCall_set_1 (.ref l)
  refine wpAny_call (codeAny_of_tree ?_)
  show wpAny _ _ (callAny (.type "set") _) _ _ _
  refine wpAny_pure ⟨Code.quiet_builtin _ (by decide +kernel), codeAny_builtin F.entry_type_call ?_⟩
  rw [Around.under_plain (weight_type_call_type "set" [.ref l] []) rfl]
  repeat (any_goals (first | assumption | wp_step))
  refine codeAny_mono (code_set_led1 (.ref l) (E := E) (Q₁ := fun v s1 => v = .ref s.heap.objs.size ∧ s1 = { s with heap := s.heap.push (bare w) }) ⟨rfl, rfl⟩) fun r s1 hr => ?_
  rcases r with e | fl
  · exact hr
  cases fl with
  | ret v =>
    obtain ⟨rfl, rfl⟩ := hr
    have g0 : (s.heap.push (bare w)).get? s.heap.objs.size = some (bare w) := Heap.get?_push_size _ rfl
    have ty : Shared.TypeIs { s with heap := s.heap.push (bare w) } (.ref s.heap.objs.size) "set" := ⟨_, g0, rfl⟩
    have d1 := F.called_set.init.lookup
    have d2 := F.called_set.init.bind (.ref s.heap.objs.size)
    repeat (any_goals (first | assumption | wp_step))
    refine codeAny_mono (codeAny_call_builtin (R := wants (fun r s2 => r = .none ∧ ∃ h' tk c, s2 = { s with heap := h', toks := tk } ∧ SetR w h' s.heap.objs.size (fun j => decide (j ∈ ns)) c ∧ (∀ b o, s.heap.get? b = some o → h'.get? b = some o)) E) F.called_set.init.plain F.entry_set_init (check_set_init_1 ty ?_)) fun r2 s2 hr2 => ?_
    · obtain ⟨⟨k1, k2, k3, k4⟩, ho, k5, k6, k7⟩ := hl
      simp only at k5 k7
      subst k5 k7
      have hp : (s.heap.push (bare w)).IsList l vs := ⟨_, Heap.get?_push_of_some _ ho, rfl, k6, rfl⟩
      have g1 := Heap.get?_push_of_some (bare w) ho
      have t1 := F.sub_list_set
      have t2 := F.sub_list_frozenset
      have t3 : (Value.type "list" == Value.type "dict") = false := by decide
      unfold Builtin.«set.__init__» noKeywords Builtin.Frozenset.updateFrom
      generalize hPI : pyIter = PI
      wp_walk
      subst hPI
      refine wpAny_pyIter_list hp ?_
      refine wpAny_bind (wpAny_runValue ?_)
      refine fill_list ns (by simp [hh]) ⟨_, ho, rfl, k6, rfl⟩ hi hb fun h' tk c hS hk => ?_
      exact wpAny_pure (wpAny_pure ⟨rfl, h', tk, c, rfl, hS, hk⟩)
    · rcases r2 with e | f2
      · exact hr2
      cases f2 with
      | ret r =>
        obtain ⟨rfl, h', tk, c, rfl, hS, hk⟩ := hr2
        repeat (any_goals (first | assumption | wp_step))
        exact h _ _ _ hS hk
      | _ => exact hr2.elim
  | _ => exact hr.elim
end
section
variable {X : Cx}
theorem setR_size {w : World} {h : Heap} {a : Addr} {ns : List Int} {c : Nat} (R : SetR w h a (fun j => decide (j ∈ ns)) c) : c = (srtU ns).length := by
  obtain ⟨o, es, ep, t, _, _, _, _, nd, mem, _, _, sz, _⟩ := R
  have p : (es.toList.map keyOf).Perm (srtU ns) := (List.perm_ext_iff_of_nodup nd ((srtU_sorted ns).imp fun h => Int.ne_of_lt h)).mpr fun k => by
    rw [← mem k, mem_srtU, decide_eq_true_eq]
  have := p.length_eq
  rw [List.length_map, Array.length_toList, sz] at this
  exact this
/-- set(xs) -/
def rSetLI (K : PySem.W.Frag) (w : World) : List V → Hp → VK → Prop := fun xs H Q => ∃ (l : Addr) (ns : List Int), xs = [.ref l] ∧ SqL K H l (ns.map V.int) ∧ ns.length ≤ 4000 ∧ ∀ L, H L = none → Q (.ref L) (upd H L (SetO w L (fun j => decide (j ∈ ns)) (srtU ns).length))
theorem cr_setLI (hc : X.calm = true) : CallR X (.type "set") (rSetLI X.K X.w) := by
  intro pins s σ H xs us Q I r h
  obtain ⟨l, ns, rfl, hq, hl, q⟩ := h
  cases r with
  | cons r rr =>
    cases rr
    cases r
    obtain ⟨its, rv, pl, hz⟩ := I.list hq
    refine set_of_list ns (I.ok.hd hc) pl.isList (by simpa using ints_of_vals rv) (by unfold scanBound; omega) fun h' tk c hS hk => ?_
    have e := setR_size hS
    subst e
    exact ⟨.ref _, upd H s.heap.objs.size (SetO X.w s.heap.objs.size (fun j => decide (j ∈ ns)) (srtU ns).length), I.laid (t' := tk) hk (Nat.le_refl _) (setO_new hS), rfl, q _ (I.hok.fresh (Nat.le_refl _))⟩
end
section
variable {X : Cx} {D : Wd} {φ : Fr} {W : WX}
def vSet (fa : AF) : Ro → R (List Int) := fun ρ => (fa ρ).bind fun xs ρ1 => match derefs ρ1 xs with
  | some [.lst ts] => (match intsT ts with
    | some ns => if ns.length ≤ 4000 then .ok ns ρ1 else .bad
    | none => .bad)
  | _ => .bad
theorem pe_vSet {e : Expr} {fa : AF} {p pos : Pos} (hK : D.K = X.K) (hc : X.calm = true) (hg : Gl X "set") (hm : X.mg "set" = none) (ha : AX X D φ W [e] fa) (he : starEach (e :: []) X.env = (false, eval e X.env) :: starEach [] X.env := by rfl) (hpl : (backTo pos (starEach [] X.env)).any (·.1) = false := by rfl) :
    PE X (.Call (.Name "set" p) [e] [] pos) (rdV D φ W X.w (vSet fa)) :=
  pe_mono (pe_callTy (cr_setLI hc) hg hm boot_set ha.pa (by decide) (by decide) he hpl) fun σ H Q ⟨G, ρ, r, pp⟩ => by
    refine ⟨G, ρ, r, Post.imp (Post.bind pp) fun xs ρ1 G1 H1 s1 r1 p1 vs hvs => ?_⟩
    cases ed : derefs ρ1 xs with
    | none => rw [ed] at p1; exact p1.elim
    | some ts =>
      rw [ed] at p1
      have hr := hvs.use r1 ed
      split at p1
      · rename_i us e1
        cases e1
        split at p1
        · rename_i ns e2
          split at p1
          · rename_i hl
            obtain ⟨x, rfl, a, vs, rfl, h1, h2⟩ := hr.one_of
            rw [intsT_of e2] at h2
            have hv := reps_ints.mp h2
            subst hv
            refine ⟨a, ns, rfl, by rw [← hK]; exact .of h1, hl, fun L hL => ?_⟩
            exact p1 G1 _ (.refl _) (r1.grow (Same.fresh_up hL)) L upd_same (same_none r1.sub hL) (r1.gone hL) (r1.gonePin hL) (r1.not_mut hL)
          · exact p1.elim
        · exact p1.elim
      · exact p1.elim
end
end VI

set_option Elab.async false
set_option linter.all false
set_option maxRecDepth 100000
set_option maxHeartbeats 4000000
namespace VI
open PySem L2 PySem.Spec PyProof.Rows

/-! ### sorted of a list of pairs of ints -/
def leP (p q : Int × Int) : Bool := decide (p.1 < q.1 ∨ p.1 = q.1 ∧ p.2 ≤ q.2)
def srtP (ps : List (Int × Int)) : List (Int × Int) := ps.mergeSort leP
theorem srtP_perm (ps : List (Int × Int)) : (srtP ps).Perm ps := List.mergeSort_perm ps _
theorem srtP_sorted (ps : List (Int × Int)) : (srtP ps).Pairwise (fun p q => leP p q = true) :=
  List.pairwise_mergeSort (le := leP) (fun a b c h1 h2 => by simp only [leP, decide_eq_true_eq] at *; omega) (fun a b => by simp only [leP, Bool.or_eq_true, decide_eq_true_eq]; omega) ps
theorem srtP_unique {xs ps : List (Int × Int)} (p : xs.Perm ps) (h : xs.Pairwise (fun p q => leP p q = true)) : xs = srtP ps :=
  (p.trans (srtP_perm ps).symm).eq_of_pairwise (fun x y _ _ h1 h2 => by
    simp only [leP, decide_eq_true_eq] at h1 h2
    obtain ⟨x1, x2⟩ := x
    obtain ⟨y1, y2⟩ := y
    simp only [Prod.mk.injEq] at *
    omega) h (srtP_sorted ps)
def rSortedPT (K : PySem.W.Frag) : List V → Hp → VK → Prop := fun vs H Q => ∃ (a : Addr) (zs : List (V × (Int × Int))), vs = [V.ref a] ∧ SqL K H a (zs.map (·.1)) ∧ (∀ z ∈ zs, ∃ t, z.1 = V.ref t ∧ SqT K H t [.int z.2.1, .int z.2.2]) ∧
  ∀ (zs' : List (V × (Int × Int))) p, zs'.Perm zs → zs'.map (·.2) = srtP (zs.map (·.2)) → H p = none → Q (.ref p) (upd H p (.lst (zs'.map (·.1))))
open Classical in
noncomputable def keyP (zs : List (V × (Int × Int))) (v : V) : Int × Int := ((zs.find? fun z => decide (z.1 = v)).map (·.2)).getD (0, 0)
section
variable {X : Cx}
theorem cr_sortedPT : CallR X (.builtin "sorted") (rSortedPT X.K) := by
  intro pins s σ H vs us Q I r h
  obtain ⟨a, zs, rfl, hs, hx, q⟩ := h
  have hk : ∀ z ∈ zs, keyP zs z.1 = z.2 := fun z hz => by
    unfold keyP
    cases hf : zs.find? fun y => decide (y.1 = z.1) with
    | none => exact absurd (List.find?_eq_none.mp hf z hz) (by simp)
    | some y =>
      have hy := List.mem_of_find?_eq_some hf
      have he : y.1 = z.1 := by simpa using List.find?_some hf
      obtain ⟨t, e1, h1⟩ := hx z hz
      obtain ⟨t', e2, h2⟩ := hx y hy
      rw [he, e1] at e2
      cases e2
      have := I.tuple_inj h1 h2
      simp only [Option.map_some, Option.getD_some]
      injection this with a1 a2
      injection a2 with a2 _
      injection a1 with a1
      injection a2 with a2
      exact Prod.ext a1.symm a2.symm
  obtain ⟨its, rv, hl, hz⟩ := I.list hs
  obtain ⟨u, rfl, ru⟩ := vals1 r
  obtain rfl : u = Value.ref a := ru
  obtain ⟨e1, e2⟩ := refs_back rv fun x m => by
    obtain ⟨z, hz, rfl⟩ := List.mem_map.mp m
    obtain ⟨t, e, _⟩ := hx z hz
    exact ⟨t, e⟩
  refine SrtO.sorted_pairsO (k := fun u => keyP zs (backV u)) hl.isList (by rw [← rv.length]; exact hz) (fun v hv => ?_) fun h' d out h1 h2 kp hd hn => ?_
  · obtain ⟨t, rfl⟩ := e2 v hv
    have hm : V.ref t ∈ zs.map (·.1) := by rw [e1]; exact List.mem_map.mpr ⟨_, hv, rfl⟩
    obtain ⟨z, hz, ez⟩ := List.mem_map.mp hm
    obtain ⟨t', e, ht⟩ := hx z hz
    have e3 : t' = t := by rw [ez] at e; cases e; rfl
    subst e3
    have hkz : keyP zs (backV (Value.ref t')) = z.2 := by
      rw [← hk z hz, ez]; rfl
    rw [hkz]
    obtain ⟨its2, r2, ⟨o, ho, hc, n, hd⟩, _⟩ := I.tuple ht
    obtain ⟨u1, u2, rfl, ri, rj⟩ := vals2 r2
    obtain ⟨t1, rfl⟩ := ri
    obtain ⟨t2, rfl⟩ := rj
    exact ⟨t', o, t1, t2, n, rfl, ho, hc, hd⟩
  · have h3 : ∀ u ∈ out, ∃ a, u = Value.ref a := fun u hu => e2 u (h2.perm.mem_iff.mp hu)
    obtain ⟨n, hn⟩ := hn
    have hp : (out.map backV).Perm (zs.map (·.1)) := by rw [e1]; exact h2.perm.map backV
    have f1 : ((out.map backV).map fun v => (v, keyP zs v)).map (·.1) = out.map backV := by rw [List.map_map]; exact List.map_id (out.map backV)
    have f2 : ((out.map backV).map fun v => (v, keyP zs v)).Perm zs := by
      have := hp.map fun v => (v, keyP zs v)
      refine this.trans (List.Perm.of_eq ?_)
      rw [List.map_map]
      conv => rhs; rw [← List.map_id zs]
      exact List.map_congr_left fun z hz => Prod.ext rfl (hk z hz)
    have f3 : ((out.map backV).map fun v => (v, keyP zs v)).map (·.2) = srtP (zs.map (·.2)) := by
      refine srtP_unique (f2.map (·.2)) ?_
      rw [List.map_map, List.map_map, List.pairwise_map]
      refine h1.imp fun {u v} huv => ?_
      have := SrtO.lexB_no.mp huv
      simp only [leP, decide_eq_true_eq, Function.comp]
      omega
    have := q _ d f2 f3 (I.hok.fresh hd)
    rw [f1] at this
    refine ⟨.ref d, upd H d (.lst (out.map backV)), I.laid (t' := s.toks) kp hd ⟨?_, out, n, vals_back h3, hn⟩, rfl, this⟩
    have := hp.length_eq
    rw [this]
    exact hz
end
def pairT (p : Int × Int) : T := .tup [.int p.1, .int p.2]
def pairsT : List T → Option (List (Int × Int))
  | [] => some []
  | .tup [.int i, .int j] :: ts => (pairsT ts).map ((i, j) :: ·)
  | _ :: _ => none
theorem pairsT_of : ∀ {ts : List T} {ps : List (Int × Int)}, pairsT ts = some ps → ts = ps.map pairT
  | [], ps, h => by cases h; rfl
  | .tup [.int i, .int j] :: us, ps, h => by
    rw [pairsT] at h
    cases hp : pairsT us with
    | none => rw [hp] at h; cases h
    | some qs => rw [hp] at h; cases h; rw [List.map_cons, ← pairsT_of hp]; rfl
theorem pairsT_pairs : ∀ (ps : List (Int × Int)), pairsT (ps.map pairT) = some ps
  | [] => rfl
  | p :: ps => by rw [List.map_cons, pairT, pairsT, pairsT_pairs ps]; rfl
def bSortedP : List T → Out
  | [.lst ts] => (match pairsT ts with | some ps => .l ((srtP ps).map pairT) | none => .no)
  | _ => .no
section
variable {D : Wd}
theorem reps_zip {G : Hp} {α : Type} {f : α → T} : ∀ {ps : List α} {vs : List V}, Reps D G (ps.map f) vs → ∃ zs : List (V × α), zs.map (·.1) = vs ∧ zs.map (·.2) = ps ∧ ∀ z ∈ zs, Rep D G (f z.2) z.1
  | [], vs, h => by cases h; exact ⟨[], rfl, rfl, fun z hz => by simp at hz⟩
  | p :: ps, vs, ⟨v, r, e, h, q⟩ => by
    subst e
    obtain ⟨zs, e1, e2, e3⟩ := reps_zip q
    refine ⟨(v, p) :: zs, by rw [List.map_cons, e1], by rw [List.map_cons, e2], fun z hz => ?_⟩
    rcases List.mem_cons.mp hz with rfl | hz
    · exact h
    · exact e3 z hz
theorem zip_reps {G : Hp} {α : Type} {f : α → T} : ∀ {zs : List (V × α)}, (∀ z ∈ zs, Rep D G (f z.2) z.1) → Reps D G ((zs.map (·.2)).map f) (zs.map (·.1))
  | [], _ => rfl
  | z :: zs, h => ⟨z.1, zs.map (·.1), rfl, h z (by simp), zip_reps fun y hy => h y (by simp [hy])⟩
theorem opN_sortedP : OpN D (rSortedPT D.K) bSortedP := fun G H xs ts Q s h ho => by
  unfold bSortedP at ho
  split at ho
  · split at ho
    · rename_i ps e
      obtain ⟨x, rfl, a, vs, rfl, h1, h2⟩ := h.one_of
      rw [pairsT_of e] at h2
      obtain ⟨zs, e1, e2, e3⟩ := reps_zip h2
      refine ⟨a, zs, rfl, .of (by rw [e1]; exact h1), fun z hz => ?_, fun zs' p hp hs hn => ?_⟩
      · obtain ⟨t, us, e4, h4, h5⟩ := e3 z hz
        have : us = [.int z.2.1, .int z.2.2] := reps_ints (ns := [z.2.1, z.2.2]) |>.mp h5
        subst this
        exact ⟨t, e4, same_t s h4⟩
      · have := zip_reps (D := D) (G := G) (f := pairT) (zs := zs') fun z hz => e3 z (hp.mem_iff.mp hz)
        rw [hs, e2] at this
        exact ho p _ _ (Same.fresh_up hn) hn upd_same this
    · exact ho.elim
  · exact ho.elim
end

/-! ### min of two tuples of ints -/
def ltI : List Int → List Int → Bool
  | _, [] => false
  | [], _ :: _ => true
  | x :: xs, y :: ys => if x = y then ltI xs ys else decide (x < y)
theorem ltI_at : ∀ (xs ys : List Int), Ob.lexAt (fun j => decide (xs.getD j 0 = ys.getD j 0)) (fun j => decide (xs.getD j 0 < ys.getD j 0)) (decide (xs.length < ys.length)) 0 (min xs.length ys.length) = ltI xs ys := by
  have go : ∀ (k : Nat) (xs ys : List Int) (i : Nat), min xs.length ys.length - i = k → i ≤ min xs.length ys.length →
      Ob.lexAt (fun j => decide (xs.getD j 0 = ys.getD j 0)) (fun j => decide (xs.getD j 0 < ys.getD j 0)) (decide (xs.length < ys.length)) i k = ltI (xs.drop i) (ys.drop i) := by
    intro k
    induction k with
    | zero =>
      intro xs ys i h h'
      rw [Ob.lexAt_zero]
      by_cases hc : ys.length ≤ xs.length
      · rw [List.drop_of_length_le (l := ys) (by omega), decide_eq_false (by omega)]
        unfold ltI; rfl
      · rw [List.drop_of_length_le (l := xs) (by omega), decide_eq_true (by omega), List.drop_eq_getElem_cons (l := ys) (by omega)]
        rfl
    | succ k ih =>
      intro xs ys i h h'
      have h1 : i < xs.length := by omega
      have h2 : i < ys.length := by omega
      rw [Ob.lexAt_succ, List.drop_eq_getElem_cons h1, List.drop_eq_getElem_cons h2, ltI]
      have g1 : xs.getD i 0 = xs[i] := by simp [h1]
      have g2 : ys.getD i 0 = ys[i] := by simp [h2]
      rw [g1, g2]
      by_cases c : xs[i] = ys[i]
      · rw [if_pos c, if_pos (decide_eq_true c)]
        exact ih xs ys (i + 1) (by omega) (by omega)
      · rw [if_neg c, if_neg (by simpa using c)]
  intro xs ys
  have := go _ xs ys 0 rfl (by omega)
  simpa using this
section
variable {prog : Program} {w : World} {A : Around} {E : Value → Shared → Prop} {s : Shared}
theorem call_min_twoH {a b : Value} {Q : Value → Shared → Prop}
    (h : wpAny (model prog w) A.in1 (pyIter (.ref s.heap.objs.size)) (fun it s₂ => ∃ I fp wr G n P St H bt, it = .ref I ∧ WalksS prog w A.in1 I fp wr G n P St ∧ St 0 s₂ ∧ (∀ b ∈ fp, b < s₂.heap.objs.size) ∧ 0 < n ∧
      (∀ b o, H.get? b = some o → b ∉ wr) ∧ (∀ b o, H.get? b = some o → s₂.heap.get? b = some o) ∧ CmpIn prog w A.in1 .Lt H P bt ∧ ∀ v s', P (argBest bt (n - 1)) v → Moved wr G s₂ s' → Q v s') E
      { s with heap := s.heap.push { cls := .type "tuple", data := .seq #[a, b] } }) :
    wpAny (model prog w) A (call (.builtin "min") [a, b]) Q E s := by
  have hname : (toString "min" ++ toString ".loop" : String) = "min.loop" := by decide
  refine call_function_tree F.kind_min F.plain_min F.entry_min (F.args_min2 _ _) ?_
  show wpAny _ A.in1 (Builtin.Builtins.bindParams "min" ["key", "default"] 0 ⟨[], []⟩ >>= _) _ _ s
  refine wpAny_bind (wpAny_of_eq (show Builtin.Builtins.bindParams "min" ["key", "default"] 0 ⟨[], []⟩ = pure [none, none] from rfl) ?_)
  show wpAny _ A.in1 (newTuple [a, b] >>= _) _ _ s
  refine wpAny_bind (wpAny_newObj_type ?_)
  refine wpAny_bind (wpAny_mono h (fun it s₂ h₂ => ?_) fun _ _ e => e)
  obtain ⟨I, fp, wr, G, n, P, St, H, bt, rfl, W, hst, hfp, hn, hw, hkeep, hcmp, hQ⟩ := h₂
  refine wpAny_bind (wpAny_newObj_type ?_)
  have hSf : s₂.heap.objs.size ∉ fp := fun hm => Nat.lt_irrefl _ (hfp _ hm)
  rw [hname]
  refine wpAny_pure ⟨plainId_quiet F.plain_min_loop _, codeAny_min_loop_firstH W H hw bt hcmp s₂.heap.objs.size hSf (fresh_in hkeep) _ hn (fun b o e => Heap.get?_push_of_some _ (hkeep b o e)) (W.frame 0 s₂ _ s₂.toks hst (Nat.le_refl _) fun b _ o e => Heap.get?_push_of_some _ e) (Heap.get?_push_size _ rfl) fun v s' hP hm => ?_⟩
  exact hQ v s' hP (Moved.drop_new (tk := s₂.toks) hm (Nat.le_refl _))
theorem tup_keeps {h h' : Heap} {a : Addr} {its : Array Value} (k : ∀ b o, h.get? b = some o → h'.get? b = some o) (t : h.IsTuple a its) : h'.IsTuple a its := by
  obtain ⟨o, e, r⟩ := t; exact ⟨o, k _ _ e, r⟩
theorem lt_tups {s : Shared} {A : Around} {x y : Addr} {its its2 : List Value} {ns ms : List Int} (hu : A.units < cLine) (p1 : s.heap.IsTuple x its.toArray) (p2 : s.heap.IsTuple y its2.toArray) (i1 : IntsAre its ns) (i2 : IntsAre its2 ms) : Ob.RcOp .Lt A s (.ref x) (.ref y) (ltI ns ms) := by
  have e1 : its.toArray.size = ns.length := by rw [List.size_toArray]; exact i1.length
  have e2 : its2.toArray.size = ms.length := by rw [List.size_toArray]; exact i2.length
  have at1 : ∀ j (h1 : j < its.toArray.size), ∃ t, its.toArray[j] = .int (ns.getD j 0) t := fun j h1 => PyProof.Rows.IntsAre.int_at i1 _ _ (by simp at h1; simp [h1])
  have at2 : ∀ j (h1 : j < its2.toArray.size), ∃ t, its2.toArray[j] = .int (ms.getD j 0) t := fun j h1 => PyProof.Rows.IntsAre.int_at i2 _ _ (by simp at h1; simp [h1])
  have R := Ob.RcOp.tuples_lt (A := A) (s := s) (e := fun j => decide (ns.getD j 0 = ms.getD j 0)) (r := fun j => decide (ns.getD j 0 < ms.getD j 0)) p1 p2 hu (fun j h1 h2 => by
    obtain ⟨t, et⟩ := at1 j h1
    obtain ⟨t', et'⟩ := at2 j h2
    rw [et, et']
    have z : (ns.getD j 0 == ms.getD j 0) = decide (ns.getD j 0 = ms.getD j 0) := by
      by_cases q : ns.getD j 0 = ms.getD j 0
      · rw [decide_eq_true q]; exact beq_iff_eq.mpr q
      · rw [decide_eq_false q]; exact beq_eq_false_iff_ne.mpr q
    rw [← z]
    exact SeqAt.EqAt.int_int _ _ _ _) (fun j h1 h2 _ => by
    obtain ⟨t, et⟩ := at1 j h1
    obtain ⟨t', et'⟩ := at2 j h2
    rw [et, et']
    exact Ob.RcOp.lt_int _ _ _ _)
  rw [e1, e2, ltI_at] at R
  exact R
theorem min_two_tups {x y : Addr} {its its2 : List Value} {ns ms : List Int} {Q : Value → Shared → Prop} (hh : A.handled = none) (hu : A.units + 1 < cLine) (p1 : s.heap.IsTuple x its.toArray) (p2 : s.heap.IsTuple y its2.toArray) (i1 : IntsAre its ns) (i2 : IntsAre its2 ms)
    (h : ∀ h' tk, (∀ c o, s.heap.get? c = some o → h'.get? c = some o) → Q (if ltI ms ns then .ref y else .ref x) { s with heap := h', toks := tk }) :
    wpAny (model prog w) A (call (.builtin "min") [.ref x, .ref y]) Q E s := by
  refine call_min_twoH ?_
  have hk0 : ∀ b o, s.heap.get? b = some o → (s.heap.push { cls := .type "tuple", data := .seq #[.ref x, .ref y] }).get? b = some o := fun b o e => Heap.get?_push_of_some _ e
  have hT : (s.heap.push { cls := .type "tuple", data := .seq #[.ref x, .ref y] }).IsTuple s.heap.objs.size #[.ref x, .ref y] := ⟨_, Heap.get?_push_size _ rfl, rfl, 0, rfl⟩
  refine PySem.W.iter_tupleW (s := { s with heap := s.heap.push { cls := .type "tuple", data := .seq #[.ref x, .ref y] } }) (A := A.in1) hh hT (fun s₂ e W st hfp hw hk => ?_)
  refine ⟨_, _, _, _, _, _, _, (s.heap.push { cls := .type "tuple", data := .seq #[.ref x, .ref y] }), fun i j => ltI (if i = 0 then ns else ms) (if j = 0 then ns else ms), rfl, W, st, hfp, by simp, hw, hk, ?_, fun v s' hP m => ?_⟩
  · intro i j vi vj s' Q E hk' hi hj hq
    have q1 := tup_keeps (fun b o e => hk' b o (hk0 b o e)) p1
    have q2 := tup_keeps (fun b o e => hk' b o (hk0 b o e)) p2
    have two : ∀ {i : Nat} {v : Value}, (#[Value.ref x, Value.ref y] : Array Value)[i]? = some v → (i = 0 ∧ v = .ref x) ∨ (i = 1 ∧ v = .ref y) := fun {i v} h => by
      match i with
      | 0 => simp at h; exact .inl ⟨rfl, h.symm⟩
      | 1 => simp at h; exact .inr ⟨rfl, h.symm⟩
      | n + 2 => simp at h
    rcases two hi with ⟨rfl, rfl⟩ | ⟨rfl, rfl⟩ <;> rcases two hj with ⟨rfl, rfl⟩ | ⟨rfl, rfl⟩
    · exact lt_tups (A := A.in1) hu q1 q1 i1 i1 _ _ _ _ hq
    · exact lt_tups (A := A.in1) hu q1 q2 i1 i2 _ _ _ _ hq
    · exact lt_tups (A := A.in1) hu q2 q1 i2 i1 _ _ _ _ hq
    · exact lt_tups (A := A.in1) hu q2 q2 i2 i2 _ _ _ _ hq
  · obtain ⟨h', tk, rfl, hk'⟩ := PySem.W.moved_old e rfl m
    have hv : v = if ltI ms ns then Value.ref y else Value.ref x := by
      have e2 : (#[Value.ref x, Value.ref y] : Array Value).size - 1 = 1 := rfl
      rw [e2] at hP
      simp only [argBest] at hP
      by_cases c : ltI ms ns = true
      · simp [c] at hP; rw [if_pos c]; exact hP.symm
      · simp [c] at hP; rw [if_neg c]; exact hP.symm
    rw [hv]
    exact h h' tk fun c o e => hk' c o (hk0 c o e)
end
section
variable {X : Cx}
def rMinT (K : PySem.W.Frag) : List V → Hp → VK → Prop := fun xs H Q => ∃ (a b : Addr) (ns ms : List Int), xs = [.ref a, .ref b] ∧ SqT K H a (ns.map V.int) ∧ SqT K H b (ms.map V.int) ∧ Q (if ltI ms ns then .ref b else .ref a) H
theorem call_min2T (hc : X.calm = true) (hu : X.A.units + 64 < cLine) : CallR X (.builtin "min") (rMinT X.K) := by
  intro pins s σ H xs us Q I r h
  obtain ⟨a, b, ns, ms, rfl, ha, hb, q⟩ := h
  obtain ⟨u, w', rfl, ru, rw'⟩ := vals2 r
  obtain rfl : u = Value.ref a := ru
  obtain rfl : w' = Value.ref b := rw'
  obtain ⟨its, r1, p1, _⟩ := I.tuple ha
  obtain ⟨its2, r2, p2, _⟩ := I.tuple hb
  refine min_two_tups (I.ok.hd hc) (by omega) p1 p2 (Vals.ints r1) (Vals.ints r2) fun h' tk k => ⟨_, H, I.kept k, ?_, q⟩
  by_cases c : ltI ms ns = true
  · rw [if_pos c, if_pos c]; rfl
  · rw [if_neg c, if_neg c]; rfl
end
def bMinT : List T → Out
  | [.tup ts, .tup us] => (match intsT ts, intsT us with | some ns, some ms => .v (if ltI ms ns then .tup us else .tup ts) | _, _ => .no)
  | _ => .no
theorem opN_minT {D : Wd} : OpN D (rMinT D.K) bMinT := fun G H xs ts Q s h ho => by
  unfold bMinT at ho
  split at ho
  · split at ho
    · rename_i ns ms e1 e2
      obtain ⟨x, y, rfl, hx, hy⟩ := h.two_of
      obtain ⟨a, vs, rfl, h1, h2⟩ := id hx
      obtain ⟨b, ws, rfl, h3, h4⟩ := id hy
      rw [intsT_of e1] at h2
      rw [intsT_of e2] at h4
      have hv := reps_ints.mp h2
      have hw := reps_ints.mp h4
      subst hv hw
      refine ⟨a, b, ns, ms, rfl, same_t s h1, same_t s h3, ?_⟩
      by_cases c : ltI ms ns = true
      · rw [if_pos c] at ho ⊢; exact ho _ H (.refl _) hy
      · rw [if_neg c] at ho ⊢; exact ho _ H (.refl _) hx
    · exact ho.elim
  · exact ho.elim
end VI

set_option Elab.async false
set_option linter.all false
set_option maxRecDepth 100000
set_option maxHeartbeats 4000000
namespace VI
open PySem L2 PySem.Spec PyProof.Rows

/-! ### x += y, own class without an in-place method -/
end VI
namespace PySem.W
open PySem PySem.Calls PyProof.Rows Builtin
theorem obj_no_iadd : typeLookup (.type "object") (dunderI "add") = pure none := by rw [typeLookup_type, builtinLookup_eq_fast]; kernel_rfl
section
variable {prog : Program} {w : World} {A : Around} {E : Value → Shared → Prop} {s : Shared} {K : Frag} {h₀ : Heap} {L : Addr} {m : Str → Option Value} {x C : Addr} {ox : Obj} {od : Option Obj} {f : Addr}
theorem noFillsI {M : Model} {h : Heap} {cd : ClassData} {nm : String} {add : Bool} (X : K.In h) (hc : clsIn K C = some cd) (hm : cd.mro = [.ref C, .type "object"]) (hs : findIn K (.ref C) (dunderI nm) = some none) (ho : typeLookup (.type "object") (dunderI nm) = pure none) : Looks M h (fillsInplaceSlot (.ref C) nm add) false := by
  intro A Q E s k q
  have Lm : Looks M h (mroOf (.ref C)) cd.mro := (looks_clsIn X hc).andThen (f := fun cd => pure cd.mro) .now
  have Lm' := Lm.keeps k
  obtain ⟨hh, g, d, tt, os⟩ := s
  have X' : K.In hh := X.keeps k
  have L1 : Looks M hh (typeLookup (.ref C) (dunderI nm)) none := looks_findIn X' hs
  unfold fillsInplaceSlot
  refine wpAny_bind (Lm'.at ?_)
  rw [hm, List.anyM_cons]
  refine wpAny_bind (wpAny_bind (L1.at ?_))
  refine wpAny_pure ?_
  simp only [Bool.false_eq_true, if_false]
  rw [List.anyM_cons]
  refine wpAny_bind ?_
  rw [ho]
  refine wpAny_bind (wpAny_pure ?_)
  refine wpAny_pure ?_
  simp only [Bool.false_eq_true, if_false]
  exact wpAny_pure q
theorem inplace_K {op : Operator} {b : Value} {cd : ClassData} {Q : Value → Shared → Prop} (F : PyProof.Rows.Fr h₀ L s.heap m) (X₀ : K.In h₀) (I : PySem.W.InstAt s.heap x ox C od) (hb : Looks (model prog w) s.heap (typeOf b) (.ref C)) (hcd : clsIn K C = some cd) (hm : cd.mro = [.ref C, .type "object"])
    (hi : findIn K (.ref C) (dunderI op.info.2) = some none) (ho : typeLookup (.type "object") (dunderI op.info.2) = pure none)
    (hs : findIn K (.ref C) (PySem.dunder op.info.2) = some (some (.ref f))) (hf : isFn K (.ref f) = true)
    (h : wpAny (model prog w) A (call (.ref f) [.ref x, b]) (PySem.W.CmpBack Q) E s) : wpAny (model prog w) A (inplaceOp op (.ref x) b) Q E s := by
  have X := X₀.keeps F.keep
  unfold inplaceOp
  refine wpAny_holding (wpAny_bind (I.type.here (wpAny_bind ((noFillsI X hcd hm hi ho).here ?_))))
  simp only [Bool.false_eq_true, if_false]
  refine wpAny_bind ?_
  unfold binaryOp1
  refine wpAny_bind (I.type.here (wpAny_bind (hb.here (wpAny_bind ((fills_K X hcd hm hs).here ?_)))))
  simp only [beq_self_eq_true, if_true]
  refine wpAny_bind (wpAny_pure ?_)
  simp only [Bool.and_false, Bool.false_eq_true, if_false, Bool.false_and]
  refine wpAny_bind (wpAny_pure ?_)
  simp only [Bool.false_eq_true, if_false]
  refine wpAny_bind (m := tryMethod (.ref x) _ b) ?_
  unfold tryMethod
  refine wpAny_bind (special_fn X I hs (beq_iff_eq.mp hf) (wpAny_mono h (fun v s' hv => ?_) fun _ _ e => e))
  cases v <;> first | exact hv.elim | exact wpAny_pure (wpAny_pure (wpAny_pure hv))
end
end PySem.W
namespace VI
open PySem L2 PySem.Spec PyProof.Rows
section
variable {X : Cx} {D : Wd} {φ : Fr} {W : WX} {e : Expr} {fa : EF} {pos : Pos} {m : Ro → R EV} {k : Nat} {f : Addr} {fd : FuncData} {ps : List Str}
structure NoInp (K : PySem.W.Frag) (C : Addr) (nm : String) : Prop where
  cls : ∃ cd, PySem.W.clsIn K C = some cd ∧ cd.mro = [.ref C, .type "object"]
  no : PySem.W.findIn K (.ref C) (dunderI nm) = some none
def ipOwn (D : Wd) (c : Nat) (m : Ro → R EV) : TIp := fun x y H Q => ∃ a b dx dy fs gs, x = .ref a ∧ y = .ref b ∧ H a = some (.ins (D.ca c) dx fs) ∧ H b = some (.ins (D.ca c) dy gs) ∧ spM D 2 (noX m) [x, y] H Q (fun _ _ _ => False)
theorem ip_own {c : Nat} {n : Str} (tk : Takes X W) (O : OwnM D.K (D.ca c) n f) (hs : PySem.W.selfFirst D.K (D.ca c) = true) (N : NoInp D.K (D.ca c) "add") (hn : PySem.dunder "add" = n) (F : FnOk X.prog X.w X.K X.mg X.base (L2.CX X.prog X.w) k f fd ps (spM D 2 m)) (hr : Room k X.A) (hb : Binds X.K fd ps []) (hK : X.K = D.K := by rfl) : PIp X .Add (ipOwn D c m) := by
  intro pins s σ H x y v u Q I rx ry q
  obtain ⟨a, b, dx, dy, fs, gs, rfl, rfl, ha, hb', hsp⟩ := q
  cases rx
  cases ry
  obtain ⟨od, J⟩ := ins_at I ha
  obtain ⟨od', J'⟩ := ins_at I hb'
  obtain ⟨mm, hF⟩ := I.fr
  obtain ⟨cd, h1, h2⟩ := N.cls
  refine PySem.W.inplace_K (op := .Add) hF I.ok.mod.kin J J'.type (by rw [hK]; exact h1) h2 (by rw [hK]; exact N.no) PySem.W.obj_no_iadd (by rw [hK]; show PySem.W.findIn D.K _ (PySem.dunder "add") = _; rw [hn]; exact O.hs) (by rw [hK]; exact O.hf) ?_
  exact thn (run_fnS (us := [.ref a, .ref b]) (vs := [.ref a, .ref b]) F hr hb (passAt tk σ) I (.cons rfl (.cons rfl .nil)) (noX_sp hsp)) fun w s' hq => by
    obtain ⟨z, H', I', rz, q⟩ := hq
    exact relV_noNot rz ⟨z, H', I', rz, q⟩
theorem noX_any {n : Nat} {vs : List V} {H : Hp} {Q : VK} {E E' : XK} (h : spM D n (noX m) vs H Q E) : spM D n (noX m) vs H Q E' := by
  obtain ⟨φ, ρ, h1, h2, h3, h4⟩ := h
  refine ⟨φ, ρ, h1, h2, h3, ?_⟩
  unfold noX at h4 ⊢
  cases e : m ρ with
  | ok x ρ1 => rw [e] at h4; exact h4
  | ex c ks ts ρ1 => rw [e] at h4; exact h4.elim
  | bad => rw [e] at h4; exact h4.elim
theorem tset_of {i : Nat} {E : Ends} {σ : L2.St} {H : Hp} {te : EF} (h : rdS D φ W (sSet i te) E σ H) : rdE D φ W te σ H fun z H1 => E.nx (σ.set i (some z)) H1 := by
  obtain ⟨G, ρ, r, p⟩ := h
  refine ⟨G, ρ, r, Post.imp (PostS.bind p) fun x ρ1 G1 H1 s1 r1 p1 v hv => ?_⟩
  cases x with
  | val t => exact p1 G1 _ H1 (.refl _) (r1.store hv)
  | own xs => exact p1 G1 _ H1 (.refl _) (r1.storeOwn hv)
  | pk i => exact p1.elim
theorem tvar_of {i : Nat} {σ : L2.St} {H : Hp} {Q : VK} (h : rdE D φ W (eVar i) σ H Q) : tVar i σ H Q := by
  obtain ⟨G, ρ, r, p⟩ := h
  unfold eVar at p
  split at p
  · rename_i t q
    obtain ⟨v, h1, h2⟩ := r.slot i _ q
    exact ⟨v, h1, p G H (.refl _) r v h2⟩
  · rename_i xs q
    obtain ⟨a, vs, h1, _⟩ := r.slot i _ q
    exact ⟨_, h1, p G H (.refl _) r _ h1⟩
  · rename_i xs q
    obtain ⟨a, vs, h1, _⟩ := r.slot i _ q
    exact ⟨_, h1, p G H (.refl _) r _ h1⟩
  · rename_i c ks ts q
    obtain ⟨a, dx, fs, h1, _⟩ := r.slot i _ q
    exact ⟨_, h1, p G H (.refl _) r _ h1⟩
  · rename_i t q
    obtain ⟨a, o, h1, _⟩ := r.slot i _ q
    exact ⟨_, h1, p G H (.refl _) r _ h1⟩
  · exact p.elim
theorem s_augO {i c : Nat} {x : Str} {n : Str} {pos' : Pos} (tk : Takes X W) (O : OwnM D.K (D.ca c) n f) (hs : PySem.W.selfFirst D.K (D.ca c) = true) (N : NoInp D.K (D.ca c) "add") (hn : PySem.dunder "add" = n) (F : FnOk X.prog X.w X.K X.mg X.base (L2.CX X.prog X.w) k f fd ps (spM D 2 m)) (hr : Room k X.A) (hb : Binds X.K fd ps [])
    (hN : X.N.Nodup) (hi : X.N[i]? = some x) (hx : Loc X.env.scope x) (he : EX X D φ W e fa) (hK : X.K = D.K := by rfl)
    (hf : X.fn x = true ∨ X.env.scope.names.lookup x = some .local := by first | exact .inl rfl | exact .inr rfl | assumption) : SX X D φ W (.AugAssign (.Name x pos') .Add e pos) (sSet i (eOwn2 c (noX m) (eVar i) fa)) :=
  ⟨ps_mono (ps_aug hN hi hx he.pe (ip_own tk O hs N hn F hr hb hK) hf) fun E σ H h => by
    obtain ⟨x, e1, h1⟩ := tvar_of (own2_rd (tset_of h))
    obtain ⟨G, ρ, r, p⟩ := h1
    refine ⟨x, e1, G, ρ, r, Post.imp p fun y ρ1 G1 H1 s1 r1 p1 v hv => ?_⟩
    have q := p1 v hv
    obtain ⟨a, b, dx, dy, fs, gs, ea, eb, ha, hb', hsp⟩ := q
    exact ⟨a, b, dx, dy, fs, gs, ea, eb, ha, hb', noX_any hsp⟩⟩
end
end VI

set_option Elab.async false
set_option linter.all false
set_option maxRecDepth 100000
set_option maxHeartbeats 4000000
namespace VI
open PySem L2 PySem.Spec PyProof.Rows
/-! ### f(x, a new list that f may change, ..) -/
def eCallO1 (ms : List Md) (m : Ro → R EV) (f0 fa : EF) (ga : AF) : EF := fun ρ => (f0 ρ).bind fun x0 ρ0 => match x0 with
  | .val t0 => (fa ρ0).bind fun x ρ1 => (match x with
    | .own xs => (ga ρ1).bind fun ys ρ2 => (match callM (.v :: .io :: ms) m (.val t0 :: .pk ρ2.length :: ys) (ρ2 ++ [.own xs]) with
      | .ok z ρ3 => retE z (ρ3.take ρ2.length)
      | .ex c ks ts ρ3 => .ex c ks ts (ρ3.take ρ2.length)
      | .bad => .bad)
    | _ => .bad)
  | _ => .bad
section
variable {X : Cx} {D : Wd} {φ : Fr} {W : WX} {f0 fa : EF} {ga : AF} {mm : Ro → R EV} {ms : List Md} {k : Nat} {f : Addr} {fd : FuncData} {ps : List Str} {x : Str} {p pos : Pos} {e0 e : Expr} {es : List Expr}
theorem e_callO1 (tk : Takes X W) (F : FnOk X.prog X.w X.K X.mg X.base (L2.CX X.prog X.w) k f fd ps (spM D (ms.length + 2) mm)) (hr : Room k X.A) (hg : Gl X x) (hm : X.mg x = some (.ref f)) (hk : PySem.W.keepIn X.K (.ref f) = true) (hb : Binds X.K fd ps [])
    (h0 : EX X D φ W e0 f0) (ha : EX X D φ W e fa) (hs : ∀ φ, AX X D φ W es ga) (hdb : (x == ("__debug__" : Str)) = false := by decide) (he0 : starEach (e0 :: e :: es) X.env = (false, eval e0 X.env) :: starEach (e :: es) X.env := by rfl) (he : starEach (e :: es) X.env = (false, eval e X.env) :: starEach es X.env := by rfl) (hpl : (backTo pos (starEach (e :: es) X.env)).any (·.1) = false := by rfl) :
    EX X D φ W (.Call (.Name x p) (e0 :: e :: es) [] pos) (eCallO1 ms mm f0 fa ga) :=
  ⟨pe_mono (pe_callS F hr hg hm hk hb (fun σ => passAt tk σ) (pa_cons h0.pe (pa_cons ha.pe (pa_ex hs) he) he0) hdb he0 hpl) fun σ H Q ⟨G, ρ, r, pp⟩ => by
    refine ⟨G, ρ, r, Post.imp (Post.bind pp) fun x0 ρ0 G0 H0 s0 r0 p0 v0 hv0 => ?_⟩
    cases x0 with
    | own xs => exact p0.elim
    | pk i => exact p0.elim
    | val t0 =>
    simp only at p0
    refine ⟨G0, ρ0, r0, Post.imp (Post.bind p0) fun x ρ1 G1 H1 s1 r1 p1 v hv => ?_⟩
    have hv1 : Rep D G1 t0 v0 := Rep.mono s1 hv0
    cases x with
    | val t => exact p1.elim
    | pk i => exact p1.elim
    | own xs =>
      obtain ⟨a, vs, rfl, h1, h2, h3, h4, h5, h6⟩ := hv
      have rp := r1.pinUp h1 h2 h4 h6
      refine ⟨_, G1, ρ1, rp, ?_⟩
      simp only at p1
      cases e1 : ga ρ1 with
      | bad => rw [e1] at p1; exact p1.elim
      | ex c ks ts ρ2 =>
        rw [e1] at p1
        exact fun cls d G2 H2 s2 r2 q => p1 cls d G2 H2 s2 (r2.pinDown h4 r1.pnOk).1 q
      | ok ys ρ2 =>
        rw [e1] at p1
        simp only [R.bind_ok] at p1
        intro G2 H2 s2 r2 ws hws
        obtain ⟨r3, g1, g2, g3⟩ := r2.pinDown h4 r1.pnOk
        have r4 := r3.pushOwn (xs := xs) g1 g2 h3 h4 (h5.mono s2) g3
        have last : (σ ++ [some (V.ref a)])[ρ2.length]? = some (some (.ref a)) := by rw [r3.len]; simp
        have ap : ∀ {x : EV} {v : V}, Hld D G2 σ v x → Hld D G2 (σ ++ [some (V.ref a)]) v x := fun {x v} h => by
          cases x with
          | val t => exact h
          | own l => exact h
          | pk i =>
            have h' : σ[i]? = some (some v) := h
            show (σ ++ [some (V.ref a)])[i]? = some (some v)
            rw [List.getElem?_append_left (List.getElem?_eq_some_iff.mp h').1]; exact h'
        have hws' : Hlds D G2 (σ ++ [some (V.ref a)]) ys ws := by
          clear p1 e1
          induction hws with
          | nil => exact .nil
          | cons b _ ih => exact .cons (ap b) ih
        have p2 := Post.weak s2 p1
        have hv2 : Hld D G2 (σ ++ [some (V.ref a)]) v0 (.val t0) := Rep.mono s2 hv1
        refine call_sp (E := WE W σ) (ms := .v :: .io :: ms) (W := fun cls d _ H => W cls d σ H) (xs := .val t0 :: .pk ρ2.length :: ys) (G0 := G2) r4 (.cons hv2 (.cons last hws')) (fun _ _ _ h => h) (.refl _) ?_
        cases e2 : callM (.v :: .io :: ms) mm (.val t0 :: .pk ρ2.length :: ys) (ρ2 ++ [.own xs]) with
        | bad => simp only [e2] at p2; exact p2.elim
        | ex c ks ts ρ3 => simp only [e2] at p2; exact fun cls d G' H' s' r' q => p2 cls d G' H' s' (Rel.popOwn r3.len r3.ioLt r').1 q
        | ok z ρ3 =>
          simp only [e2] at p2
          intro G' H' s' r' v hv
          obtain ⟨r5, mu⟩ := Rel.popOwn r3.len r3.ioLt r'
          cases z with
          | val t => exact p2 G' H' s' r5 v hv
          | own l =>
            obtain ⟨b, us, g1, g2, g3, g4, g5, g6, g7⟩ := hv
            exact p2 G' H' s' r5 v ⟨b, us, g1, g2, g3, g4, g5, g6, fun i mi => g7 i (mu i b mi)⟩
          | pk i => exact p2.elim⟩
end
end VI

set_option Elab.async false
set_option linter.all false
set_option maxRecDepth 100000
set_option maxHeartbeats 4000000
namespace VI
open PySem L2 PySem.Spec PyProof.Rows
/-! ### xs.index(i), xs.pop(i) -/
def mIndex : List T → List T → Option (List T × T) := fun xs ts => match ts with
  | [.int i] => (match intsT xs with | some ns => if i ∈ ns then some (xs, .int (ns.findIdx (· == i) : Nat)) else none | none => none)
  | _ => none
def mPopAt : List T → List T → Option (List T × T) := fun xs ts => match ts with
  | [.int i] => if 0 ≤ i ∧ i < 1000000 then (match xs[i.toNat]? with | some t => some (xs.eraseIdx i.toNat, t) | none => none) else none
  | _ => none
section
variable {X : Cx} {D : Wd} {φ : Fr} {W : WX} {e : Expr} {es : List Expr} {ga : AF} {pos : Pos}
theorem opM_index : OpM D (rIndex D.K) mIndex := fun G H l vs ys xs ts xs' t Q hl s hx ht e k => by
  unfold mIndex at e
  split at e
  · rename_i i
    split at e
    · rename_i ns e1
      split at e
      · rename_i hm
        cases e
        have hx0 := hx
        rw [intsT_of e1] at hx
        have hv := reps_ints.mp hx
        subst hv
        have hy : ys = [V.int i] := reps_ints (ns := [i]) |>.mp ht
        subst hy
        have hlt : ns.findIdx (· == i) < ns.length := List.findIdx_lt_length_of_exists ⟨i, hm, by simp⟩
        have hat := List.findIdx_getElem (xs := ns) (p := (· == i)) (w := hlt)
        refine ⟨l, ns.map V.int, V.int i, ns.findIdx (· == i), V.int (ns[ns.findIdx (· == i)]'hlt), rfl, rfl, .of hl, rfl, ?_, ?_, hat, fun m z hm' hz => ?_, ?_⟩
        · exact List.all_eq_true.mpr fun x hx => by obtain ⟨n, _, rfl⟩ := List.mem_map.mp hx; rfl
        · rw [List.getElem?_map, List.getElem?_eq_getElem hlt]; rfl
        · have hml : m < ns.length := by omega
          rw [List.getElem?_map, List.getElem?_eq_getElem hml] at hz
          cases hz
          have := List.not_of_lt_findIdx hm'
          simpa [eqV] using this
        · have := k (ns.map V.int) (.int (ns.findIdx (· == i) : Nat)) hx0 rfl
          rwa [upd_self hl] at this
      · cases e
    · cases e
  · cases e
theorem Reps.erase {G : Hp} : ∀ {ts : List T} {vs : List V} {i : Nat}, Reps D G ts vs → Reps D G (ts.eraseIdx i) (vs.eraseIdx i)
  | [], vs, i, h => by cases h; rfl
  | t :: ts, vs, 0, ⟨v, r, e, h, q⟩ => by subst e; exact q
  | t :: ts, vs, i + 1, ⟨v, r, e, h, q⟩ => by subst e; exact ⟨v, r.eraseIdx i, rfl, h, Reps.erase q⟩
theorem opM_popAt : OpM D rPopAt mPopAt := fun G H l vs ys xs ts xs' t Q hl s hx ht e k => by
  unfold mPopAt at e
  split at e
  · rename_i i
    split at e
    · rename_i hb
      split at e
      · rename_i u hu
        cases e
        have hy : ys = [V.int i] := reps_ints (ns := [i]) |>.mp ht
        subst hy
        obtain ⟨w, h1, h2⟩ := hx.get hu
        have hlt : i.toNat < vs.length := (List.getElem?_eq_some_iff.mp h1).1
        have hsi : seqIndex? i vs.length = some i.toNat := PySem.StrLaws.seqIndex_nonneg hb.1 (by omega)
        exact ⟨l, vs, i, i.toNat, w, rfl, rfl, hl, by omega, by omega, hsi, h1, k _ _ hx.erase h2⟩
      · cases e
    · cases e
  · cases e
theorem e_index {apos : Pos} {i : Nat} {o : Expr} (ho : PE X o (tVar i)) (ha : AX X D φ W (e :: es) ga)
    (hbase : attributeBase o "index" X.env (eval o X.env) = eval o X.env := by rfl)
    (hfew : ((backTo pos (starEach (e :: es) X.env)).all (fun x => !x.1) && (backToKw pos (keywordEach [] X.env)).all (fun x => x.1.isSome) && decide ((e :: es).length + ([] : List Keyword).length + (if ([] : List Keyword).isEmpty then 0 else 1) < 30)) = true := by rfl)
    (hline : (apos.endLine == pos.line) = true := by rfl) (hs : starEach (e :: es) X.env = (false, eval e X.env) :: starEach es X.env := by rfl) (hplain : (backTo pos (starEach es X.env)).any (·.1) = false := by rfl) (hK : X.K = D.K := by rfl) :
    EX X D φ W (.Call (.Attribute o "index" apos) (e :: es) [] pos) (eBmM i mIndex ga) :=
  e_bmM (e := e) (id := "list.index") (r := rIndex D.K) (by rw [← hK]; exact pe_bm PySem.F.plainAttrs_list PySem.F.slot_list_index PySem.F.type_list_index mt_index ho ha.pa hbase hfew hline hs hplain) opM_index
theorem e_popAt {apos : Pos} {i : Nat} {o : Expr} (ho : PE X o (tVar i)) (ha : AX X D φ W (e :: es) ga)
    (hbase : attributeBase o "pop" X.env (eval o X.env) = eval o X.env := by rfl)
    (hfew : ((backTo pos (starEach (e :: es) X.env)).all (fun x => !x.1) && (backToKw pos (keywordEach [] X.env)).all (fun x => x.1.isSome) && decide ((e :: es).length + ([] : List Keyword).length + (if ([] : List Keyword).isEmpty then 0 else 1) < 30)) = true := by rfl)
    (hline : (apos.endLine == pos.line) = true := by rfl) (hs : starEach (e :: es) X.env = (false, eval e X.env) :: starEach es X.env := by rfl) (hplain : (backTo pos (starEach es X.env)).any (·.1) = false := by rfl) (hK : X.K = D.K := by rfl) :
    EX X D φ W (.Call (.Attribute o "pop" apos) (e :: es) [] pos) (eBmM i mPopAt ga) :=
  e_bmM (e := e) (id := "list.pop") (r := rPopAt) (by rw [← hK]; exact pe_bm PySem.F.plainAttrs_list PySem.F.slot_list_pop PySem.F.type_list_pop mt_popAt ho ha.pa hbase hfew hline hs hplain) opM_popAt
end
end VI

set_option Elab.async false
set_option linter.all false
set_option maxRecDepth 100000
set_option maxHeartbeats 4000000
namespace VI
open PySem L2 PySem.Spec PyProof.Rows
/-! ### dicts: tuples of ints as keys, ints -/
def intsK : List T → Option (List Int)
  | [] => some []
  | .int i :: ts => (intsK ts).map (i :: ·)
  | _ => none
def keyOf (xs : List EV) : Option (List Int) := match grounds xs with
  | some ts => if ts.length ≤ 1000 then intsK ts else none
  | none => none
def dGet (kvs : List (List Int × Int)) (k : List Int) : Option Int := (kvs.find? fun kv => decide (kv.1 = k)).map (·.2)
def dPut (kvs : List (List Int × Int)) (k : List Int) (v : Int) : List (List Int × Int) :=
  if (kvs.any fun kv => decide (kv.1 = k)) = true then kvs.map fun kv => if kv.1 = k then (kv.1, v) else kv else kvs ++ [(k, v)]
theorem intsK_reps {D : Wd} {G : Hp} : ∀ {ts : List T} {ks : List Int} {vs : List V}, intsK ts = some ks → Reps D G ts vs → vs = (ks.map Sum.inl : List Key).map kV ∧ vs.length = ts.length
  | [], ks, vs, h, r => by cases h; cases r; exact ⟨rfl, rfl⟩
  | t :: ts, ks, vs, h, r => by
    cases t with
    | int i =>
      simp only [intsK, Option.map_eq_some_iff] at h
      obtain ⟨ks', h, rfl⟩ := h
      obtain ⟨v, w, rfl, q, r⟩ := r
      cases q
      obtain ⟨e, l⟩ := intsK_reps h r
      exact ⟨by rw [e]; rfl, by simp [l]⟩
    | _ => simp [intsK] at h
theorem keyOf_vs {D : Wd} {G : Hp} {σ : L2.St} {xs : List EV} {vs : List V} {ks : List Int} (h : Hlds D G σ xs vs) (e : keyOf xs = some ks) : vs = (ks.map Sum.inl : List Key).map kV ∧ vs.length ≤ sizeLine := by
  unfold keyOf at e
  cases q : grounds xs with
  | none => rw [q] at e; cases e
  | some ts =>
    rw [q] at e
    simp only at e
    split at e
    · rename_i hl
      obtain ⟨e1, e2⟩ := intsK_reps e (h.ground q)
      exact ⟨e1, by rw [sizeLine_eq]; omega⟩
    · cases e
theorem inl_inj : ∀ {a b : List Int}, (a.map Sum.inl : List Key) = b.map Sum.inl → a = b
  | [], [], _ => rfl
  | [], _ :: _, e => by simp at e
  | _ :: _, [], e => by simp at e
  | x :: xs, y :: ys, e => by
    rw [List.map_cons, List.map_cons] at e
    injection e with e1 e2
    rw [Sum.inl.inj e1, inl_inj e2]
theorem enc_key (p : List Int × Int) (k : List Int) : decide ((encD p).1 = (k.map Sum.inl : List Key)) = decide (p.1 = k) :=
  decide_eq_decide.mpr ⟨fun e => inl_inj e, fun e => by rw [← e]; rfl⟩
theorem valV_enc (k : List Int) : ∀ kvs : List (List Int × Int), valV (kvs.map encD) (k.map Sum.inl : List Key) = (dGet kvs k).map V.int
  | [] => rfl
  | p :: r => by
    have ih := valV_enc k r
    unfold valV dGet at ih ⊢
    rw [List.map_cons, List.find?_cons, List.find?_cons, enc_key]
    cases decide (p.1 = k) with
    | true => rfl
    | false => exact ih
theorem putK_enc (k : List Int) (v : Int) (kvs : List (List Int × Int)) : putK (kvs.map encD) (k.map Sum.inl : List Key) (.int v) = (dPut kvs k v).map encD := by
  have e : ((kvs.map encD).any fun kv => decide (kv.1 = (k.map Sum.inl : List Key))) = kvs.any fun kv => decide (kv.1 = k) := by
    rw [List.any_map]; congr 1; funext p; exact enc_key p k
  unfold putK dPut
  rw [e]
  split
  · rw [List.map_map, List.map_map]
    refine List.map_congr_left fun p _ => ?_
    simp only [Function.comp]
    have q := enc_key p k
    by_cases c : p.1 = k
    · rw [if_pos c, if_pos (by rw [decide_eq_true c] at q; exact of_decide_eq_true q)]; rfl
    · rw [if_neg c, if_neg (by rw [decide_eq_false c] at q; exact of_decide_eq_false q)]
  · rw [List.map_append]; rfl
section
variable {X : Cx} {D : Wd} {φ : Fr} {W : WX} {es : List Expr} {ga : AF} {o v : Expr} {fo fv : EF} {p1 pos : Pos}
def sDcNew (i : Nat) : SF := fun ρ => .ok .nx (ρ.set i (.odc []))
theorem s_dcNew {i : Nat} {x : Str} {pos' p2 : Pos} (hN : X.N.Nodup) (hi : X.N[i]? = some x) (hx : Loc X.env.scope x) (hs : swapsWith (.Dict [] [] p2) (some (.Name x pos')) pos.line X.env = pure false := by rfl)
    (hf : X.fn x = true ∨ X.env.scope.names.lookup x = some .local := by first | exact .inl rfl | exact .inr rfl | assumption) : SX X D φ W (.Assign [.Name x pos'] (.Dict [] [] p2) pos) (sDcNew i) :=
  ⟨ps_mono (ps_set hN hi hx pe_dnewT hs hf) fun E σ H ⟨G, ρ, r, p⟩ => fun q hq => by
    refine p G _ _ (.refl _) ((r.grow (Same.fresh_up hq)).set (fun hl => ⟨q, List.getElem?_set_self (by rw [← r.len]; exact hl), upd_same, same_none r.sub hq, r.gone hq⟩) fun b _ e => ?_)
    cases e
    exact ⟨r.not_mut hq, r.gonePin hq⟩⟩
def tDcIn (i : Nat) (ga : AF) : TF := fun ρ => (ga ρ).bind fun xs ρ1 => match keyOf xs, ρ1[i]? with
  | some k, some (.odc kvs) => .ok (dGet kvs k).isSome ρ1
  | _, _ => .bad
theorem t_dcIn {i x1 : Nat} (hu : X.A.units + 64 < cLine) (h : AX X D φ W es ga) (ho : PE X o (tVar i)) (hm : behindInMarks .In o = false := by rfl) : TX X D φ W (.Compare (.Tuple es x1 p1) [.In] [o] pos) (tDcIn i ga) :=
  ⟨pt_mono (pt_cmp (pc_din (by omega) (pe_tup h.pa) ho) hm) fun σ H Q ⟨G, ρ, r, p⟩ => by
    refine ⟨G, ρ, r, Post.imp (Post.bind p) fun xs ρ1 G1 H1 s1 r1 q1 vs hvs => ?_⟩
    cases e : keyOf xs with
    | none => rw [e] at q1; exact q1.elim
    | some k =>
      rw [e] at q1
      cases e2 : ρ1[i]? with
      | none => rw [e2] at q1; exact q1.elim
      | some s =>
        rw [e2] at q1
        cases s with
        | odc kvs =>
          obtain ⟨k1, k2⟩ := keyOf_vs hvs e
          obtain ⟨a, h1, h2, h3, h4⟩ := r1.slot i _ e2
          refine ⟨k2, fun q hq => ⟨_, h1, a, _, rfl, .inr ⟨_, k.map Sum.inl, q, .inl (Same.fresh_up hq _ _ h2), rfl, by rw [upd_same, k1], rfl⟩, ?_⟩⟩
          rw [valV_enc]
          refine ⟨_, rfl, ?_⟩
          have z := q1 G1 _ (.refl _) (r1.grow (Same.fresh_up (o := .tup vs) hq))
          rw [Option.isSome_map]
          exact z
        | _ => exact q1.elim⟩
def sDcSet (i : Nat) (fv : EF) (ga : AF) : SF := fun ρ => (fv ρ).bind fun x ρ1 => match deref ρ1 x, ρ1[i]? with
  | some (.int n), some (.odc _) => (ga ρ1).bind fun xs ρ2 => (match keyOf xs, ρ2[i]? with
    | some k, some (.odc kvs) => if kvs.length ≤ 1000 then .ok .nx (ρ2.set i (.odc (dPut kvs k n))) else .bad
    | _, _ => .bad)
  | _, _ => .bad
theorem s_dcSet {i x1 : Nat} {pt : Pos} (hu : X.A.units + 64 < cLine) (hv : EX X D φ W v fv) (h : AX X D φ W es ga) (ho : PE X o (tVar i)) (hs : swapsWith v (some (.Subscript o (.Tuple es x1 p1) pt)) pos.line X.env = pure false := by rfl) :
    SX X D φ W (.Assign [.Subscript o (.Tuple es x1 p1) pt] v pos) (sDcSet i fv ga) :=
  ⟨ps_mono (ps_dput (by omega) ho (pe_tup h.pa) hv.pe hs) fun E σ H ⟨G, ρ, r, p⟩ => by
    refine ⟨G, ρ, r, Post.imp (PostS.bind p) fun x ρ1 G1 H1 s1 r1 q1 w hw => ?_⟩
    obtain ⟨G2, s2, r2, hh⟩ := settle r1 hw
    have q2 := PostS.weak s2 q1
    cases e : deref ρ1 x with
    | none => rw [e] at q2; exact q2.elim
    | some t =>
      rw [e] at q2
      cases t with
      | int n =>
        cases (show w = .int n from hh.use r2 e)
        cases e2 : ρ1[i]? with
        | none => rw [e2] at q2; exact q2.elim
        | some s =>
          rw [e2] at q2
          cases s with
          | odc kvs0 =>
            obtain ⟨a, h1, _⟩ := r2.slot i _ e2
            refine ⟨_, h1, G2, ρ1, r2, Post.imp (PostS.bind q2) fun xs ρ2 G3 H3 s3 r3 q3 vs hvs => ?_⟩
            cases e3 : keyOf xs with
            | none => rw [e3] at q3; exact q3.elim
            | some k =>
              rw [e3] at q3
              cases e4 : ρ2[i]? with
              | none => rw [e4] at q3; exact q3.elim
              | some s' =>
                rw [e4] at q3
                cases s' with
                | odc kvs =>
                  simp only at q3
                  split at q3
                  · rename_i hl
                    obtain ⟨k1, k2⟩ := keyOf_vs hvs e3
                    obtain ⟨a', g1, g2, g3, g4⟩ := r3.slot i _ e4
                    rw [h1] at g1; cases g1
                    refine ⟨k2, fun q hq => ?_⟩
                    have r4 := r3.grow (Same.fresh_up (o := .tup vs) hq)
                    have g2' := Same.fresh_up (o := .tup vs) hq _ _ g2
                    refine ⟨a, _, rfl, .inr ⟨_, k.map Sum.inl, q, g2', rfl, by rw [upd_same, k1], by rw [List.length_map, sizeLine_eq]; omega, rfl⟩, ?_⟩
                    rw [putK_enc]
                    exact q3 G3 σ _ (.refl _) (r4.change ⟨⟨_, e4, rfl⟩, h1⟩ rfl ⟨a, h1, upd_same, g3, g4⟩)
                  · exact q3.elim
                | _ => exact q3.elim
          | _ => exact q2.elim
      | _ => exact q2.elim⟩
def optI : Option Int → T | some n => .int n | none => .non
def eDcGet (fo : EF) (ga : AF) : EF := fun ρ => (fo ρ).bind fun x ρ1 => match x with
  | .val (.dct kvs) => (ga ρ1).bind fun xs ρ2 => (match keyOf xs with | some k => .ok (.val (optI (dGet kvs k))) ρ2 | none => .bad)
  | _ => .bad
theorem e_dcGet {x1 : Nat} {apos cpos : Pos} (hu : X.A.units + 64 < cLine) (ho : EX X D φ W o fo) (h : AX X D φ W es ga) (m : M1 X o "get" apos (.Tuple es x1 p1) cpos) : EX X D φ W (.Call (.Attribute o "get" apos) [.Tuple es x1 p1] [] cpos) (eDcGet fo ga) :=
  ⟨pe_mono (pe_dget1 (by omega) ho.pe (pe_tup h.pa) m) fun σ H Q ⟨G, ρ, r, p⟩ => by
    refine ⟨G, ρ, r, Post.imp (Post.bind p) fun x ρ1 G1 H1 s1 r1 q1 w hw => ?_⟩
    cases x with
    | own _ => exact q1.elim
    | pk _ => exact q1.elim
    | val t =>
      cases t with
      | dct kvs =>
        obtain ⟨a, rfl, hG⟩ := (show Rep D G1 (.dct kvs) w from hw)
        refine ⟨a, rfl, .inr ⟨_, .inl (r1.sub _ _ hG)⟩, G1, ρ1, r1, Post.imp (Post.bind q1) fun xs ρ2 G2 H2 s2 r2 q2 vs hvs => ?_⟩
        cases e : keyOf xs with
        | none => rw [e] at q2; exact q2.elim
        | some k =>
          rw [e] at q2
          obtain ⟨k1, k2⟩ := keyOf_vs hvs e
          refine ⟨k2, fun q hq => ⟨_, .inr ⟨_, k.map Sum.inl, q, .inl (Same.fresh_up hq _ _ (r2.sub _ _ (s2 _ _ hG))), rfl, by rw [upd_same, k1], rfl⟩, ?_⟩⟩
          rw [valV_enc]
          refine q2 G2 _ (.refl _) (r2.grow (Same.fresh_up hq)) _ ?_
          cases dGet kvs k with
          | none => rfl
          | some n => rfl
      | _ => exact q1.elim⟩
theorem e_globS {x z : Str} {t : Tok} {p : Pos} (hg : Gl X x) (hm : X.mg x = some (.str z t)) (hd : (x == ("__debug__" : Str)) = false := by decide) : EX X D φ W (.Name x p) (eC (.str z)) := e_c (pe_glob (v := .str z) hg hm ⟨t, rfl⟩ hd) fun _ => rfl
end
end VI

set_option Elab.async false
set_option linter.all false
set_option maxRecDepth 100000
set_option maxHeartbeats 4000000
namespace VI
open PySem L2 PySem.Spec PyProof.Rows
/-! ### signs of a text -/
def sg (c : Nat) : Str := ⟨#[c]⟩
def signsT (z : Str) : List T := z.cps.toList.map fun c => T.str (sg c)
section
variable {X : Cx} {D : Wd} {φ : Fr} {W : WX} {e tg : Expr} {fa : EF}
theorem itok_str {G0 : Hp} (z : Str) : ItOk D φ G0 (Its z) (signsT z) := by
  have hn : (signsT z).length = z.cps.size := by simp [signsT]
  refine ⟨_, _, by rw [hn]; exact walk_str, fun _ _ _ _ _ _ _ _ => trivial, fun i H x H' t e s y => ?_⟩
  obtain ⟨rfl, c, hc, rfl⟩ := y
  simp only [signsT, List.getElem?_map] at e
  have h2 : z.cps.toList[i]? = some c := by rw [Array.getElem?_toList]; exact hc
  rw [h2] at e
  cases e
  exact ⟨yok_at rfl, .refl _⟩
def iSg (fa : EF) : Ro → R (List T) := fun ρ => (fa ρ).bind fun x ρ1 => match deref ρ1 x with
  | some (.str z) => .ok (signsT z) ρ1
  | _ => .bad
theorem i_sg (he : EX X D φ W e fa) : IX X D φ W tg e (iSg fa) := ⟨pi_mono (pi_str he.pe) fun σ H S ⟨G, ρ, r, p⟩ => by
  refine ⟨G, ρ, r, Post.imp (Post.bind p) fun x ρ1 G1 H1 s1 r1 p1 v hv => ?_⟩
  obtain ⟨G2, s2, r2, hh⟩ := settle r1 hv
  split at p1
  · rename_i z e1
    cases (show v = .str z from hh.use r2 e1)
    exact ⟨z, rfl, p1 G1 H1 (.refl _) r1 _ G1 (.refl _) r1 (itok_str z)⟩
  · exact p1.elim⟩
def opInS (neg : Bool) : T → T → Out
  | .str x, .str z => if x.cps.size = 1 then .v (.bl (if neg then !decide (x.cps.toList.headD 0 ∈ z.cps.toList) else decide (x.cps.toList.headD 0 ∈ z.cps.toList))) else .no
  | _, _ => .no
theorem one_sign {x : Str} (h : x.cps.size = 1) : x = ⟨#[x.cps.toList.headD 0]⟩ := by
  obtain ⟨⟨l⟩⟩ := x
  match l, h with
  | [c], _ => rfl
theorem op2_inS : Op2 D (fun x y H Q => ∃ (c : Nat) (z : Str), x = .str ⟨#[c]⟩ ∧ y = .str z ∧ Q (.bl (decide (c ∈ z.cps.toList))) H) (opInS false) := fun G H x y t u Q s ht hu ho => by
  cases t <;> cases u <;> first | exact ho.elim | skip
  cases ht; cases hu
  simp only [opInS] at ho
  split at ho
  · rename_i h
    exact ⟨_, _, congrArg V.str (one_sign h), rfl, ho _ H (.refl _) rfl⟩
  · exact ho.elim
theorem op2_notInS : Op2 D (fun x y H Q => ∃ (c : Nat) (z : Str), x = .str ⟨#[c]⟩ ∧ y = .str z ∧ Q (.bl (!decide (c ∈ z.cps.toList))) H) (opInS true) := fun G H x y t u Q s ht hu ho => by
  cases t <;> cases u <;> first | exact ho.elim | skip
  cases ht; cases hu
  simp only [opInS] at ho
  split at ho
  · rename_i h
    exact ⟨_, _, congrArg V.str (one_sign h), rfl, ho _ H (.refl _) rfl⟩
  · exact ho.elim
end
end VI

set_option Elab.async false
set_option linter.all false
set_option maxRecDepth 100000
set_option maxHeartbeats 4000000
namespace VI
open PySem L2 PySem.Spec PyProof.Rows
/-! ### tuples whose object is known: tuple(x), x.index(i) -/
section
variable {X : Cx}
def rTf (K : PySem.W.Frag) : List V → Hp → VK → Prop := fun xs H Q => ∃ p ys, xs = [.ref p] ∧ SqL K H p ys ∧ ∀ l o, H l = none → o.dict = none → Q (.ref l) (upd H l (.frz o (.tup ys)))
theorem call_tf : CallR X (.type "tuple") (rTf X.K) := fun pins s σ H xs us Q I r ⟨p, ys, e, hq, q⟩ => by
  subst e
  obtain ⟨u, rfl, rx⟩ := vals1 r
  cases rx
  obtain ⟨its, ri, pl, hz⟩ := I.list hq
  have hn := ri.length
  refine call_tuple_list pl.isList (fun hp kp => ?_) (by simp only [List.size_toArray] <;> omega)
  have J := I.kept (t' := s.toks) kp
  refine ⟨.ref hp.objs.size, upd H hp.objs.size (.frz { cls := .type "tuple", data := .seq its.toArray } (.tup ys)), ?_, rfl, q _ _ (J.hok.fresh (Nat.le_refl _)) rfl⟩
  exact J.laid (t' := s.toks) (fun b o eb => Heap.get?_push_of_some _ eb) (Nat.le_refl _) ⟨Heap.get?_push_size _ rfl, hz, its, ri, IsTup.new _ _⟩
def rTi : V → List V → Hp → VK → Prop := fun x xs H Q => ∃ (p : Addr) (o : Obj) (ns : List Int) (i : Int) (j : Nat), x = .ref p ∧ xs = [.int i] ∧ H p = some (.frz o (.tup (ns.map V.int))) ∧ ns[j]? = some i ∧ (∀ m, m < j → ns[m]? ≠ some i) ∧ Q (.int (j : Nat)) H
theorem mt_tfIndex : MtR X "tuple.index" rTi := fun pins s σ H x xs v us Q I rx rs ⟨p, o, ns, i, j, e1, e2, hp, hj, hno, q⟩ => by
  subst e1 e2
  cases rx
  obtain ⟨u, rfl, t, rfl⟩ := vals1 rs
  obtain ⟨its, r, pl, hz⟩ := I.tuple (.inl (.inr ⟨o, hp⟩))
  obtain ⟨⟨cls, dd, dt, sl⟩, ho, hc, n, hd⟩ := pl
  simp only at hc hd
  subst hc hd
  have hl : its.toArray.size = ns.length := by rw [List.size_toArray, ← r.length, List.length_map]
  have fl : (ns.map V.int).all flatV = true := List.all_eq_true.mpr fun z hz => by
    obtain ⟨k, _, rfl⟩ := List.mem_map.mp hz; rfl
  have item : ∀ (m : Nat) (hm : m < its.toArray.size), ∃ y k, ns[m]? = some y ∧ its.toArray[m] = Value.int y k := fun m hm => by
    have hm2 : m < ns.length := by rw [← hl]; exact hm
    obtain ⟨w, hw, k, hk⟩ := r.get (i := m) (x := .int ns[m]) (by simp [hm2])
    refine ⟨ns[m], k, List.getElem?_eq_getElem hm2, ?_⟩
    have e := (List.getElem?_eq_some_iff.mp hw).2
    rw [← hk, ← e]; simp
  have hjl : j < its.toArray.size := by rw [hl]; exact (List.getElem?_eq_some_iff.mp hj).1
  have hit : eqU (.int i) its.toArray[j] = true := by
    obtain ⟨y, k, h1, h2⟩ := item j hjl
    rw [hj] at h1; cases h1
    rw [h2]; show decide (i = i) = true; exact decide_eq_true rfl
  have miss : ∀ m (hm : m < its.toArray.size), m < j → eqU (.int i) its.toArray[m] = false := fun m hm hmj => by
    obtain ⟨y, k, h1, h2⟩ := item m hm
    rw [h2]; show decide (y = i) = false
    exact decide_eq_false fun e => hno m hmj (e ▸ h1)
  refine call_meets PySem.F.slot_tuple_index ⟨_, ho, rfl⟩ PySem.F.entry_tuple_index (PySem.F.args_tuple_index_2 _ _)
    (TI.tuple_indexAt p its.toArray n dd sl (.int i t) (eqU (.int i)) j hjl hit miss) ⟨ho, fun w hw => ?_, .int (j : Nat), H, I.tok _, ⟨_, rfl⟩, q⟩
  exact mem_eqAt (x := .int i) ⟨t, rfl⟩ rfl r fl w (by simpa using hw)
/-- a method of a known tuple -/
def tBMF (r : V → List V → Hp → VK → Prop) (to : TE) (t : TA) : TE := fun σ H Q => to σ H fun x H1 => (∃ a o vs, x = .ref a ∧ H1 a = some (.frz o (.tup vs)) ∧ o.dict = none) ∧ t σ H1 fun xs H2 => r x xs H2 Q
theorem pe_bmF {o e : Expr} {es : List Expr} {to : TE} {t : TA} {name : Str} {apos cpos : Pos} {id : String} {r : V → List V → Hp → VK → Prop} (slot : Slot "tuple" name id) (hty : typeOf (.builtin id) = pure (.type "method_descriptor")) (hm : MtR X id r) (ho : PE X o to) (ha : PA X (e :: es) t)
    (hbase : attributeBase o name X.env (eval o X.env) = eval o X.env := by rfl)
    (hfew : ((backTo cpos (starEach (e :: es) X.env)).all (fun x => !x.1) && (backToKw cpos (keywordEach [] X.env)).all (fun x => x.1.isSome) && decide ((e :: es).length + ([] : List Keyword).length + (if ([] : List Keyword).isEmpty then 0 else 1) < 30)) = true := by rfl)
    (hline : (apos.endLine == cpos.line) = true := by rfl) (hs : starEach (e :: es) X.env = (false, eval e X.env) :: starEach es X.env := by rfl) (hplain : (backTo cpos (starEach es X.env)).any (·.1) = false := by rfl) :
    PE X (.Call (.Attribute o name apos) (e :: es) [] cpos) (tBMF r to t) := ⟨fun pins s σ H Q I h => by
  refine wpAny_Call_method_late hbase hfew hline rfl (thn (ho.run pins s σ H _ I h) fun v s1 z => ?_)
  obtain ⟨x, H1, I1, r1, ⟨a, ob, vs, rfl, hH, hdn⟩, q1⟩ := z
  cases r1
  have hg : s1.heap.get? a = some ob := (I1.hok a _ hH).1
  have hc : ob.cls = .type "tuple" := by
    obtain ⟨_, _, _, oo, h1, h2, _⟩ := (I1.hok a _ hH).2
    rw [hg] at h1; cases h1; exact h2
  refine ⟨"tuple", id, PySem.F.plainAttrs_tuple, slot, hty, ⟨ob, hg, hc⟩, fun b eb => ?_, ?_⟩
  · cases eb; exact ⟨ob, hg, hdn⟩
  · have hA := ha.run cpos pins s1 σ H1 _ I1 q1
    rw [hs] at hA ⊢
    refine Calls.callWith_builtin (by show (false || (backTo cpos (starEach es X.env)).any (·.1)) = false; rw [hplain] <;> rfl) (Calls.evalArgs_plain (thn hA fun us s2 z => ?_))
    obtain ⟨ws, H2, I2, r2, q2⟩ := z
    exact hm pins s2 σ H2 (.ref a) ws (.ref a) us Q I2 rfl r2 q2⟩
end
section
variable {X : Cx} {D : Wd} {φ : Fr} {W : WX} {e o : Expr} {es : List Expr} {fa fo : EF} {ga : AF} {pos : Pos}
theorem tf_tup {G : Hp} {ts : List T} {v : V} (h : Rep D G (.tf ts) v) : Rep D G (.tup ts) v := by
  obtain ⟨a, vs, o, e, h, _, r⟩ := h
  exact ⟨a, vs, e, .inl (.inr ⟨o, h⟩), r⟩
def wk : T → T | .tf ts => .tup ts | t => t
def wkV : EV → EV | .val t => .val (wk t) | x => x
def eWk (fa : EF) : EF := fun ρ => (fa ρ).bind fun x ρ1 => .ok (wkV x) ρ1
theorem e_wk (he : EX X D φ W e fa) : EX X D φ W e (eWk fa) := ⟨pe_mono he.pe fun σ H Q ⟨G, ρ, r, p⟩ => by
  refine ⟨G, ρ, r, Post.imp (Post.bind p) fun x ρ1 G1 H1 s1 r1 p1 v hv => p1 G1 H1 (.refl _) r1 v ?_⟩
  cases x with
  | val t => cases t <;> first | exact hv | exact tf_tup hv
  | own xs => exact hv
  | pk i => exact hv⟩
/-- tuple(x), x a list -/
def eTf (ga : AF) : EF := fun ρ => (ga ρ).bind fun xs ρ1 => match derefs ρ1 xs with
  | some [.lst ts] => .ok (.val (.tf ts)) ρ1
  | some [.sq ts] => .ok (.val (.tf ts)) ρ1
  | _ => .bad
theorem e_tf {x : Str} {p : Pos} (hg : Gl X x) (hm : X.mg x = none) (hv : bootBuiltins x = some (.type "tuple")) (ha : AX X D φ W (e :: es) ga) (hn : x ≠ "__name__" := by decide)
    (hdb : (x == ("__debug__" : Str)) = false := by decide) (he : starEach (e :: es) X.env = (false, eval e X.env) :: starEach es X.env := by rfl) (hpl : (backTo pos (starEach es X.env)).any (·.1) = false := by rfl) (hK : X.K = D.K := by rfl) : EX X D φ W (.Call (.Name x p) (e :: es) [] pos) (eTf ga) :=
  ⟨pe_mono (pe_callTy call_tf hg hm hv ha.pa hn hdb he hpl) fun σ H Q ⟨G, ρ, r, pp⟩ => by
    refine ⟨G, ρ, r, Post.imp (Post.bind pp) fun xs ρ1 G1 H1 s1 r1 p1 vs hvs => ?_⟩
    have go : ∀ (ts : List T) (a : Addr) (ws : List V), vs = [.ref a] → SqL D.K H1 a ws → Reps D G1 ts ws → Post D φ W G1 σ (PV D φ σ Q) (.ok (.val (.tf ts)) ρ1) → rTf X.K vs H1 Q := fun ts a ws ev hq hr p2 => by
      refine ⟨a, ws, ev, by rw [hK]; exact hq, fun l ob hl hd => ?_⟩
      exact p2 (upd G1 l (.frz ob (.tup ws))) _ (Same.fresh_up (same_none r1.sub hl)) (r1.newFrozen hl) (.ref l) ⟨l, ws, ob, rfl, upd_same, hd, hr.mono (Same.fresh_up (same_none r1.sub hl))⟩
    split at p1
    · rename_i ts e1
      obtain ⟨x1, rfl, a, ws, rfl, h1, h2⟩ := (hvs.use r1 e1).one_of
      exact go ts a ws rfl (.inl (.inl h1)) h2 p1
    · rename_i ts e1
      obtain ⟨x1, rfl, a, ws, rfl, h1, h2⟩ := (hvs.use r1 e1).one_of
      exact go ts a ws rfl (same_l r1.sub h1) h2 p1
    · exact p1.elim⟩
/-- x.index(i) of a list or a known tuple of ints -/
def idxT (ns : Option (List Int)) (us : Option (List T)) (ρ : Ro) : R EV := match ns, us with
  | some ns, some [.int i] => if i ∈ ns then .ok (.val (.int (ns.findIdx (· == i) : Nat))) ρ else .bad
  | _, _ => .bad
def idxL : T → Option (List Int)
  | .lst ts => intsT ts
  | .sq ts => intsT ts
  | _ => none
def idxF : T → Option (List Int)
  | .tf ts => intsT ts
  | _ => none
def eIdx (fo : EF) (ga : AF) : EF := fun ρ => (fo ρ).bind fun x ρ1 => match deref ρ1 x with
  | some (.tf _) => (ga ρ1).bind fun ys ρ2 => idxT ((deref ρ2 x).bind idxF) (grounds ys) ρ2
  | some (.lst _) => (ga ρ1).bind fun ys ρ2 => idxT ((deref ρ2 x).bind idxL) (grounds ys) ρ2
  | some (.sq _) => (ga ρ1).bind fun ys ρ2 => idxT ((deref ρ2 x).bind idxL) (grounds ys) ρ2
  | _ => .bad
theorem idx_at {ns : List Int} {i : Int} (hm : i ∈ ns) : ns[ns.findIdx (· == i)]? = some i ∧ ∀ m, m < ns.findIdx (· == i) → ns[m]? ≠ some i := by
  have hlt : ns.findIdx (· == i) < ns.length := List.findIdx_lt_length_of_exists ⟨i, hm, by simp⟩
  have hat := List.findIdx_getElem (xs := ns) (p := (· == i)) (w := hlt)
  refine ⟨by rw [List.getElem?_eq_getElem hlt]; simpa using hat, fun m h1 h2 => ?_⟩
  have := List.not_of_lt_findIdx h1
  have hml : m < ns.length := by omega
  rw [List.getElem?_eq_getElem hml] at h2
  cases h2
  simp at this
theorem e_idx {apos : Pos} (ho : EX X D φ W o fo) (ha : AX X D φ W (e :: es) ga)
    (hbase : attributeBase o "index" X.env (eval o X.env) = eval o X.env := by rfl)
    (hfew : ((backTo pos (starEach (e :: es) X.env)).all (fun x => !x.1) && (backToKw pos (keywordEach [] X.env)).all (fun x => x.1.isSome) && decide ((e :: es).length + ([] : List Keyword).length + (if ([] : List Keyword).isEmpty then 0 else 1) < 30)) = true := by rfl)
    (hline : (apos.endLine == pos.line) = true := by rfl) (hs : starEach (e :: es) X.env = (false, eval e X.env) :: starEach es X.env := by rfl) (hplain : (backTo pos (starEach es X.env)).any (·.1) = false := by rfl) (hK : X.K = D.K := by rfl) :
    EX X D φ W (.Call (.Attribute o "index" apos) (e :: es) [] pos) (eIdx fo ga) :=
  ⟨pe_mono (pe_alt (pe_bm PySem.F.plainAttrs_list PySem.F.slot_list_index PySem.F.type_list_index mt_index ho.pe ha.pa hbase hfew hline hs hplain) (pe_bmF PySem.F.slot_tuple_index PySem.F.type_tuple_index mt_tfIndex ho.pe ha.pa hbase hfew hline hs hplain)) fun σ H Q ⟨G, ρ, r, p⟩ => by
    have fin : ∀ (f : T → Option (List Int)) (x : EV) (v : V) (ρ1 : Ro) (G1 H1 : Hp), Hld D G1 σ v x → Post D φ W G1 σ (PV D φ σ Q) ((ga ρ1).bind fun ys ρ2 => idxT ((deref ρ2 x).bind f) (grounds ys) ρ2) → Rel D φ G1 σ ρ1 H1 →
        ∀ (P : List V → Hp → Prop), (∀ t ns i G2 H2, f t = some ns → RepU D G2 H2 t v → Same G2 H2 → i ∈ ns → Q (.int (ns.findIdx (· == i) : Nat)) H2 → P [.int i] H2) → rdA D φ W ga σ H1 P := fun f x v ρ1 G1 H1 hh p1 r1 P k => by
      refine ⟨G1, ρ1, r1, Post.imp (Post.bind p1) fun ys ρ2 G2 H2 s2 r2 p2 vs hvs => ?_⟩
      cases e3 : deref ρ2 x with
      | none => rw [e3] at p2; exact p2.elim
      | some t =>
        rw [e3] at p2
        unfold idxT at p2
        split at p2
        · rename_i ns i h1 h2
          split at p2
          · rename_i hm
            have hy : vs = [V.int i] := reps_ints (ns := [i]) |>.mp (hvs.ground h2)
            subst hy
            exact k t ns i G2 H2 h1 ((hh.mono s2).use r2 e3) r2.sub hm (p2 G2 H2 (.refl _) r2 _ rfl)
          · exact p2.elim
        · exact p2.elim
    have lst : ∀ {t : T} {ns : List Int} {G2 H2 : Hp} {v : V}, idxL t = some ns → RepU D G2 H2 t v → Same G2 H2 → ∃ a, v = .ref a ∧ SqL D.K H2 a (ns.map V.int) := fun {t ns G2 H2 v} e h s => by
      cases t with
      | lst ts =>
        obtain ⟨a, vs, rfl, h1, h2⟩ := h
        rw [intsT_of e] at h2
        rw [reps_ints.mp h2] at h1
        exact ⟨a, rfl, .inl (.inl h1)⟩
      | sq ts =>
        obtain ⟨a, vs, rfl, h1, h2⟩ := h
        rw [intsT_of e] at h2
        rw [reps_ints.mp h2] at h1
        exact ⟨a, rfl, same_l s h1⟩
      | _ => cases e
    cases e0 : fo ρ with
    | bad => unfold eIdx at p; rw [e0] at p; exact p.elim
    | ex c ks ts ρ1 =>
      unfold eIdx at p; rw [e0] at p
      exact .inl ⟨G, ρ, r, by rw [e0]; exact p⟩
    | ok x ρ1 =>
      unfold eIdx at p; rw [e0] at p
      simp only [R.bind_ok] at p
      have lcase : ∀ t, deref ρ1 x = some t → (∀ G2 H2 v, RepU D G2 H2 t v → Same G2 H2 → ∃ a vs, v = .ref a ∧ SqL D.K H2 a vs) → Post D φ W G σ (PV D φ σ Q) ((ga ρ1).bind fun ys ρ2 => idxT ((deref ρ2 x).bind idxL) (grounds ys) ρ2) →
          rdE D φ W fo σ H fun x H1 => tyV X.K "list" x H1 ∧ rdA D φ W ga σ H1 fun xs H2 => rIndex X.K x xs H2 Q := fun t e1 ht p1 => by
        refine ⟨G, ρ, r, ?_⟩
        rw [e0]
        intro G1 H1 s1 r1 v hv
        obtain ⟨G2, s2, r2, hh⟩ := settle r1 hv
        obtain ⟨a, vs, rfl, hq⟩ := ht G2 H1 v (hh.use r2 e1) r2.sub
        refine ⟨.inl ⟨rfl, _, by rw [hK]; exact hq⟩, ?_⟩
        refine fin idxL x _ ρ1 G2 H1 hh (Post.weak (s1.trans s2) p1) r2 _ fun t2 ns i G3 H3 e3 h3 s3 hm q => ?_
        obtain ⟨a2, ea, hq2⟩ := lst e3 h3 s3
        cases ea
        obtain ⟨i1, i2⟩ := idx_at hm
        refine ⟨a, _, _, _, .int i, rfl, rfl, by rw [hK]; exact hq2, rfl, ?_, by rw [List.getElem?_map, i1]; rfl, by show decide (i = i) = true; exact decide_eq_true rfl, fun m z hmj hz => ?_, q⟩
        · exact List.all_eq_true.mpr fun z hz => by obtain ⟨k, _, rfl⟩ := List.mem_map.mp hz; rfl
        · rw [List.getElem?_map] at hz
          cases e5 : ns[m]? with
          | none => rw [e5] at hz; cases hz
          | some y =>
            rw [e5] at hz; cases hz
            show decide (y = i) = false
            exact decide_eq_false fun e => i2 m hmj (e ▸ e5)
      split at p
      · rename_i ts e1
        right
        refine ⟨G, ρ, r, ?_⟩
        rw [e0]
        intro G1 H1 s1 r1 v hv
        obtain ⟨G2, s2, r2, hh⟩ := settle r1 hv
        obtain ⟨a, vs, o, rfl, hq, hd, _⟩ := (show Rep D G2 (.tf ts) v from hh.use r2 e1)
        refine ⟨⟨a, o, vs, rfl, r2.sub _ _ hq, hd⟩, ?_⟩
        refine fin idxF x _ ρ1 G2 H1 hh (Post.weak (s1.trans s2) p) r2 _ fun t2 ns i G3 H3 e3 h3 s3 hm q => ?_
        cases t2 with
        | tf us =>
          obtain ⟨a2, ws, o2, ea, g1, g2, g3⟩ := (show Rep D G3 (.tf us) _ from h3)
          cases ea
          rw [intsT_of e3] at g3
          rw [reps_ints.mp g3] at g1
          obtain ⟨i1, i2⟩ := idx_at hm
          exact ⟨a, o2, ns, i, _, rfl, rfl, s3 _ _ g1, i1, i2, q⟩
        | _ => cases e3
      · rename_i ts e1
        exact .inl (lcase _ e1 (fun G2 H2 v h _ => by obtain ⟨a, vs, e, h1, _⟩ := h; exact ⟨a, vs, e, .inl (.inl h1)⟩) p)
      · rename_i ts e1
        exact .inl (lcase _ e1 (fun G2 H2 v h s => by obtain ⟨a, vs, e, h1, _⟩ := h; exact ⟨a, vs, e, same_l s h1⟩) p)
      · exact p.elim⟩
end
end VI

set_option Elab.async false
set_option linter.all false
set_option maxRecDepth 100000
set_option maxHeartbeats 4000000
namespace VI
open PySem L2 PySem.Spec PyProof.Rows
open PySem.W (alike alikeAll dataLt dataLe AllAlike Sortable EachIs minD maxD AlikeAll)
/-! ### data in order: <, min, max, sorted -/
mutual
def unpd : PyData → T
  | .none => .non
  | .bool b => .bl b
  | .int i => .int i
  | .str x => .str x
  | .list ds => .lst (unpds ds)
  | .tuple ds => .tup (unpds ds)
  | .dict _ => .non
def unpds : List PyData → List T
  | [] => []
  | d :: ds => unpd d :: unpds ds
end
mutual
def cn : T → Bool
  | .non => true
  | .bl _ => true
  | .int _ => true
  | .str _ => true
  | .tup ts => cns ts
  | .lst ts => cns ts
  | _ => false
def cns : List T → Bool
  | [] => true
  | t :: ts => cn t && cns ts
end
mutual
theorem cn_unpd : ∀ {t : T} {d : PyData}, cn t = true → pd t = some d → t = unpd d
  | .non, d, _, h => by cases h; rfl
  | .bl _, d, _, h => by cases h; rfl
  | .int _, d, _, h => by cases h; rfl
  | .str _, d, _, h => by cases h; rfl
  | .tup ts, d, c, h => by
    simp only [pd, Option.map_eq_some_iff] at h
    obtain ⟨ds, e, rfl⟩ := h
    simp only [unpd]
    rw [← cns_unpds (by simpa [cn] using c) e]
  | .lst ts, d, c, h => by
    simp only [pd, Option.map_eq_some_iff] at h
    obtain ⟨ds, e, rfl⟩ := h
    simp only [unpd]
    rw [← cns_unpds (by simpa [cn] using c) e]
  | .sq _, d, c, _ => by simp [cn] at c
  | .ins _ _ _, d, c, _ => by simp [cn] at c
  | .dct _, d, c, _ => by simp [cn] at c
  | .tf _, d, c, _ => by simp [cn] at c
theorem cns_unpds : ∀ {ts : List T} {ds : List PyData}, cns ts = true → pds ts = some ds → ts = unpds ds
  | [], ds, _, h => by cases h; rfl
  | t :: ts, ds, c, h => by
    simp only [cns, Bool.and_eq_true] at c
    simp only [pds] at h
    split at h
    · rename_i d ds' e1 e2
      cases h
      simp only [unpds]
      rw [← cn_unpd c.1 e1, ← cns_unpds c.2 e2]
    · cases h
end
theorem unpds_map : ∀ ds : List PyData, unpds ds = ds.map unpd
  | [] => rfl
  | d :: ds => by simp [unpds, unpds_map ds]
def notNone : PyData → Bool | .none => false | _ => true
theorem notNone_ne {d : PyData} (h : notNone d = true) : d ≠ .none := fun e => by subst e; cases h
def opLtD : T → T → Out := fun t u => match pd t, pd u with
  | some d, some e => if alike d e = true ∧ notNone d = true ∧ d.depth < 60 then .v (.bl (dataLt d e)) else .no
  | _, _ => .no
def rLtD (K : PySem.W.Frag) : R2 := fun x y H Q => ∃ d e, Dp K H x d ∧ Dp K H y e ∧ alike d e = true ∧ d ≠ .none ∧ d.depth < 60 ∧ Q (.bl (dataLt d e)) H
def allAl (ds : List PyData) : Bool := (ds.all fun x => ds.all fun y => alike x y) && ds.all notNone
theorem allAl_of {ds : List PyData} (h : allAl ds = true) : AlikeAll ds := by
  unfold allAl at h
  simp only [Bool.and_eq_true, List.all_eq_true] at h
  exact ⟨h.1, fun x hx => notNone_ne (h.2 x hx)⟩
def rMinD (K : PySem.W.Frag) (f : PyData → List PyData → PyData) : List V → Hp → VK → Prop := fun xs H Q => ∃ (a : Addr) (vs : List V) (d : PyData) (ds : List PyData), xs = [.ref a] ∧ SqL K H a vs ∧ DpAll K H vs (d :: ds) ∧ AlikeAll (d :: ds) ∧ PyData.depthAll (d :: ds) < 60 ∧
  ∀ (i : Nat) v, vs[i]? = some v → (d :: ds)[i]? = some (f d ds) → Q v H
section
variable {X : Cx}
theorem op_ltD (hu : X.A.units + 64 < cLine) : OpR X (compareOp .Lt) (rLtD X.K) := fun pins s σ H x y v u Q I rx ry ⟨d, e, hd, he, al, dn, dp, q⟩ => by
  obtain ⟨as, r1⟩ := Dp.reads I d x v hd rx
  obtain ⟨bs, r2⟩ := Dp.reads I e y u he ry
  exact PySem.W.rcLt_alike d e X.A s v u as bs r1 r2 al dn (by omega) _ _ _ _ ⟨.bl _, H, I, rfl, q⟩
theorem dp_at {K : PySem.W.Frag} {H : Hp} : ∀ {vs : List V} {ds : List PyData} {i : Nat} {v : V}, DpAll K H vs ds → vs[i]? = some v → ∃ d, ds[i]? = some d ∧ Dp K H v d
  | _, _, _, _, .nil, h => by simp at h
  | _, _, 0, _, .cons h _, e => by simp at e; subst e; exact ⟨_, rfl, h⟩
  | _, _, i + 1, _, .cons _ r, e => by
    obtain ⟨d, h1, h2⟩ := dp_at (i := i) r (by simpa using e)
    exact ⟨d, by simpa using h1, h2⟩
theorem fold_mem {c : PyData → PyData → Bool} : ∀ (ds : List PyData) (d : PyData), ds.foldl (fun a y => if c y a then y else a) d ∈ d :: ds
  | [], d => by simp
  | e :: ds, d => by
    rw [List.foldl_cons]
    have := fold_mem (c := c) ds (if c e d then e else d)
    rcases List.mem_cons.mp this with h | h
    · rw [h]; split <;> simp
    · simp [h]
theorem mm_item {H : Hp} {pins : List (Addr × Obj)} {σ : L2.St} {s s' : Shared} (I : Inv X pins σ H s) (I2 : Inv X pins σ H s') {vs : List V} {ds : List PyData} {its : List Value} {i : Nat} {v : Value} {m : PyData} {bs : List Addr} (rv : Vals vs its) (hd : DpAll X.K H vs ds) (al : AlikeAll ds) (hm : m ∈ ds) (hi : its.toArray[i]? = some v) (hr : Reads s'.heap v m bs) : ∃ w, vs[i]? = some w ∧ RelV w v ∧ ds[i]? = some m := by
  have hi2 : its[i]? = some v := by simpa using hi
  have hlt : i < vs.length := by rw [rv.length]; exact (List.getElem?_eq_some_iff.mp hi2).1
  obtain ⟨u, hu, ru⟩ := rv.get (List.getElem?_eq_getElem hlt)
  rw [hi2] at hu; cases hu
  obtain ⟨d, h1, h2⟩ := dp_at hd (List.getElem?_eq_getElem hlt)
  obtain ⟨as, r2⟩ := Dp.reads I2 d _ v h2 ru
  have : d = m := PySem.W.alike_unique d m v as bs (al.1 d (List.mem_of_getElem? h1) m hm) r2 hr
  exact ⟨_, List.getElem?_eq_getElem hlt, ru, this ▸ h1⟩
theorem cr_minD (hc : X.calm = true) (hu : X.A.units + 64 < cLine) : CallR X (.builtin "min") (rMinD X.K minD) := fun pins s σ H xs us Q I r ⟨a, vs, d, ds, e, hs, hd, al, dp, q⟩ => by
  subst e
  obtain ⟨its, rv, hl, hz⟩ := I.list hs
  obtain ⟨u, rfl, ru⟩ := vals1 r
  obtain rfl : u = Value.ref a := ru
  obtain ⟨as, hr⟩ := Dp.readsAll I _ _ _ hd rv
  refine PySem.W.min_list_data (I.ok.hd hc) hl.isList (by simpa using hr) al (by omega) fun i v h' tk bs hv hm k => ?_
  have I2 : Inv X pins σ H { s with heap := h', toks := tk } := I.kept k
  obtain ⟨w, h1, h2, h3⟩ := mm_item I I2 rv hd al (fold_mem ds d) hv hm
  exact ⟨w, H, I2, h2, q i w h1 h3⟩
theorem cr_maxD' (hc : X.calm = true) (hu : X.A.units + 64 < cLine) : CallR X (.builtin "max") (rMinD X.K maxD) := fun pins s σ H xs us Q I r ⟨a, vs, d, ds, e, hs, hd, al, dp, q⟩ => by
  subst e
  obtain ⟨its, rv, hl, hz⟩ := I.list hs
  obtain ⟨u, rfl, ru⟩ := vals1 r
  obtain rfl : u = Value.ref a := ru
  obtain ⟨as, hr⟩ := Dp.readsAll I _ _ _ hd rv
  refine PySem.W.max_list_data (I.ok.hd hc) hl.isList (by simpa using hr) al (by omega) fun i v h' tk bs hv hm k => ?_
  have I2 : Inv X pins σ H { s with heap := h', toks := tk } := I.kept k
  obtain ⟨w, h1, h2, h3⟩ := mm_item I I2 rv hd al (fold_mem (c := fun y a => dataLt a y) ds d) hv hm
  exact ⟨w, H, I2, h2, q i w h1 h3⟩
def rSortD (K : PySem.W.Frag) : List V → Hp → VK → Prop := fun xs H Q => ∃ (a : Addr) (zs : List (V × PyData)), xs = [.ref a] ∧ SqL K H a (zs.map (·.1)) ∧ DpAll K H (zs.map (·.1)) (zs.map (·.2)) ∧ AllAlike (zs.map (·.2)) ∧ Sortable (zs.map (·.2)) ∧ (∀ z ∈ zs, z.2.depth < 50) ∧
  ∀ p, H p = none → Q (.ref p) (upd H p (.lst ((zs.mergeSort (dataLe false fun z : V × PyData => z.2)).map (·.1))))
theorem each_of {pr : V × PyData → V} : ∀ {zs : List (V × PyData)} {its : List Value}, Vals (zs.map (·.1)) its → EachIs (fun (v : Value) (b : V × PyData) => RelV b.1 v) its zs
  | [], _, .nil => .nil
  | z :: zs, _, .cons h r => .cons h (each_of (pr := pr) r)
theorem vals_of : ∀ {zs : List (V × PyData)} {its : List Value}, EachIs (fun (v : Value) (b : V × PyData) => RelV b.1 v) its zs → Vals (zs.map (·.1)) its
  | _, _, .nil => .nil
  | _, _, .cons h r => .cons h (vals_of r)
theorem reads_each {h : Heap} : ∀ {zs : List (V × PyData)} {its : List Value} {as : List Addr}, ReadsAll h its (zs.map (·.2)) as → EachIs (fun v (b : V × PyData) => ∃ as, Reads h v b.2 as) its zs := fun {zs its as} h => PySem.W.readsAll_each (fun z : V × PyData => z.2) h
theorem cr_sortD (hu : X.A.units + 64 < cLine) : CallR X (.builtin "sorted") (rSortD X.K) := fun pins s σ H xs us Q I r ⟨a, zs, e, hs, hd, al, so, dp, q⟩ => by
  subst e
  obtain ⟨its, rv, hl, hz⟩ := I.list hs
  obtain ⟨u, rfl, ru⟩ := vals1 r
  obtain rfl : u = Value.ref a := ru
  obtain ⟨as, hr⟩ := Dp.readsAll I _ _ _ hd rv
  rw [List.length_map] at hz
  refine PySem.W.sorted_data (R := fun (v : Value) (b : V × PyData) => RelV b.1 v) (enc := fun z : V × PyData => z.2) hl.isList (each_of (pr := (·.1)) rv) (reads_each hr) al so hz (fun b hb => ?_) fun out hlen ho => ?_
  · have := dp b hb; omega
  · obtain ⟨n, hn⟩ := sortedAll_at s.heap its out.toArray
    have hf : s.heap.objs.size ≤ s.heap.objs.size + 1 := by omega
    have I2 := I.laid (t' := s.toks) (a := s.heap.objs.size + 1) (o := .lst ((zs.mergeSort (dataLe false fun z : V × PyData => z.2)).map (·.1))) (h' := sortedAll s.heap its out.toArray) (fun b o e => sortedAll_old e) hf
      ⟨by rw [List.length_map, List.length_mergeSort]; exact hz, out, n, vals_of ho, hn⟩
    exact ⟨.ref (s.heap.objs.size + 1), _, I2, rfl, q _ (I.hok.fresh hf)⟩
end
def bMinD (f : PyData → List PyData → PyData) : List T → Out
  | [.lst ts] => (match pds ts with
    | some (d :: ds) => if cns ts = true ∧ allAl (d :: ds) = true ∧ PyData.depthAll (d :: ds) < 60 then .v (unpd (f d ds)) else .no
    | _ => .no)
  | _ => .no
def sortOk (ds : List PyData) : Bool := allAl ds && (ds.all (fun d => match d with | .tuple (_ :: _) => true | _ => false) || ds.all (fun d => match d with | .tuple _ => false | _ => true))
def bSortD : List T → Out
  | [.lst ts] => (match pds ts with
    | some ds => if cns ts = true ∧ sortOk ds = true ∧ ds.all (fun d => decide (d.depth < 50)) = true then .l ((ds.mergeSort (dataLe false id)).map unpd) else .no
    | _ => .no)
  | _ => .no
section
variable {D : Wd}
theorem op2_ltD : Op2 D (rLtD D.K) opLtD := fun G H x y t u Q s ht hu ho => by
  unfold opLtD at ho
  split at ho
  · rename_i d e e1 e2
    split at ho
    · rename_i h
      exact ⟨d, e, pdU s e1 ht, pdU s e2 hu, h.1, notNone_ne h.2.1, h.2.2, ho _ H (.refl _) rfl⟩
    · exact ho.elim
  · exact ho.elim
theorem rep_cn {G : Hp} {ts : List T} {ds : List PyData} {vs : List V} {i : Nat} {v : V} {m : PyData} (c : cns ts = true) (e : pds ts = some ds) (r : Reps D G ts vs) (hv : vs[i]? = some v) (hm : ds[i]? = some m) : Rep D G (unpd m) v := by
  have e2 := cns_unpds c e
  rw [unpds_map] at e2
  obtain ⟨t, h1, h2⟩ := r.get' hv
  rw [e2, List.getElem?_map, hm] at h1
  cases h1
  exact h2
theorem opN_minD {f : PyData → List PyData → PyData} : OpN D (rMinD D.K f) (bMinD f) := fun G H xs ts Q s h ho => by
  unfold bMinD at ho
  split at ho
  · split at ho
    · rename_i us d ds e
      split at ho
      · rename_i hb
        obtain ⟨x, rfl, a, vs, rfl, h1, h2⟩ := h.one_of
        exact ⟨a, vs, d, ds, rfl, .of h1, pds_dp s e h2, allAl_of hb.2.1, hb.2.2, fun i v hv hm => ho v H (.refl _) (rep_cn hb.1 e h2 hv hm)⟩
      · exact ho.elim
    · exact ho.elim
  · exact ho.elim
theorem zip_cn {G : Hp} {ts : List T} {ds : List PyData} {vs : List V} (c : cns ts = true) (e : pds ts = some ds) (r : Reps D G ts vs) : ∃ zs : List (V × PyData), zs.map (·.1) = vs ∧ zs.map (·.2) = ds ∧ ∀ z ∈ zs, Rep D G (unpd z.2) z.1 := by
  have e2 := cns_unpds c e
  rw [unpds_map] at e2
  rw [e2] at r
  obtain ⟨zs, h1, h2, h3⟩ := reps_zip (f := unpd) r
  exact ⟨zs, h1, h2, h3⟩
theorem opN_sortD : OpN D (rSortD D.K) bSortD := fun G H xs ts Q s h ho => by
  unfold bSortD at ho
  split at ho
  · split at ho
    · rename_i us ds e
      split at ho
      · rename_i hb
        obtain ⟨x, rfl, a, vs, rfl, h1, h2⟩ := h.one_of
        obtain ⟨zs, z1, z2, z3⟩ := zip_cn hb.1 e h2
        have hs := hb.2.1
        unfold sortOk at hs
        rw [Bool.and_eq_true] at hs
        have hal := allAl_of hs.1
        refine ⟨a, zs, rfl, by rw [z1]; exact .of h1, by rw [z1, z2]; exact pds_dp s e h2, by rw [z2]; exact fun x hx y hy => hal.1 x hx y hy, ?_, fun z hz => ?_, fun p hp => ?_⟩
        · rw [z2]
          rcases (Bool.or_eq_true _ _).mp hs.2 with h | h
          · refine .inl fun d hd => ?_
            have := List.all_eq_true.mp h d hd
            split at this
            · rename_i x r; exact ⟨x, r, rfl⟩
            · cases this
          · refine .inr fun d hd => ⟨hal.2 d hd, fun xs ex => ?_⟩
            have := List.all_eq_true.mp h d hd
            subst ex
            cases this
        · have := List.all_eq_true.mp hb.2.2 z.2 (by rw [← z2]; exact List.mem_map.mpr ⟨z, hz, rfl⟩)
          simpa using this
        · have hr := zip_reps (D := D) (G := G) (f := unpd) (zs := zs.mergeSort (dataLe false fun z : V × PyData => z.2)) fun z hz => z3 z (List.mem_mergeSort.mp hz)
          have hm : (zs.mergeSort (dataLe false fun z : V × PyData => z.2)).map (·.2) = ds.mergeSort (dataLe false id) := by
            have q := List.map_mergeSort (f := fun z : V × PyData => z.2) (r := dataLe false fun z : V × PyData => z.2) (s := dataLe false id) (l := zs) (fun a _ b _ => rfl)
            exact q.trans (by rw [z2])
          rw [hm] at hr
          exact ho p _ _ (Same.fresh_up hp) hp upd_same hr
      · exact ho.elim
    · exact ho.elim
  · exact ho.elim
end
end VI

set_option Elab.async false
set_option linter.all false
set_option maxRecDepth 100000
set_option maxHeartbeats 4000000
namespace VI
open PySem L2 PySem.Spec PyProof.Rows
/-! ### an own exception whose __init__ stores tuple(its argument) -/
def tTupV (K : PySem.W.Frag) (te : TE) : TE := fun σ H Q => te σ H fun x H1 => ∃ t ys, x = .ref t ∧ SqT K H1 t ys ∧ Q x H1
def spExT (K : PySem.W.Frag) (C : Addr) (f1 : Str) : Sp := fun vs H Q _ => ∃ (a t : Addr) (ys : List V), vs = [.ref a, .ref t] ∧ H a = some (exo a C none) ∧ SqT K H t ys ∧ ∀ dx, H dx = none → dx ≠ a → Q .non (upd (upd H dx (exd dx [(f1, .ref t)])) a (exo a C (some dx)))
section
variable {X : Cx} {e : Expr} {te : TE} {x : Str} {p pos : Pos}
theorem pe_tupV {i : Nat} (hg : Gl X x) (hm : X.mg x = none) (hv : bootBuiltins x = some (.type "tuple")) (he : PE X e (tVar i)) (hn : x ≠ "__name__" := by decide)
    (hdb : (x == ("__debug__" : Str)) = false := by decide) (hs : starEach [e] X.env = (false, eval e X.env) :: starEach [] X.env := by rfl) (hpl : (backTo pos (starEach [] X.env)).any (·.1) = false := by rfl) : PE X (.Call (.Name x p) [e] [] pos) (tTupV X.K (tVar i)) :=
  pe_mono (pe_callTy call_tuple_of hg hm hv (pa_cons he pa_nil hs) hn hdb hs hpl) fun σ H Q ⟨v, h1, t, ys, h2, h3, h4⟩ => ⟨v, h1, t, ys, by rw [h2], .inr ⟨h3, h2 ▸ h4⟩⟩
end
section
variable {P : Program} {w : World} {K : PySem.W.Frag} {mg : Str → Option Value} {base : Heap} {C : Addr} {qual f1 s0 p1 : Str} {st : Stmt} {f : Addr} {fd : FuncData} {x : Str}
theorem fn_exT (F : Fun K x qual st f fd) (S : FnScope [s0, p1] [s0, p1] (defScope st)) (T : OexC K C) (n1 : PySem.W.findIn K (.ref C) f1 = some none)
    (hb : ∀ (cdv : Value) (A : Around) (outer : List Env) (s : Shared) (H : Hp) (E : XK), PSs (cxOf CX0 P w K mg base [s0, p1] qual (defScope st) f cdv A outer s H E).nox (defBody st) (tOst K f1 (tVar 0) (tTupV K (tVar 1)))) :
    FnOk P w K mg base CX0 1 f fd [s0, p1] (spExT K C f1) :=
  F.ok S (fun vs H Q E h => by obtain ⟨a, t, ys, rfl, _⟩ := h; rfl) fun cdv A outer s H vs Q E hr h => by
    obtain ⟨a, t, ys, rfl, ha, ht, q⟩ := h
    exact ⟨_, hb cdv A outer s H E, .ref t, rfl, t, ys, rfl, ht, .ref a, rfl, a, C, rfl, T, n1, .inl ⟨ha, fun dx hd ne => q dx hd ne⟩⟩
end
def sRaiseT (c k : Nat) (fa : EF) : SF := fun ρ => (fa ρ).bind fun x ρ1 => match x with
  | .val (.tup ts) => .ex c [k] [.tup ts] ρ1
  | _ => .bad
section
variable {X : Cx} {D : Wd} {φ : Fr} {W : WX} {e : Expr} {x : Str} {fI : Addr} {fd : FuncData} {ps : List Str} {pos p pos2 : Pos} {fa : EF}
theorem s_raiseT {f1 : Str} {c k1 : Nat} (hc : X.calm = true) (tk : Takes X W) (T : OexC X.K (D.ca c)) (iC : PySem.W.findIn X.K (.ref (D.ca c)) "__init__" = some (some (.ref fI))) (tI : PySem.W.typeIn X.K (.ref fI) = some (.type "function"))
    (F1 : FnOk X.prog X.w X.K X.mg X.base CX0 1 fI fd ps (spExT X.K (D.ca c) f1)) (hr : Room 2 X.A) (hb : Binds X.K fd ps []) (hg : Gl X x) (hm : X.mg x = some (.ref (D.ca c))) (hk1 : D.nm k1 = f1) (ha : EX X D φ W e fa)
    (hdb : (x == ("__debug__" : Str)) = false := by decide) (he : starEach [e] X.env = (false, eval e X.env) :: starEach [] X.env := by rfl) (hpl : (backTo pos (starEach [] X.env)).any (·.1) = false := by rfl) (hK : X.K = D.K := by rfl) :
    SX X D φ W (.Raise (some (.Call (.Name x p) [e] [] pos)) none pos2) (sRaiseT c k1 fa) :=
  ⟨ps_mono (ps_raise hc tk (pmk_oex (dvs := []) T iC tI F1 hr hb .nil pass0 hg hm (a_cons ha a_nil he).pa hdb he hpl)) fun E σ H ⟨G, ρ, r, pp⟩ => by
    refine ⟨G, ρ, r, ?_⟩
    unfold sRaiseT at pp
    unfold aCons
    cases e1 : fa ρ with
    | bad => rw [e1] at pp; exact pp
    | ex c' ks' ts' ρ1 => rw [e1] at pp; exact fun cls d G' H' s' r' q => pp cls d G' σ H' s' r' q
    | ok y ρ1 =>
      rw [e1] at pp
      simp only [R.bind_ok] at pp ⊢
      intro G1 H1 s1 r1 vs hvs
      cases y with
      | own _ => exact pp.elim
      | pk _ => exact pp.elim
      | val t =>
        cases t with
        | tup ts =>
          cases hvs with
          | cons hx hn =>
            cases hn
            rename_i v
            obtain ⟨b, ws, rfl, q1, q2⟩ := (show Rep D G1 (.tup ts) v from hx)
            refine ⟨by simp, fun a ha0 => ?_⟩
            refine ⟨a, b, ws, rfl, upd_same, by rw [hK]; exact same_t (fun b' o' e' => Same.fresh_up ha0 _ _ (r1.sub _ _ e')) q1, fun dx hdx ne => ?_⟩
            have hdx1 : H1 dx = none := by rw [upd_ne ne] at hdx; exact hdx
            refine ⟨rfl, dx, [(f1, .ref b)], upd_same, by rw [upd_ne ne]; exact upd_same, hdx1, ?_⟩
            rw [exc_fin ha0 fun b' h1 h2 => by rw [upd_ne h1, upd_ne h2, upd_ne h1]]
            have rf := r1.newFrozen (o := .xd [(f1, .ref b)]) hdx1
            have hg' : G1 dx = none := same_none r1.sub hdx1
            exact pp (.ref (D.ca c)) (some dx) _ σ _ (s1.trans (Same.fresh_up hg')) rf ⟨rfl, .inr ⟨by simp, dx, [(f1, .ref b)], rfl, upd_same, by simp [hk1], ⟨.ref b, [], rfl, (show Rep D G1 (.tup ts) (.ref b) from ⟨b, ws, rfl, q1, q2⟩).mono (Same.fresh_up hg'), rfl⟩⟩⟩
        | _ => exact pp.elim⟩
end
end VI

set_option Elab.async false
set_option linter.all false
set_option maxRecDepth 100000
set_option maxHeartbeats 4000000
namespace VI
open PySem L2 PySem.Spec PyProof.Rows
/-! ### x.count(i), a list of ints -/
def cntT (ns : Option (List Int)) (us : Option (List T)) (ρ : Ro) : R EV := match ns, us with
  | some ns, some [.int i] => .ok (.val (.int (ns.count i : Nat))) ρ
  | _, _ => .bad
def eCnt (fo : EF) (ga : AF) : EF := fun ρ => (fo ρ).bind fun x ρ1 => match (deref ρ1 x).bind idxL with
  | some _ => (ga ρ1).bind fun ys ρ2 => cntT ((deref ρ2 x).bind idxL) (grounds ys) ρ2
  | none => .bad
section
variable {X : Cx} {D : Wd} {φ : Fr} {W : WX} {e o : Expr} {es : List Expr} {fo : EF} {ga : AF} {pos : Pos}
theorem e_cnt {apos : Pos} (ho : EX X D φ W o fo) (ha : AX X D φ W (e :: es) ga)
    (hbase : attributeBase o "count" X.env (eval o X.env) = eval o X.env := by rfl)
    (hfew : ((backTo pos (starEach (e :: es) X.env)).all (fun x => !x.1) && (backToKw pos (keywordEach [] X.env)).all (fun x => x.1.isSome) && decide ((e :: es).length + ([] : List Keyword).length + (if ([] : List Keyword).isEmpty then 0 else 1) < 30)) = true := by rfl)
    (hline : (apos.endLine == pos.line) = true := by rfl) (hs : starEach (e :: es) X.env = (false, eval e X.env) :: starEach es X.env := by rfl) (hplain : (backTo pos (starEach es X.env)).any (·.1) = false := by rfl) (hK : X.K = D.K := by rfl) :
    EX X D φ W (.Call (.Attribute o "count" apos) (e :: es) [] pos) (eCnt fo ga) :=
  ⟨pe_mono (pe_bm PySem.F.plainAttrs_list PySem.F.slot_list_count PySem.F.type_list_count mt_lcount ho.pe ha.pa hbase hfew hline hs hplain) fun σ H Q ⟨G, ρ, r, p⟩ => by
    have lst : ∀ {t : T} {ns : List Int} {G2 H2 : Hp} {v : V}, idxL t = some ns → RepU D G2 H2 t v → Same G2 H2 → ∃ a, v = .ref a ∧ SqL D.K H2 a (ns.map V.int) := fun {t ns G2 H2 v} e h s => by
      cases t with
      | lst ts =>
        obtain ⟨a, vs, rfl, h1, h2⟩ := h
        rw [intsT_of e] at h2
        rw [reps_ints.mp h2] at h1
        exact ⟨a, rfl, .inl (.inl h1)⟩
      | sq ts =>
        obtain ⟨a, vs, rfl, h1, h2⟩ := h
        rw [intsT_of e] at h2
        rw [reps_ints.mp h2] at h1
        exact ⟨a, rfl, same_l s h1⟩
      | _ => cases e
    refine ⟨G, ρ, r, Post.imp (Post.bind p) fun x ρ1 G1 H1 s1 r1 p1 v hv => ?_⟩
    obtain ⟨G2, s2, r2, hh⟩ := settle r1 hv
    cases e1 : deref ρ1 x with
    | none => rw [e1] at p1; exact p1.elim
    | some t =>
      rw [e1] at p1
      simp only [Option.bind_some] at p1
      cases e2 : idxL t with
      | none => rw [e2] at p1; exact p1.elim
      | some ns0 =>
        rw [e2] at p1
        simp only at p1
        obtain ⟨a, rfl, hq⟩ := lst e2 (hh.use r2 e1) r2.sub
        refine ⟨.inl ⟨rfl, _, by rw [hK]; exact hq⟩, G2, ρ1, r2, Post.imp (Post.bind (Post.weak s2 p1)) fun ys ρ2 G3 H3 s3 r3 p3 vs hvs => ?_⟩
        cases e3 : deref ρ2 x with
        | none => rw [e3] at p3; exact p3.elim
        | some t2 =>
          rw [e3] at p3
          simp only [Option.bind_some] at p3
          cases e4 : idxL t2 with
          | none => rw [e4] at p3; exact p3.elim
          | some ns =>
            rw [e4] at p3
            unfold cntT at p3
            split at p3
            · rename_i ns' i h1 h2
              cases h1
              have hy : vs = [V.int i] := reps_ints (ns := [i]) |>.mp (hvs.ground h2)
              subst hy
              obtain ⟨a2, ea, hq2⟩ := lst e4 ((hh.mono s3).use r3 e3) r3.sub
              cases ea
              exact ⟨a, ns, i, rfl, rfl, by rw [hK]; exact hq2, p3 G3 H3 (.refl _) r3 _ rfl⟩
            · exact p3.elim⟩
end
end VI

set_option Elab.async false
set_option linter.all false
set_option maxRecDepth 100000
set_option maxHeartbeats 4000000
namespace VI
open PySem L2 PySem.Spec PyProof.Rows
/-! ### x[::-1] of a tuple -/
theorem adjust_back (n : Nat) : Builtin.Slice.sliceAdjust none none (-1) (n : Int) = ((n : Int) - 1, -1) := by
  unfold Builtin.Slice.sliceAdjust
  simp
theorem places_back (n : Nat) : Builtin.Slice.slicePlaces ((n : Int) - 1) (-1) (-1) = n := by
  unfold Builtin.Slice.slicePlaces
  have h1 : ¬ ((-1 : Int) > 0) := by omega
  simp only [h1, if_false]
  split
  · rw [show (- -1 : Int) = 1 by decide, Int.ediv_one]; omega
  · omega
theorem pick_back (xs : Array Value) : ((List.range xs.size).filterMap fun (k : Nat) => xs[(((xs.size : Nat) : Int) - 1 + (k : Int) * -1).toNat]?).toArray = xs.toList.reverse.toArray := by
  congr 1
  have e : ((List.range xs.size).filterMap fun (k : Nat) => xs[(((xs.size : Nat) : Int) - 1 + (k : Int) * -1).toNat]?) = ((List.range xs.size).map fun k => xs.size - 1 - k).filterMap (xs[·]?) := by
    rw [List.filterMap_map]
    have fc : ∀ (f g : Nat → Option Value) (l : List Nat), (∀ k ∈ l, f k = g k) → l.filterMap f = l.filterMap g := fun f g l => by
      induction l with
      | nil => intro _; rfl
      | cons a l ih => intro h; rw [List.filterMap_cons, List.filterMap_cons, h a (by simp), ih fun k hk => h k (by simp [hk])]
    refine fc _ _ _ fun k hk => ?_
    have := List.mem_range.mp hk
    simp only [Function.comp]
    congr 1
    omega
  rw [e, PySem.W.krv_range, List.filterMap_reverse, PySem.W.krv_all]
section
variable {prog : Program} {w : World} {A : Around} {E : Value → Shared → Prop} {s : Shared}
theorem applied_back {sl : Addr} {vs : Value} {n : Nat} {Q : Int × Int × Nat → Shared → Prop} (hs : s.heap.IsSliceOf sl .none .none vs) (ps : IsPart vs (some (-1)))
    (h : Q ((n : Int) - 1, -1, n) s) : wpAny (model prog w) A (Builtin.Slice.sliceApplied (.ref sl) (pure (n : Int))) Q E s := by
  obtain ⟨os, ho, hc, hd⟩ := id hs
  unfold Builtin.Slice.sliceApplied Builtin.Slice.sliceFields
  refine wpAny_bind (wpAny_bind (wpAny_field ho hd (x := .none) rfl (wpAny_bind (wpAny_field ho hd (x := .none) rfl (wpAny_bind (wpAny_field ho hd (x := vs) rfl (wpAny_pure ?_)))))))
  refine wpAny_bind (HT.slicePart_ ps ?_)
  show wpAny _ _ (if ((-1 : Int) == 0) = true then _ else _) _ _ s
  rw [if_neg (by decide)]
  refine wpAny_bind (slicePart_none (wpAny_bind (slicePart_none (wpAny_bind (wpAny_pure ?_)))))
  show wpAny _ _ (match Builtin.Slice.sliceAdjust none none (-1) (n : Int) with | (lo, hi) => pure (lo, (-1 : Int), Builtin.Slice.slicePlaces lo hi (-1))) _ _ s
  rw [adjust_back n]
  show wpAny _ _ (pure ((n : Int) - 1, (-1 : Int), Builtin.Slice.slicePlaces ((n : Int) - 1) (-1) (-1))) _ _ s
  rw [places_back]
  exact wpAny_pure h
theorem item_back {t sl : Addr} {items : Array Value} {vs : Value} {Q : Value → Shared → Prop} (ht : IsTup s.heap t items) (hs : s.heap.IsSliceOf sl .none .none vs) (ps : IsPart vs (some (-1)))
    (h : Q (.ref s.heap.objs.size) { s with heap := s.heap.push { cls := .type "tuple", data := .seq items.toList.reverse.toArray } }) (hsz : items.size ≤ sizeLine) : wpAny (model prog w) A (getItem (.ref t) (.ref sl)) Q E s := by
  have hok : sizeOk (.seq items.toList.reverse.toArray) := by
    show items.toList.reverse.toArray.size ≤ sizeLine
    rw [List.size_toArray, List.length_reverse, Array.length_toList]; exact hsz
  obtain ⟨os, ho, hc, hd⟩ := id hs
  have hT : s.TypeIs (.ref sl) "slice" := ⟨os, ho, hc⟩
  unfold getItem
  try with_reducible refine wpAny_holding ?_
  first | refine wpAny_bind (wpAny_pure ?_) | skip
  refine wpAny_bind (wpAny_sequenceKey ht.typeIs (by decide) ?_)
  refine wpAny_bind (wpAny_callSpecial?_slot (name := Str.ofString "__getitem__") ht.typeIs PyProof.Rows.slot_tuple_getitem (wpAny_call_entry PyProof.Rows.slot_tuple_getitem ht.typeIs entry_tuple_getitem ?_ (args_tuple_getitem _ _)))
  show wpAny _ _ (Builtin.Tuple.tupleItemsOf (.ref t) >>= _) _ _ s
  refine wpAny_bind (tupleItemsOf_ ht ?_)
  refine wpAny_bind (wpAny_typeOf hT ?_)
  rw [if_pos (by decide)]
  refine wpAny_bind (applied_back hs ps ?_)
  have hno : ¬ ((((items.size : Nat) : Int) - 1 == 0 && (-1 : Int) == 1 && items.size == items.size) = true) := by simp
  show wpAny _ _ (if (((items.size : Nat) : Int) - 1 == 0 && (-1 : Int) == 1 && items.size == items.size) = true then _ else _) _ _ s
  rw [if_neg hno, pick_back]
  first
    | exact wpAny_bind (m := Builtin.Tuple.tupleExact _) (wpAny_newObj_type (wpAny_pure ⟨_, rfl, wpAny_pure h⟩) hok)
    | exact wpAny_bind (m := Builtin.Tuple.tupleExact _) (wpAny_newObj_type (wpAny_bind (wpAny_pure (wpAny_pure ⟨_, rfl, wpAny_pure h⟩))) hok)
    | exact wpAny_bind (wpAny_bind (m := Builtin.Tuple.tupleExact _) (wpAny_newObj_type (wpAny_pure (wpAny_pure ⟨_, rfl, wpAny_pure h⟩)) hok))
    | exact wpAny_bind (wpAny_bind (m := Builtin.Tuple.tupleExact _) (wpAny_newObj_type (wpAny_pure ⟨_, rfl, wpAny_pure h⟩) hok))
end
section
variable {X : Cx} {D : Wd} {φ : Fr} {W : WX} {e : Expr} {fa : EF}
def tRevT (K : PySem.W.Frag) (te : TE) : TE := fun σ H Q => te σ H fun x H1 => ∃ a xs, x = .ref a ∧ SqT K H1 a xs ∧ ∀ p, H1 p = none → Q (.ref p) (upd H1 p (.tup xs.reverse))
theorem pe_revT {te : TE} {k : Nat} {p1 p2 p3 pos : Pos} (he : PE X e te) : PE X (.Subscript e (.Slice none none (some (.UnaryOp .USub (.Constant (.int 1) k p1) p2)) p3) pos) (tRevT X.K te) := ⟨fun pins s σ H Q I h => by
  refine Subscript_ (thn (he.run pins s σ H _ I h) fun v s1 z => ?_)
  obtain ⟨x, H1, I1, r1, a, xs, ex, hx, q⟩ := z
  subst ex
  cases r1
  have hst : PO X (some (.UnaryOp .USub (.Constant (.int 1) k p1) p2)) (tPart (tUn (rU fun i => .int (-i)) (tC (.int 1)))) := po_some (pe_un un_neg pe_int)
  refine wpAny_Slice (thn (po_none.run pins s1 σ H1 (fun o H2 => o = none ∧ H2 = H1) I1 ⟨rfl, rfl⟩) fun vl s2 z2 => ?_)
  obtain ⟨l, H2, I2, pl, el, e2⟩ := z2
  subst el e2
  refine thn (po_none.run pins s2 σ H2 (fun o H3 => o = none ∧ H3 = H2) I2 ⟨rfl, rfl⟩) fun vu s3 z3 => ?_
  obtain ⟨u, H3, I3, pu, eu, e3⟩ := z3
  subst eu e3
  refine thn (hst.run pins s3 σ H3 (fun o H4 => o = some (-1) ∧ H4 = H3) I3 ⟨1, rfl, -1, rfl, rfl, rfl⟩) fun vs s4 z4 => ?_
  obtain ⟨o, H4, I4, ps, eo, e4⟩ := z4
  subst eo e4
  cases pl
  cases pu
  have I5 : Inv X pins σ H4 { s4 with heap := s4.heap.push { cls := .type "slice", data := .fields #[.none, .none, vs] } } := I4.kept (t' := s4.toks) fun b ob qb => Heap.get?_push_of_some _ qb
  obtain ⟨its, r, ht, hz⟩ := I5.tuple hx
  have hlen := r.length
  show wpAny (model X.prog X.w) X.A (subscriptTail e (.Slice none none (some (.UnaryOp .USub (.Constant (.int 1) k p1) p2)) p3) (.ref a) (.ref s4.heap.objs.size)) (EP X pins σ Q) X.xe { s4 with heap := s4.heap.push { cls := .type "slice", data := .fields #[.none, .none, vs] } }
  refine tail_any (ops := [.ref a, .ref s4.heap.objs.size]) ht.typeIs (PyProof.Rows.slot_tuple_getitem.lookup) ?_ (by with_unfolding_all rfl)
  refine item_back ht (Heap.IsSliceOf.new _ .none .none vs) ps ?_ (by rw [List.size_toArray]; omega)
  exact ⟨.ref _, _, I5.laid (t' := s4.toks) (o := .tup xs.reverse) (fun b ob qb => Heap.get?_push_of_some _ qb) (Nat.le_refl _) ⟨by rw [List.length_reverse]; exact hz, _, r.reverse, IsTup.new _ _⟩, rfl, q _ (I5.hok.fresh (Nat.le_refl _))⟩⟩
def oRevT : T → Out
  | .tup ts => .u ts.reverse
  | _ => .no
theorem e_revT {k : Nat} {p1 p2 p3 pos : Pos} (ha : EX X D φ W e fa) (hK : X.K = D.K := by rfl) : EX X D φ W (.Subscript e (.Slice none none (some (.UnaryOp .USub (.Constant (.int 1) k p1) p2)) p3) pos) (e1 oRevT fa) :=
  ⟨pe_mono (pe_revT ha.pe) fun σ H Q h => one (r := fun x H1 Q => ∃ a xs, x = V.ref a ∧ SqT X.K H1 a xs ∧ ∀ p, H1 p = none → Q (.ref p) (upd H1 p (.tup xs.reverse))) (fun G H x t Q s ht ho => by
    cases t with
    | tup ts =>
      obtain ⟨l, vs, rfl, h1, h2⟩ := ht
      exact ⟨l, vs, rfl, by rw [hK]; exact same_t s h1, fun q hq => ho q _ _ (Same.fresh_up hq) hq upd_same h2.reverse⟩
    | _ => exact ho.elim) h⟩
end
end VI

set_option Elab.async false
set_option linter.all false
set_option maxRecDepth 100000
set_option maxHeartbeats 4000000
namespace VI
open PySem L2 PySem.Spec PyProof.Rows
/-! ### the mirrors, evaluated -/
theorem shaped_int (i : Int) : SeqAt.shaped (.int i) = true := by first | rfl | decide | simp [SeqAt.shaped]
theorem shaped_bl (i : Bool) : SeqAt.shaped (.bool i) = true := by cases i <;> first | rfl | decide | simp [SeqAt.shaped]
theorem eqv_int (i j : Int) : PyData.eqv (.int i) (.int j) = decide (i = j) := by first | rfl | simp [PyData.eqv]
theorem eqv_bl (i j : Bool) : PyData.eqv (.bool i) (.bool j) = decide (i = j) := by cases i <;> cases j <;> first | rfl | simp [PyData.eqv] | decide
theorem eqD_int (i j : Int) : eqD false (.int i) (.int j) = .v (.bl (decide (i = j))) := by
  simp only [eqD, pd]
  rw [if_pos ⟨shaped_int i, shaped_int j⟩, eqv_int]; rfl
theorem neD_int (i j : Int) : eqD true (.int i) (.int j) = .v (.bl (!decide (i = j))) := by
  simp only [eqD, pd]
  rw [if_pos ⟨shaped_int i, shaped_int j⟩, eqv_int]; rfl
theorem eqD_bl (i j : Bool) : eqD false (.bl i) (.bl j) = .v (.bl (decide (i = j))) := by
  simp only [eqD, pd]
  rw [if_pos ⟨shaped_bl i, shaped_bl j⟩, eqv_bl]; rfl
theorem neD_bl (i j : Bool) : eqD true (.bl i) (.bl j) = .v (.bl (!decide (i = j))) := by
  simp only [eqD, pd]
  rw [if_pos ⟨shaped_bl i, shaped_bl j⟩, eqv_bl]; rfl
/-- small numbers may be multiplied, and divided by -/
theorem log2_lt {n k : Nat} (h : n < 2 ^ k) (hk : 0 < k) : n.log2 < k := by
  by_cases h0 : n = 0
  · subst h0; simpa using hk
  · exact (Nat.log2_lt h0).mpr h
theorem bigOk_of {i : Int} (h1 : -(10 ^ 1000 : Int) < i) (h2 : i < 10 ^ 1000) : bigOk i = true := by
  have : i.natAbs < 2 ^ 4000 := by
    have h3 : i.natAbs < 10 ^ 1000 := by omega
    exact Nat.lt_of_lt_of_le h3 (by decide +kernel)
  have := log2_lt this (by decide)
  simp only [bigOk, decide_eq_true_eq]; omega
theorem divOk_of {i : Int} (h1 : 0 < i) (h2 : i < 10 ^ 1000) : divOk i = true := by
  have : i.natAbs < 2 ^ 4000 := by
    have h3 : i.natAbs < 10 ^ 1000 := by omega
    exact Nat.lt_of_lt_of_le h3 (by decide +kernel)
  have := log2_lt this (by decide)
  simp only [divOk, decide_eq_true_eq, Bool.and_eq_true]; omega
end VI
namespace VI
open PySem L2
theorem pow_10_18 : opPow (.int 10) (.int 18) = .v (.int 1000000000000000000) := by simp [opPow]
theorem pow_10_9 : opPow (.int 10) (.int 9) = .v (.int 1000000000) := by simp [opPow]
end VI

set_option Elab.async false
set_option linter.all false
set_option maxRecDepth 100000
set_option maxHeartbeats 4000000
namespace VI
open PySem L2 PySem.Spec PyProof.Rows
theorem pds_ints : ∀ ns : List Int, pds (ns.map T.int) = some (ns.map PyData.int)
  | [] => rfl
  | n :: ns => by simp [pds, pd, pds_ints ns]
theorem lay_ints : ∀ ns : List Int, PyData.canLayAll0 (ns.map PyData.int) = true
  | [] => by simp [PyData.canLayAll0]
  | n :: ns => by simp [PyData.canLayAll0, PyData.canLay0, lay_ints ns]
theorem dep_ints : ∀ ns : List Int, PyData.depthAll (ns.map PyData.int) = 0
  | [] => by simp [PyData.depthAll]
  | n :: ns => by simp [PyData.depthAll, PyData.depth, dep_ints ns]
theorem shaped_li (ns : List Int) : SeqAt.shaped (.list (ns.map PyData.int)) = true := by simp [SeqAt.shaped, PyData.canLay0, PyData.depth, lay_ints, dep_ints]
theorem shaped_tu (ns : List Int) : SeqAt.shaped (.tuple (ns.map PyData.int)) = true := by simp [SeqAt.shaped, PyData.canLay0, PyData.depth, lay_ints, dep_ints]
theorem eqvAll_ints : ∀ xs ys : List Int, PyData.eqvAll (xs.map PyData.int) (ys.map PyData.int) = decide (xs = ys)
  | [], [] => by simp [PyData.eqvAll]
  | [], y :: ys => by simp [PyData.eqvAll]
  | x :: xs, [] => by simp [PyData.eqvAll]
  | x :: xs, y :: ys => by
    simp only [List.map_cons, PyData.eqvAll, eqv_int, eqvAll_ints xs ys, List.cons.injEq]
    by_cases h1 : x = y <;> by_cases h2 : xs = ys <;> simp [h1, h2]
theorem eqD_li (xs ys : List Int) : eqD false (.lst (xs.map T.int)) (.lst (ys.map T.int)) = .v (.bl (decide (xs = ys))) := by
  simp only [eqD, pd, pds_ints, Option.map_some]
  rw [if_pos ⟨shaped_li xs, shaped_li ys⟩]
  simp only [PyData.eqv, eqvAll_ints]; rfl
theorem neD_li (xs ys : List Int) : eqD true (.lst (xs.map T.int)) (.lst (ys.map T.int)) = .v (.bl (!decide (xs = ys))) := by
  simp only [eqD, pd, pds_ints, Option.map_some]
  rw [if_pos ⟨shaped_li xs, shaped_li ys⟩]
  simp only [PyData.eqv, eqvAll_ints]; rfl
theorem eqD_tu (xs ys : List Int) : eqD false (.tup (xs.map T.int)) (.tup (ys.map T.int)) = .v (.bl (decide (xs = ys))) := by
  simp only [eqD, pd, pds_ints, Option.map_some]
  rw [if_pos ⟨shaped_tu xs, shaped_tu ys⟩]
  simp only [PyData.eqv, eqvAll_ints]; rfl
theorem flat_ints : ∀ ns : List Int, (ns.map T.int).all flatT = true
  | [] => rfl
  | n :: ns => by simp [flatT, flat_ints ns]
theorem inT_ints (x : Int) : ∀ ns : List Int, inT (.int x) (ns.map T.int) = decide (x ∈ ns)
  | [] => by simp [inT]
  | n :: ns => by
    have ih := inT_ints x ns
    unfold inT at ih ⊢
    rw [List.map_cons, List.any_cons, ih]
    simp only [toV, eqV]
    by_cases h1 : n = x
    · subst h1; simp
    · have h2 : (n == x) = false := beq_eq_false_iff_ne.mpr h1
      rw [h2, Bool.false_or]
      have h3 : (x ∈ n :: ns) ↔ x ∈ ns := ⟨fun z => (List.mem_cons.mp z).elim (fun e => absurd e.symm h1) id, List.mem_cons_of_mem _⟩
      exact decide_eq_decide.mpr h3.symm
theorem opIn_li (x : Int) (ns : List Int) : opIn false (.int x) (.lst (ns.map T.int)) = .v (.bl (decide (x ∈ ns))) := by
  simp only [opIn]; rw [if_pos ⟨rfl, flat_ints ns⟩, inT_ints]; rfl
theorem opIn_tu (x : Int) (ns : List Int) : opIn false (.int x) (.tup (ns.map T.int)) = .v (.bl (decide (x ∈ ns))) := by
  simp only [opIn]; rw [if_pos ⟨rfl, flat_ints ns⟩, inT_ints]; rfl
theorem opNotIn_li (x : Int) (ns : List Int) : opIn true (.int x) (.lst (ns.map T.int)) = .v (.bl (!decide (x ∈ ns))) := by
  simp only [opIn]; rw [if_pos ⟨rfl, flat_ints ns⟩, inT_ints]; rfl
/-- a slot that holds this list, to be read -/
def LstAt (s : Sl) (ts : List T) : Prop := s = .val (.lst ts) ∨ s = .pin (.lst ts)
end VI
namespace VI
theorem seq_nx {f g : SF} {ρ ρ1 : Ro} (h : f ρ = .ok .nx ρ1) : sSeq f g ρ = g ρ1 := by simp only [sSeq, h]
theorem seq_rt {f g : SF} {ρ ρ1 : Ro} {x : EV} (h : f ρ = .ok (.rt x) ρ1) : sSeq f g ρ = .ok (.rt x) ρ1 := by simp only [sSeq, h]
theorem run_rt {k : Nat} {f : SF} {ρ ρ1 : Ro} {x : EV} (h : f (ρ ++ List.replicate k .no) = .ok (.rt x) ρ1) : runF k f ρ = .ok x ρ1 := by simp only [runF, h]
theorem if_no {g : TF} {f k : SF} {ρ ρ1 : Ro} (h : g ρ = .ok false ρ1) : sIf g f k ρ = k ρ1 := by simp [sIf, h, R.bind]
theorem if_yes {g : TF} {f k : SF} {ρ ρ1 : Ro} (h : g ρ = .ok true ρ1) : sIf g f k ρ = f ρ1 := by simp [sIf, h, R.bind]
theorem for_of {fi : Ro → R (List T)} {g : T → Ro → Option Ro} {f : SF} {ρ ρ1 : Ro} {ts : List T} {r : R Fl} (h : fi ρ = .ok ts ρ1) (h2 : loopS g f ts ρ1 = r) : sFor fi g f ρ = r := by simp [sFor, h, R.bind, h2]
end VI
namespace VI
/-- kept apart: the kernel must not compare a cast with the great bound -/
theorem iRange1_of {fa : AF} {ρ ρ1 : Ro} {j : Int} (h : fa ρ = .ok [.val (.int j)] ρ1) (h1 : -(2 ^ 62) ≤ j) (h2 : j < 2 ^ 62) : iRange1 fa ρ = .ok (rangeT 0 j.toNat) ρ1 := by
  unfold iRange1
  rw [h]
  simp only [R.bind_ok, derefs, deref]
  rw [if_pos ⟨h1, h2⟩]
theorem iRange2_of {fa : AF} {ρ ρ1 : Ro} {i j : Int} (h : fa ρ = .ok [.val (.int i), .val (.int j)] ρ1) (h1 : -(2 ^ 62) ≤ i) (h2 : i < 2 ^ 62) (h3 : -(2 ^ 62) ≤ j) (h4 : j < 2 ^ 62) : iRange2 fa ρ = .ok (rangeT i (j - i).toNat) ρ1 := by
  unfold iRange2
  rw [h]
  simp only [R.bind_ok, derefs, deref]
  rw [if_pos ⟨h1, h2, h3, h4⟩]
end VI

set_option Elab.async false
set_option linter.all false
set_option maxRecDepth 100000
set_option maxHeartbeats 4000000
namespace VI
open PySem L2
/-! ### what is wanted of a result, read from the left -/
/-- a mark that keeps what it speaks of as it stands -/
structure Tag {β : Sort _} (b : β) : Type where
abbrev EQ := Nat → List Nat → List T → Ro → Prop
@[irreducible] def Wp {α : Type} (r : R α) (Q : α → Ro → Prop) (X : EQ) (_ : Tag Q := ⟨⟩) (_ : Tag X := ⟨⟩) : Prop := match r with
  | .ok a ρ => Q a ρ
  | .ex c ks ts ρ => X c ks ts ρ
  | .bad => False
section
variable {α β : Type} {Q : α → Ro → Prop} {X : EQ} {ρ ρ1 : Ro}
theorem Wp_cong {r : R α} {Q' : α → Ro → Prop} (h : ∀ a ρ, Q a ρ = Q' a ρ) : Wp r Q X = Wp r Q' X := by
  have : Q = Q' := funext fun a => funext fun ρ => h a ρ
  subst this; rfl
theorem Wp_ok {a : α} : Wp (.ok a ρ) Q X = Q a ρ := by with_unfolding_all rfl
theorem Wp_ex {c : Nat} {ks : List Nat} {ts : List T} : Wp (.ex c ks ts ρ) Q X = X c ks ts ρ := by with_unfolding_all rfl
theorem Wp_bad : Wp (.bad : R α) Q X = False := by with_unfolding_all rfl
theorem Wp_bind {x : R β} {f : β → Ro → R α} : Wp (x.bind f) Q X = Wp x (fun b ρ => Wp (f b ρ) Q X) X := by cases x <;> with_unfolding_all rfl
theorem Wp_mono {r : R α} {Q' : α → Ro → Prop} {X' : EQ} (h : Wp r Q X) (k : ∀ a ρ, Q a ρ → Q' a ρ) (k2 : ∀ c ks ts ρ, X c ks ts ρ → X' c ks ts ρ) : Wp r Q' X' := by
  cases r with
  | ok a ρ => rw [Wp_ok] at h ⊢; exact k _ _ h
  | ex c ks ts ρ => rw [Wp_ex] at h ⊢; exact k2 _ _ _ _ h
  | bad => rw [Wp_bad] at h; exact h.elim
theorem Wp_pos {c : Prop} [Decidable c] {a b : R α} (h : c) : Wp (if c then a else b) Q X = Wp a Q X := by rw [if_pos h]
theorem Wp_neg {c : Prop} [Decidable c] {a b : R α} (h : ¬ c) : Wp (if c then a else b) Q X = Wp b Q X := by rw [if_neg h]
theorem Wp_split {c : Prop} [Decidable c] {a b : R α} (h1 : c → Wp a Q X) (h2 : ¬ c → Wp b Q X) : Wp (if c then a else b) Q X := by
  by_cases h : c
  · rw [if_pos h]; exact h1 h
  · rw [if_neg h]; exact h2 h
theorem Wp_tt {a b : R α} : Wp (if (true = true) then a else b) Q X = Wp a Q X := by with_unfolding_all rfl
theorem Wp_ff {a b : R α} : Wp (if (false = true) then a else b) Q X = Wp b Q X := by with_unfolding_all rfl
theorem Wp_dec {c : Prop} [Decidable c] {a b : R α} : Wp (if (decide c = true) then a else b) Q X = Wp (if c then a else b) Q X := by
  by_cases h : c <;> simp [h]
theorem Wp_notb {c : Bool} {a b : R α} : Wp (if ((!c) = true) then a else b) Q X = Wp (if (c = true) then b else a) Q X := by cases c <;> with_unfolding_all rfl
theorem Wp_not {c : Prop} [Decidable c] {a b : R α} : Wp (if (¬ c) then a else b) Q X = Wp (if c then b else a) Q X := by
  by_cases h : c <;> simp [h]
end
/-! ### outcomes -/
def outK (o : Out) (Q : EV → Ro → Prop) (ρ : Ro) (_ : Tag Q := ⟨⟩) : Prop := match o with
  | .v t => Q (.val t) ρ
  | .l xs => Q (.own xs) ρ
  | .u xs => Q (.val (.tup xs)) ρ
  | .no => False
theorem outK_ite {c : Prop} [Decidable c] {a b : Out} {Q : EV → Ro → Prop} {ρ : Ro} : outK (if c then a else b) Q ρ = (if c then outK a Q ρ else outK b Q ρ) := by by_cases h : c <;> simp [h]
section
variable {Q : EV → Ro → Prop} {X : EQ} {ρ ρ1 : Ro} {fa fb : EF} {ga : AF} {x y : EV} {t u : T} {ts us : List T} {g : T → T → Out} {g1 : T → Out} {gn : List T → Out}
theorem outK_v : outK (.v t) Q ρ = Q (.val t) ρ := by with_unfolding_all rfl
theorem outK_l : outK (.l ts) Q ρ = Q (.own ts) ρ := by with_unfolding_all rfl
theorem outK_u : outK (.u ts) Q ρ = Q (.val (.tup ts)) ρ := by with_unfolding_all rfl
theorem Wp_out {o : Out} : Wp (out o ρ) Q X = outK o Q ρ := by cases o <;> with_unfolding_all rfl
def e1K (g : T → Out) (Q : EV → Ro → Prop) (d : Option T) (ρ : Ro) (_ : Tag Q := ⟨⟩) : Prop := match d with | some t => outK (g t) Q ρ | none => False
theorem e1K_some : e1K g1 Q (some t) ρ = outK (g1 t) Q ρ := by with_unfolding_all rfl
theorem Wp_e1 : Wp (e1 g1 fa ρ) Q X = Wp (fa ρ) (fun x ρ1 => e1K g1 Q (deref ρ1 x) ρ1) X := by
  unfold e1; rw [Wp_bind]; refine Wp_cong fun x ρ1 => ?_
  cases deref ρ1 x with
  | none => with_unfolding_all rfl
  | some t => exact Wp_out
def e2K (g : T → T → Out) (Q : EV → Ro → Prop) (d e : Option T) (ρ : Ro) (_ : Tag Q := ⟨⟩) : Prop := match d, e with | some t, some u => outK (g t u) Q ρ | _, _ => False
theorem e2K_some : e2K g Q (some t) (some u) ρ = outK (g t u) Q ρ := by with_unfolding_all rfl
theorem Wp_e2 : Wp (e2 g fa fb ρ) Q X = Wp (fa ρ) (fun x ρ1 => Wp (fb ρ1) (fun y ρ2 => e2K g Q (deref ρ2 x) (deref ρ2 y) ρ2) X) X := by
  unfold e2; rw [Wp_bind]; refine Wp_cong fun x ρ1 => ?_; rw [Wp_bind]; refine Wp_cong fun y ρ2 => ?_
  cases deref ρ2 x with
  | none => with_unfolding_all rfl
  | some t =>
    cases deref ρ2 y with
    | none => with_unfolding_all rfl
    | some u => exact Wp_out
def eNK (g : List T → Out) (Q : EV → Ro → Prop) (d : Option (List T)) (ρ : Ro) (_ : Tag Q := ⟨⟩) : Prop := match d with | some t => outK (g t) Q ρ | none => False
theorem eNK_some : eNK gn Q (some ts) ρ = outK (gn ts) Q ρ := by with_unfolding_all rfl
theorem Wp_eN : Wp (eN gn ga ρ) Q X = Wp (ga ρ) (fun xs ρ1 => eNK gn Q (derefs ρ1 xs) ρ1) X := by
  unfold eN; rw [Wp_bind]; refine Wp_cong fun x ρ1 => ?_
  cases derefs ρ1 x with
  | none => with_unfolding_all rfl
  | some t => exact Wp_out
theorem Wp_eC : Wp (eC t ρ) Q X = Q (.val t) ρ := by with_unfolding_all rfl
theorem Wp_aNil {Q : List EV → Ro → Prop} : Wp (aNil ρ) Q X = Q [] ρ := by with_unfolding_all rfl
theorem Wp_aCons {Q : List EV → Ro → Prop} : Wp (aCons fa ga ρ) Q X = Wp (fa ρ) (fun x ρ1 => Wp (ga ρ1) (fun xs ρ2 => Q (x :: xs) ρ2) X) X := by
  unfold aCons; rw [Wp_bind]; refine Wp_cong fun x ρ1 => ?_; rw [Wp_bind]; with_unfolding_all rfl
def optTK (Q : List T → Prop) (d : Option (List T)) (_ : Tag Q := ⟨⟩) : Prop := match d with | some ts => Q ts | none => False
theorem optTK_some {Q : List T → Prop} : optTK Q (some ts) = Q ts := by with_unfolding_all rfl
theorem Wp_aStar {Q : List EV → Ro → Prop} : Wp (aStar fa ga ρ) Q X = Wp (fa ρ) (fun x ρ1 => optTK (fun ts => Wp (ga ρ1) (fun ys ρ2 => Q (ts.map .val ++ ys) ρ2) X) ((deref ρ1 x).bind itemsT)) X := by
  unfold aStar; rw [Wp_bind]; refine Wp_cong fun x ρ1 => ?_
  cases (deref ρ1 x).bind itemsT with
  | none => with_unfolding_all rfl
  | some t => simp only [optTK]; rw [Wp_bind]; with_unfolding_all rfl
theorem derefs_nil : derefs ρ [] = some [] := by with_unfolding_all rfl
def consO (d : Option T) (e : Option (List T)) : Option (List T) := match d, e with | some t, some ts => some (t :: ts) | _, _ => none
theorem consO_some : consO (some t) (some ts) = some (t :: ts) := by with_unfolding_all rfl
theorem derefs_cons {xs : List EV} : derefs ρ (x :: xs) = consO (deref ρ x) (derefs ρ xs) := by
  rw [derefs]; cases deref ρ x with
  | none => with_unfolding_all rfl
  | some t => cases derefs ρ xs <;> with_unfolding_all rfl
theorem deref_val : deref ρ (.val t) = some t := by with_unfolding_all rfl
theorem deref_own : deref ρ (.own ts) = some (.lst ts) := by with_unfolding_all rfl
theorem grounds_nil : grounds [] = some [] := by with_unfolding_all rfl
theorem grounds_val {xs : List EV} : grounds (.val t :: xs) = (grounds xs).map (t :: ·) := by with_unfolding_all rfl
theorem grounds_own {xs : List EV} : grounds (.own ts :: xs) = (grounds xs).map (.lst ts :: ·) := by with_unfolding_all rfl
theorem grounds_vals : ∀ {ts : List T} {xs : List EV}, grounds (ts.map .val ++ xs) = (grounds xs).map (ts ++ ·)
  | [], xs => by simp
  | t :: ts, xs => by rw [List.map_cons, List.cons_append, grounds, grounds_vals]; cases grounds xs <;> with_unfolding_all rfl
theorem ground1_val : ground1 (.val t) = some t := by with_unfolding_all rfl
theorem ground1_own : ground1 (.own ts) = some (.lst ts) := by with_unfolding_all rfl
def tupK (u : Bool) (Q : EV → Ro → Prop) (d : Option (List T)) (ρ : Ro) (_ : Tag Q := ⟨⟩) : Prop := match d with | some ts => ts.length ≤ 100000 ∧ (if u = true then Q (.val (.tup ts)) ρ else Q (.own ts) ρ) | none => False
theorem tupK_t (h : ts.length ≤ 100000) : tupK true Q (some ts) ρ = Q (.val (.tup ts)) ρ := by simp [tupK, h]
theorem tupK_l (h : ts.length ≤ 100000) : tupK false Q (some ts) ρ = Q (.own ts) ρ := by simp [tupK, h]
theorem Wp_eTup : Wp (eTup ga ρ) Q X = Wp (ga ρ) (fun xs ρ1 => tupK true Q (grounds xs) ρ1) X := by
  unfold eTup; rw [Wp_bind]; refine Wp_cong fun x ρ1 => ?_
  cases grounds x with
  | none => with_unfolding_all rfl
  | some t => by_cases h : t.length ≤ 100000 <;> simp [tupK, h, Wp, out]
theorem Wp_eLst : Wp (eLst ga ρ) Q X = Wp (ga ρ) (fun xs ρ1 => tupK false Q (grounds xs) ρ1) X := by
  unfold eLst; rw [Wp_bind]; refine Wp_cong fun x ρ1 => ?_
  cases grounds x with
  | none => with_unfolding_all rfl
  | some t => by_cases h : t.length ≤ 100000 <;> simp [tupK, h, Wp, out]
def tK (Q : Bool → Ro → Prop) : EV → Ro → Prop := fun x ρ => match x with | .val (.bl b) => Q b ρ | _ => False
theorem tK_bl {Q : Bool → Ro → Prop} {b : Bool} : tK Q (.val (.bl b)) ρ = Q b ρ := by with_unfolding_all rfl
theorem Wp_tOf {Q : Bool → Ro → Prop} : Wp (tOf fa ρ) Q X = Wp (fa ρ) (tK Q) X := by
  unfold tOf; rw [Wp_bind]; refine Wp_cong fun x ρ1 => ?_; unfold tK
  cases x with
  | val t => cases t <;> with_unfolding_all rfl
  | _ => with_unfolding_all rfl
theorem Wp_tTrue {Q : Bool → Ro → Prop} : Wp (tTrue ρ) Q X = Q true ρ := by with_unfolding_all rfl
theorem Wp_tNot {Q : Bool → Ro → Prop} {f : TF} : Wp (tNot f ρ) Q X = Wp (f ρ) (fun b ρ1 => Q (!b) ρ1) X := by unfold tNot; rw [Wp_bind]; with_unfolding_all rfl
theorem Wp_tAnd {Q : Bool → Ro → Prop} {f k : TF} : Wp (tAnd f k ρ) Q X = Wp (f ρ) (fun b ρ1 => Wp (if b = true then k ρ1 else .ok false ρ1) Q X) X := by unfold tAnd; rw [Wp_bind]
theorem Wp_tOr {Q : Bool → Ro → Prop} {f k : TF} : Wp (tOr f k ρ) Q X = Wp (f ρ) (fun b ρ1 => Wp (if b = true then .ok true ρ1 else k ρ1) Q X) X := by unfold tOr; rw [Wp_bind]
def blK (Q : Bool → Ro → Prop) : EV → Ro → Prop := fun x ρ => match x with | .val (.bl b) => Q b ρ | _ => False
theorem blK_bl {Q : Bool → Ro → Prop} {b : Bool} : blK Q (.val (.bl b)) ρ = Q b ρ := by with_unfolding_all rfl
theorem Wp_eAnd : Wp (eAnd fa fb ρ) Q X = Wp (fa ρ) (blK fun b ρ1 => Wp (if b = true then fb ρ1 else .ok (.val (.bl false)) ρ1) Q X) X := by
  unfold eAnd; rw [Wp_bind]; refine Wp_cong fun x ρ1 => ?_; unfold blK
  cases x with
  | val t => cases t <;> with_unfolding_all rfl
  | _ => with_unfolding_all rfl
theorem Wp_eOr : Wp (eOr fa fb ρ) Q X = Wp (fa ρ) (blK fun b ρ1 => Wp (if b = true then .ok (.val (.bl true)) ρ1 else fb ρ1) Q X) X := by
  unfold eOr; rw [Wp_bind]; refine Wp_cong fun x ρ1 => ?_; unfold blK
  cases x with
  | val t => cases t <;> with_unfolding_all rfl
  | _ => with_unfolding_all rfl
theorem Wp_eNot : Wp (eNot fa ρ) Q X = Wp (fa ρ) (blK fun b ρ1 => Q (.val (.bl (!b))) ρ1) X := by
  unfold eNot; rw [Wp_bind]; refine Wp_cong fun x ρ1 => ?_; unfold blK
  cases x with
  | val t => cases t <;> with_unfolding_all rfl
  | _ => with_unfolding_all rfl
theorem Wp_eIf {f : TF} : Wp (eIf f fa fb ρ) Q X = Wp (f ρ) (fun b ρ1 => Wp (if b = true then fa ρ1 else fb ρ1) Q X) X := by unfold eIf; rw [Wp_bind]
def frzK (Q : EV → Ro → Prop) : EV → Ro → Prop := fun x ρ => match x with | .own xs => Q (.val (.lst xs)) ρ | .val t => Q (.val t) ρ | .pk _ => False
theorem frzK_own : frzK Q (.own ts) ρ = Q (.val (.lst ts)) ρ := by with_unfolding_all rfl
theorem frzK_val : frzK Q (.val t) ρ = Q (.val t) ρ := by with_unfolding_all rfl
theorem Wp_eFrz : Wp (eFrz fa ρ) Q X = Wp (fa ρ) (frzK Q) X := by unfold eFrz; rw [Wp_bind]; refine Wp_cong fun x ρ1 => ?_; cases x <;> with_unfolding_all rfl
def chK (g g' : T → T → Out) (fc : EF) (y : EV) (Q : EV → Ro → Prop) (X : EQ) (d e : Option T) (ρ : Ro) (_ : Tag Q := ⟨⟩) (_ : Tag X := ⟨⟩) : Prop := match d, e with
  | some t, some u => (match blOf (g t u) with
    | some b => Wp (if b = true then e2 g' (fun ρ => .ok y ρ) fc ρ else .ok (.val (.bl false)) ρ) Q X
    | none => False)
  | _, _ => False
def chB (Q : Bool → Prop) (b : Option Bool) (_ : Tag Q := ⟨⟩) : Prop := match b with | some b => Q b | none => False
theorem chB_some {Q : Bool → Prop} {b : Bool} : chB Q (some b) = Q b := by with_unfolding_all rfl
theorem chK_some {g g' : T → T → Out} {fc : EF} : chK g g' fc y Q X (some t) (some u) ρ = chB (fun b => Wp (if b = true then e2 g' (fun ρ => .ok y ρ) fc ρ else .ok (.val (.bl false)) ρ) Q X) (blOf (g t u)) := by with_unfolding_all rfl
theorem Wp_eChain {g g' : T → T → Out} {fc : EF} : Wp (eChain g g' fa fb fc ρ) Q X = Wp (fa ρ) (fun x ρ1 => Wp (fb ρ1) (fun y ρ2 => chK g g' fc y Q X (deref ρ2 x) (deref ρ2 y) ρ2) X) X := by
  unfold eChain; rw [Wp_bind]; refine Wp_cong fun x ρ1 => ?_; rw [Wp_bind]; refine Wp_cong fun y ρ2 => ?_
  cases e1 : deref ρ2 x with
  | none => with_unfolding_all rfl
  | some t =>
    cases e2 : deref ρ2 y with
    | none => with_unfolding_all rfl
    | some u =>
      simp only [chK]
      cases e3 : blOf (g t u) with
      | none => with_unfolding_all rfl
      | some b =>
        cases b with
        | false => with_unfolding_all rfl
        | true => with_unfolding_all rfl
theorem blOf_v {b : Bool} : blOf (.v (.bl b)) = some b := by with_unfolding_all rfl
end
/-! ### statements -/
section
variable {Q : Fl → Ro → Prop} {X : EQ} {ρ ρ1 : Ro} {fa fb : EF} {f k : SF} {x : EV} {t : T} {ts : List T}
def sqK (g : SF) (Q : Fl → Ro → Prop) (X : EQ) : Fl → Ro → Prop := fun fl ρ => match fl with | .nx => Wp (g ρ) Q X | fl => Q fl ρ
theorem sqK_nx : sqK k Q X .nx ρ = Wp (k ρ) Q X := by with_unfolding_all rfl
theorem sqK_rt : sqK k Q X (.rt x) ρ = Q (.rt x) ρ := by with_unfolding_all rfl
theorem sqK_bk : sqK k Q X .bk ρ = Q .bk ρ := by with_unfolding_all rfl
theorem sqK_ct : sqK k Q X .ct ρ = Q .ct ρ := by with_unfolding_all rfl
theorem Wp_sSeq : Wp (sSeq f k ρ) Q X = Wp (f ρ) (sqK k Q X) X := by
  unfold sSeq
  cases f ρ with
  | ok fl ρ1 => cases fl <;> with_unfolding_all rfl
  | ex c ks ts ρ1 => with_unfolding_all rfl
  | bad => with_unfolding_all rfl
theorem Wp_sNx : Wp (sNx ρ) Q X = Q .nx ρ := by with_unfolding_all rfl
theorem Wp_sBk : Wp ((fun ρ => R.ok Fl.bk ρ) ρ) Q X = Q .bk ρ := by with_unfolding_all rfl
theorem Wp_sExpr : Wp (sExpr fa ρ) Q X = Wp (fa ρ) (fun _ ρ1 => Q .nx ρ1) X := by unfold sExpr; rw [Wp_bind]; with_unfolding_all rfl
theorem Wp_sIf {g : TF} : Wp (sIf g f k ρ) Q X = Wp (g ρ) (fun b ρ1 => Wp (if b = true then f ρ1 else k ρ1) Q X) X := by unfold sIf; rw [Wp_bind]
def retK (Q : Fl → Ro → Prop) : EV → Ro → Prop := fun x ρ => match x with
  | .val t => Q (.rt (.val t)) ρ
  | .own xs => Q (.rt (.own xs)) ρ
  | .pk i => (match ρ[i]? with | some (.own xs) => Q (.rt (.own xs)) ρ | _ => False)
theorem retK_val : retK Q (.val t) ρ = Q (.rt (.val t)) ρ := by with_unfolding_all rfl
theorem retK_own : retK Q (.own ts) ρ = Q (.rt (.own ts)) ρ := by with_unfolding_all rfl
theorem Wp_sRet : Wp (sRet fa ρ) Q X = Wp (fa ρ) (retK Q) X := by
  unfold sRet; rw [Wp_bind]; refine Wp_cong fun x ρ1 => ?_
  cases x with
  | val t => with_unfolding_all rfl
  | own xs => with_unfolding_all rfl
  | pk i =>
    simp only [retK]
    cases ρ1[i]? with
    | none => with_unfolding_all rfl
    | some s => cases s <;> with_unfolding_all rfl
def setK (i : Nat) (Q : Fl → Ro → Prop) : EV → Ro → Prop := fun x ρ => match x with
  | .val t => Q .nx (ρ.set i (.val t))
  | .own xs => Q .nx (ρ.set i (.own xs))
  | .pk _ => False
theorem Wp_sSet {i : Nat} : Wp (sSet i fa ρ) Q X = Wp (fa ρ) (setK i Q) X := by unfold sSet; rw [Wp_bind]; refine Wp_cong fun x ρ1 => ?_; cases x <;> with_unfolding_all rfl
def asgK (Q : Fl → Ro → Prop) (o : Option Ro) (_ : Tag Q := ⟨⟩) : Prop := match o with | some ρ => Q .nx ρ | none => False
theorem asgK_some : asgK Q (some ρ) = Q .nx ρ := by with_unfolding_all rfl
def asgG (g : T → Ro → Option Ro) (Q : Fl → Ro → Prop) (d : Option T) (ρ : Ro) (_ : Tag Q := ⟨⟩) : Prop := match d with | some t => asgK Q (g t ρ) | none => False
theorem asgG_some {g : T → Ro → Option Ro} : asgG g Q (some t) ρ = asgK Q (g t ρ) := by with_unfolding_all rfl
theorem Wp_sAsg {g : T → Ro → Option Ro} : Wp (sAsg g fa ρ) Q X = Wp (fa ρ) (fun x ρ1 => asgG g Q (ground1 x) ρ1) X := by
  unfold sAsg; rw [Wp_bind]; refine Wp_cong fun x ρ1 => ?_
  cases ground1 x with
  | none => with_unfolding_all rfl
  | some t => simp only [asgG]; cases g t ρ1 <;> with_unfolding_all rfl
theorem Wp_sFor {fi : Ro → R (List T)} {g : T → Ro → Option Ro} : Wp (sFor fi g f ρ) Q X = Wp (fi ρ) (fun ts ρ1 => Wp (loopS g f ts ρ1) Q X) X := by unfold sFor; rw [Wp_bind]
theorem Wp_sRaise {c : Nat} : Wp (sRaise c ρ) Q X = X c [] [] ρ := by with_unfolding_all rfl
def rsK (c : Nat) (ks : List Nat) (X : EQ) (d : Option (List T)) (ρ : Ro) (_ : Tag X := ⟨⟩) : Prop := match d with | some ts => X c ks ts.reverse ρ | none => False
theorem rsK_some {c : Nat} {ks : List Nat} : rsK c ks X (some ts) ρ = X c ks ts.reverse ρ := by with_unfolding_all rfl
theorem Wp_sRaiseN {c : Nat} {ks : List Nat} {ga : AF} : Wp (sRaiseN c ks ga ρ) Q X = Wp (ga ρ) (fun xs ρ1 => rsK c ks X (grounds xs) ρ1) X := by
  unfold sRaiseN; rw [Wp_bind]; refine Wp_cong fun x ρ1 => ?_; cases grounds x <;> with_unfolding_all rfl
def rtK (c k : Nat) (X : EQ) : EV → Ro → Prop := fun x ρ => match x with | .val (.tup ts) => X c [k] [.tup ts] ρ | _ => False
theorem rtK_tup {c k : Nat} : rtK c k X (.val (.tup ts)) ρ = X c [k] [.tup ts] ρ := by with_unfolding_all rfl
theorem Wp_sRaiseT {c k : Nat} : Wp (sRaiseT c k fa ρ) Q X = Wp (fa ρ) (rtK c k X) X := by
  unfold sRaiseT; rw [Wp_bind]; refine Wp_cong fun x ρ1 => ?_
  cases x with
  | val t => cases t <;> with_unfolding_all rfl
  | _ => with_unfolding_all rfl
def subK (i : Nat) (d : Option T) (e : Option T) (l : Option (List T)) (Q : Fl → Ro → Prop) (ρ : Ro) (_ : Tag Q := ⟨⟩) : Prop := match d, e, l with
  | some t, some (.int k), some xs => (match atIx xs.length k with | some n => Q .nx (putAt ρ i (xs.set n t)) | none => False)
  | _, _, _ => False
def ltK (P : Prop) (l : Option (List T)) (_ : Tag P := ⟨⟩) : Prop := match l with | some _ => P | none => False
theorem ltK_some {P : Prop} : ltK P (some ts) = P := by with_unfolding_all rfl
theorem subK_some {i : Nat} {j : Int} (h0 : 0 ≤ j) (h1 : j < ts.length) : subK i (some t) (some (.int j)) (some ts) Q ρ = Q .nx (putAt ρ i (ts.set j.toNat t)) := by
  have : atIx ts.length j = some j.toNat := by simp [atIx, h0, h1]
  simp only [subK, this]
theorem Wp_sSub {i : Nat} : Wp (sSub i fa fb ρ) Q X = Wp (fa ρ) (fun x ρ1 => ltK (Wp (fb ρ1) (fun y ρ2 => subK i (ground1 x) (deref ρ2 y) (listAt ρ2 i) Q ρ2) X) (listAt ρ1 i)) X := by
  unfold sSub; rw [Wp_bind]; refine Wp_cong fun x ρ1 => ?_
  cases listAt ρ1 i with
  | none => with_unfolding_all rfl
  | some l0 =>
    simp only [ltK]
    rw [Wp_bind]; refine Wp_cong fun y ρ2 => ?_
    cases ground1 x with
    | none => with_unfolding_all rfl
    | some t =>
      cases deref ρ2 y with
      | none => with_unfolding_all rfl
      | some u =>
        cases u with
        | int k =>
          cases listAt ρ2 i with
          | none => with_unfolding_all rfl
          | some xs => simp only [subK]; cases atIx xs.length k <;> with_unfolding_all rfl
        | _ => with_unfolding_all rfl
def augK (i : Nat) (g : Int → Int → Int) (a : Int) (d : Option T) (Q : Fl → Ro → Prop) (ρ : Ro) (_ : Tag Q := ⟨⟩) : Prop := match d with | some (.int b) => Q .nx (ρ.set i (.val (.int (g a b)))) | _ => False
theorem augK_some {i : Nat} {g : Int → Int → Int} {a b : Int} : augK i g a (some (.int b)) Q ρ = Q .nx (ρ.set i (.val (.int (g a b)))) := by with_unfolding_all rfl
def augS (i : Nat) (g : Int → Int → Int) (fa : EF) (s : Option Sl) (ρ : Ro) (Q : Fl → Ro → Prop) (X : EQ) (_ : Tag Q := ⟨⟩) (_ : Tag X := ⟨⟩) : Prop := match s with | some (.val (.int a)) => Wp (fa ρ) (fun y ρ1 => augK i g a (deref ρ1 y) Q ρ1) X | _ => False
theorem augS_some {i : Nat} {g : Int → Int → Int} {a : Int} : augS i g fa (some (.val (.int a))) ρ Q X = Wp (fa ρ) (fun y ρ1 => augK i g a (deref ρ1 y) Q ρ1) X := by with_unfolding_all rfl
theorem Wp_sAug {i : Nat} {g : Int → Int → Int} : Wp (sAug i g fa ρ) Q X = augS i g fa ρ[i]? ρ Q X := by
  unfold sAug
  cases ρ[i]? with
  | none => with_unfolding_all rfl
  | some s =>
    cases s with
    | val t =>
      cases t with
      | int a =>
        simp only [augS]; rw [Wp_bind]; refine Wp_cong fun y ρ1 => ?_
        cases deref ρ1 y with
        | none => with_unfolding_all rfl
        | some u => cases u <;> with_unfolding_all rfl
      | _ => with_unfolding_all rfl
    | _ => with_unfolding_all rfl
def runK (Q : EV → Ro → Prop) : Fl → Ro → Prop := fun fl ρ => match fl with | .rt x => Q x ρ | .nx => Q (.val .non) ρ | _ => False
theorem runK_rt {Q : EV → Ro → Prop} : runK Q (.rt x) ρ = Q x ρ := by with_unfolding_all rfl
theorem runK_nx {Q : EV → Ro → Prop} : runK Q .nx ρ = Q (.val .non) ρ := by with_unfolding_all rfl
theorem Wp_runF {n : Nat} {Q : EV → Ro → Prop} : Wp (runF n f ρ) Q X = Wp (f (ρ ++ List.replicate n .no)) (runK Q) X := by
  unfold runF
  cases f (ρ ++ List.replicate n .no) with
  | ok fl ρ1 => cases fl <;> with_unfolding_all rfl
  | ex c ks ts ρ1 => with_unfolding_all rfl
  | bad => with_unfolding_all rfl
end
/-! ### methods of lists -/
section
variable {Q : EV → Ro → Prop} {X : EQ} {ρ ρ1 : Ro} {ga : AF} {t : T} {ts xs : List T} {g : List T → List T → Option (List T × T)}
def bmK (i : Nat) (g : List T → List T → Option (List T × T)) (d l : Option (List T)) (Q : EV → Ro → Prop) (ρ : Ro) (_ : Tag Q := ⟨⟩) : Prop := match d, l with
  | some ts, some xs => (match g xs ts with | some p => Q (.val p.2) (putAt ρ i p.1) | none => False)
  | _, _ => False
theorem bmK_append {i : Nat} (h : xs.length ≤ 100000) : bmK i mAppend (some [t]) (some xs) Q ρ = Q (.val .non) (putAt ρ i (xs ++ [t])) := by simp [bmK, mAppend, h]
theorem bmK_clear {i : Nat} : bmK i mClear (some []) (some xs) Q ρ = Q (.val .non) (putAt ρ i []) := by with_unfolding_all rfl
theorem bmK_reverse {i : Nat} : bmK i mReverse (some []) (some xs) Q ρ = Q (.val .non) (putAt ρ i xs.reverse) := by with_unfolding_all rfl
theorem er_map {f : Int → T} : ∀ {xs : List Int} {i : Nat}, (xs.map f).eraseIdx i = (xs.eraseIdx i).map f
  | [], _ => rfl
  | _ :: _, 0 => rfl
  | x :: xs, i + 1 => by rw [List.map_cons, List.eraseIdx_cons_succ, List.eraseIdx_cons_succ, List.map_cons, er_map]
theorem bmK_index {i : Nat} {ns : List Int} {j : Int} (h : j ∈ ns) : bmK i mIndex (some [.int j]) (some (ns.map T.int)) Q ρ = Q (.val (.int (ns.findIdx (· == j) : Nat))) (putAt ρ i (ns.map T.int)) := by
  unfold bmK mIndex; simp only [intsT_map, h, if_true]
theorem bmK_popAt {i : Nat} {ns : List Int} {j : Int} (h0 : 0 ≤ j) (h1 : j < 1000000) (h2 : j < ns.length) : bmK i mPopAt (some [.int j]) (some (ns.map T.int)) Q ρ = Q (.val (.int ((ns[j.toNat]?).getD 0))) (putAt ρ i ((ns.eraseIdx j.toNat).map T.int)) := by
  have hj : j.toNat < ns.length := by omega
  unfold bmK mPopAt
  simp only [h0, h1, and_self, if_true, List.getElem?_map, List.getElem?_eq_getElem hj, Option.map_some, Option.getD_some, er_map]
theorem bmK_insert {i : Nat} {j : Int} (h : xs.length ≤ 100000) (h0 : 0 ≤ j) (h1 : j < 4611686018427387904) : bmK i mInsert (some [.int j, t]) (some xs) Q ρ = Q (.val .non) (putAt ρ i (xs.take j.toNat ++ [t] ++ xs.drop j.toNat)) := by
  have h2 : j < 2 ^ 62 := by omega
  unfold bmK mInsert; simp only [h, h0, h2, and_self, if_true]
theorem Wp_eBmM {i : Nat} : Wp (eBmM i g ga ρ) Q X = ltK (Wp (ga ρ) (fun ys ρ1 => bmK i g (grounds ys) (listAt ρ1 i) Q ρ1) X) (listAt ρ i) := by
  unfold eBmM
  cases listAt ρ i with
  | none => with_unfolding_all rfl
  | some l0 =>
    simp only [ltK]; rw [Wp_bind]; refine Wp_cong fun y ρ2 => ?_
    cases grounds y with
    | none => with_unfolding_all rfl
    | some us =>
      cases listAt ρ2 i with
      | none => with_unfolding_all rfl
      | some zs => simp only [bmK]; cases g zs us <;> with_unfolding_all rfl
end
/-! ### calls -/
def kE (Q : EV → Ro → Prop) (x : EV) (o : Option Ro) (_ : Tag Q := ⟨⟩) : Prop := match o, x with
  | some ρ, .val t => Q (.val t) ρ
  | some ρ, .own xs => Q (.own xs) ρ
  | _, _ => False
def kF (X : Ro → Prop) (o : Option Ro) (_ : Tag X := ⟨⟩) : Prop := match o with | some ρ => X ρ | none => False
def kR (ρ : Ro) (ms : List Md) (xs : List EV) (Q : EV → Ro → Prop) : EV → Ro → Prop := fun x ρ' => kE Q x (backs ρ ms xs ρ')
def kX (ρ : Ro) (ms : List Md) (xs : List EV) (X : EQ) : EQ := fun c ks ts ρ' => kF (X c ks ts) (backs ρ ms xs ρ')
def callA (a : Option (List Sl)) (o : Bool) (ms : List Md) (m : Ro → R EV) (xs : List EV) (ρ : Ro) (Q : EV → Ro → Prop) (X : EQ) (_ : Tag Q := ⟨⟩) (_ : Tag X := ⟨⟩) : Prop := match a with
  | some ss => o = true ∧ Wp (m ss) (kR ρ ms xs Q) (kX ρ ms xs X)
  | none => False
section
variable {Q : EV → Ro → Prop} {X : EQ} {ρ ρ1 : Ro} {ms : List Md} {m : Ro → R EV} {xs : List EV} {ss : List Sl} {ga : AF} {fa fb : EF} {t : T} {ts : List T}
theorem kE_val : kE Q (.val t) (some ρ) = Q (.val t) ρ := by with_unfolding_all rfl
theorem kE_own : kE Q (.own ts) (some ρ) = Q (.own ts) ρ := by with_unfolding_all rfl
theorem kF_some {X : Ro → Prop} : kF X (some ρ) = X ρ := by with_unfolding_all rfl
theorem kR_ev {x : EV} : kR ρ ms xs Q x ρ1 = kE Q x (backs ρ ms xs ρ1) := by with_unfolding_all rfl
theorem kX_ev {c : Nat} {ks : List Nat} : kX ρ ms xs X c ks ts ρ1 = kF (X c ks ts) (backs ρ ms xs ρ1) := by with_unfolding_all rfl
theorem callA_some : callA (some ss) true ms m xs ρ Q X = Wp (m ss) (kR ρ ms xs Q) (kX ρ ms xs X) := by simp [callA]
theorem Wp_callM : Wp (callM ms m xs ρ) Q X = callA (argSl ρ ms xs) (okIx ms xs) ms m xs ρ Q X := by
  unfold callA callM
  cases e1 : argSl ρ ms xs with
  | none => with_unfolding_all rfl
  | some ss =>
    simp only
    cases okIx ms xs with
    | false => simp [Wp]
    | true =>
      simp only [if_true, true_and]
      cases e2 : m ss with
      | bad => with_unfolding_all rfl
      | ok x ρ' =>
        simp only [Wp_ok, kR]
        cases backs ρ ms xs ρ' with
        | none => cases x <;> with_unfolding_all rfl
        | some ρ2 => cases x <;> with_unfolding_all rfl
      | ex c ks ts ρ' =>
        simp only [Wp_ex, kX]
        cases backs ρ ms xs ρ' with
        | none => with_unfolding_all rfl
        | some ρ2 => with_unfolding_all rfl
theorem Wp_eCall : Wp (eCall ms m ga ρ) Q X = Wp (ga ρ) (fun xs ρ1 => callA (argSl ρ1 ms xs) (okIx ms xs) ms m xs ρ1 Q X) X := by
  unfold eCall; rw [Wp_bind]; refine Wp_cong fun xs ρ1 => ?_; exact Wp_callM
theorem argSl_nil : argSl ρ [] [] = some [] := by with_unfolding_all rfl
def consS (d : Option Sl) (e : Option (List Sl)) : Option (List Sl) := match d, e with | some t, some ts => some (t :: ts) | _, _ => none
theorem consS_some {s : Sl} : consS (some s) (some ss) = some (s :: ss) := by with_unfolding_all rfl
theorem argSl_cons {md : Md} {x : EV} : argSl ρ (md :: ms) (x :: xs) = consS (argS ρ md x) (argSl ρ ms xs) := by
  rw [argSl]; cases argS ρ md x with
  | none => with_unfolding_all rfl
  | some t => cases argSl ρ ms xs <;> with_unfolding_all rfl
theorem argS_val {md : Md} : argS ρ md (.val t) = some (.val t) := by with_unfolding_all rfl
theorem argS_own {md : Md} : argS ρ md (.own ts) = some (.val (.lst ts)) := by with_unfolding_all rfl
theorem backs_nil : backs ρ [] [] ρ1 = some ρ := by simp [backs]
theorem backs_v {x : EV} {s : Sl} : backs ρ (.v :: ms) (x :: xs) (s :: ρ1) = backs ρ ms xs ρ1 := by cases x <;> simp [backs]
theorem backs_ioV {s : Sl} : backs ρ (.io :: ms) (.val t :: xs) (s :: ρ1) = backs ρ ms xs ρ1 := by simp [backs]
theorem backs_ioO {s : Sl} : backs ρ (.io :: ms) (.own ts :: xs) (s :: ρ1) = backs ρ ms xs ρ1 := by simp [backs]
/-! own operators -/
def clsO : T → Option Nat
  | .ins c _ _ => some c
  | _ => none
def isIntT : T → Bool
  | .int _ => true
  | _ => false
def ownK (c : Nat) (ok : Bool) (ms : List Md) (m : Ro → R EV) (xs : List EV) (d : Option T) (ρ : Ro) (Q : EV → Ro → Prop) (X : EQ) (_ : Tag Q := ⟨⟩) (_ : Tag X := ⟨⟩) : Prop := match d with
  | some t => clsO t = some c ∧ ok = true ∧ callA (argSl ρ ms xs) (okIx ms xs) ms m xs ρ Q X
  | none => False
theorem ownK_some {c : Nat} {ks : List Nat} : ownK c true ms m xs (some (.ins c ks ts)) ρ Q X = callA (argSl ρ ms xs) (okIx ms xs) ms m xs ρ Q X := by simp [ownK, clsO]
def own2K (c : Nat) (m : Ro → R EV) (x y : EV) (d e : Option T) (ρ : Ro) (Q : EV → Ro → Prop) (X : EQ) (_ : Tag Q := ⟨⟩) (_ : Tag X := ⟨⟩) : Prop := match d, e with
  | some t, some u => (clsO t = some c ∧ clsO u = some c) ∧ callA (argSl ρ [.v, .v] [x, y]) (okIx [.v, .v] [x, y]) [.v, .v] m [x, y] ρ Q X
  | _, _ => False
theorem own2K_some {c : Nat} {x y : EV} {ks ks' : List Nat} {us : List T} : own2K c m x y (some (.ins c ks ts)) (some (.ins c ks' us)) ρ Q X = callA (argSl ρ [.v, .v] [x, y]) (okIx [.v, .v] [x, y]) [.v, .v] m [x, y] ρ Q X := by simp [own2K, clsO]
theorem Wp_eOwn2 {c : Nat} : Wp (eOwn2 c m fa fb ρ) Q X = Wp (fa ρ) (fun x ρ1 => Wp (fb ρ1) (fun y ρ2 => own2K c m x y (deref ρ2 x) (deref ρ2 y) ρ2 Q X) X) X := by
  unfold eOwn2; rw [Wp_bind]; refine Wp_cong fun x ρ1 => ?_; rw [Wp_bind]; refine Wp_cong fun y ρ2 => ?_
  cases deref ρ2 x with
  | none => with_unfolding_all rfl
  | some t =>
    cases deref ρ2 y with
    | none => cases t <;> with_unfolding_all rfl
    | some u =>
      cases t <;> cases u <;> simp only [own2K, clsO] <;> first | (simp [Wp]; done) | skip
      rename_i c1 k1 t1 c2 k2 t2
      by_cases h : c1 = c ∧ c2 = c
      · rw [if_pos h, Wp_callM]; simp [h.1, h.2]
      · rw [if_neg h]; simp only [Wp, Option.some.injEq]; simp [h]
def ownIK (c : Nat) (m : Ro → R EV) (x y : EV) (d e : Option T) (ρ : Ro) (Q : EV → Ro → Prop) (X : EQ) (_ : Tag Q := ⟨⟩) (_ : Tag X := ⟨⟩) : Prop := match d, e with
  | some t, some u => (clsO t = some c ∧ isIntT u = true) ∧ callA (argSl ρ [.v, .v] [x, y]) (okIx [.v, .v] [x, y]) [.v, .v] m [x, y] ρ Q X
  | _, _ => False
theorem ownIK_some {c : Nat} {x y : EV} {i : Int} {ks : List Nat} : ownIK c m x y (some (.ins c ks ts)) (some (.int i)) ρ Q X = callA (argSl ρ [.v, .v] [x, y]) (okIx [.v, .v] [x, y]) [.v, .v] m [x, y] ρ Q X := by simp [ownIK, isIntT, clsO]
theorem Wp_eOwnI {c : Nat} : Wp (eOwnI c m fa fb ρ) Q X = Wp (fa ρ) (fun x ρ1 => Wp (fb ρ1) (fun y ρ2 => ownIK c m x y (deref ρ2 x) (deref ρ2 y) ρ2 Q X) X) X := by
  unfold eOwnI; rw [Wp_bind]; refine Wp_cong fun x ρ1 => ?_; rw [Wp_bind]; refine Wp_cong fun y ρ2 => ?_
  cases deref ρ2 x with
  | none => with_unfolding_all rfl
  | some t =>
    cases deref ρ2 y with
    | none => cases t <;> with_unfolding_all rfl
    | some u =>
      cases t <;> cases u <;> simp only [ownIK, clsO, isIntT] <;> first | (simp [Wp]; done) | skip
      rename_i c1 k1 t1 i
      by_cases h : c1 = c
      · rw [if_pos h, Wp_callM]; simp [h]
      · rw [if_neg h]; simp only [Wp, Option.some.injEq]; simp [h]
theorem Wp_eOwn1 {c : Nat} : Wp (eOwn1 c m fa ρ) Q X = Wp (fa ρ) (fun x ρ1 => ownK c true [.v] m [x] (deref ρ1 x) ρ1 Q X) X := by
  unfold eOwn1; rw [Wp_bind]; refine Wp_cong fun x ρ1 => ?_
  cases deref ρ1 x with
  | none => with_unfolding_all rfl
  | some t =>
    cases t <;> simp only [ownK, clsO] <;> first | (simp [Wp]; done) | skip
    rename_i c1 k1 t1
    by_cases h : c1 = c
    · rw [if_pos h, Wp_callM]; simp [h]
    · rw [if_neg h]; simp only [Wp, Option.some.injEq]; simp [h]
def inK (neg : Bool) (Q : EV → Ro → Prop) : EV → Ro → Prop := fun z ρ => match z with | .val (.bl b) => Q (.val (.bl (if neg then !b else b))) ρ | _ => False
theorem inK_bl {b : Bool} : inK false Q (.val (.bl b)) ρ = Q (.val (.bl b)) ρ := by with_unfolding_all rfl
theorem inK_nb {b : Bool} : inK true Q (.val (.bl b)) ρ = Q (.val (.bl (!b))) ρ := by with_unfolding_all rfl
theorem Wp_eOwnIn {neg : Bool} {c : Nat} : Wp (eOwnIn neg c m fa fb ρ) Q X = Wp (fa ρ) (fun x ρ1 => Wp (fb ρ1) (fun y ρ2 => ownK c true [.v, .v] m [y, x] (deref ρ2 y) ρ2 (inK neg Q) X) X) X := by
  unfold eOwnIn; rw [Wp_bind]; refine Wp_cong fun x ρ1 => ?_; rw [Wp_bind]; refine Wp_cong fun y ρ2 => ?_
  cases deref ρ2 y with
  | none => with_unfolding_all rfl
  | some t =>
    cases t <;> simp only [ownK, clsO] <;> first | (simp [Wp]; done) | skip
    rename_i c1 k1 t1
    by_cases h : c1 = c
    · rw [if_pos h, Wp_bind]
      simp only [h, true_and]
      rw [← Wp_callM]; refine Wp_cong fun z ρ3 => ?_
      unfold inK
      cases z with
      | val t => cases t <;> with_unfolding_all rfl
      | _ => with_unfolding_all rfl
    · rw [if_neg h]; simp only [Wp, Option.some.injEq]; simp [h]
def methK (c mid : Nat) (t : Option T) (P : Prop) (_ : Tag P := ⟨⟩) : Prop := match t with | some (.ins c' ks ts) => (c' = c ∧ ks.contains mid = false) ∧ P | _ => False
theorem methK_ins {c mid : Nat} {ks : List Nat} {P : Prop} (h : ks.contains mid = false) : methK c mid (some (.ins c ks ts)) P = P := by simp only [methK, h]; simp
theorem methK_01 {c mid : Nat} {P : Prop} (h : [0, 1].contains (mid + 2) = false) : methK c (mid + 2) (some (.ins c [0, 1] ts)) P = P := methK_ins h
theorem Wp_eMeth {c mid : Nat} : Wp (eMeth c mid ms m fa ga ρ) Q X = Wp (fa ρ) (fun x ρ1 => methK c mid (deref ρ1 x) (Wp (ga ρ1) (fun xs ρ2 => callA (argSl ρ2 ms (x :: xs)) (okIx ms (x :: xs)) ms m (x :: xs) ρ2 Q X) X)) X := by
  unfold eMeth; rw [Wp_bind]; refine Wp_cong fun x ρ1 => ?_
  cases deref ρ1 x with
  | none => with_unfolding_all rfl
  | some t =>
    cases t <;> simp only [methK] <;> first | (simp [Wp]; done) | skip
    rename_i c1 k1 t1
    by_cases h : c1 = c ∧ k1.contains mid = false
    · rw [if_pos h, Wp_bind]
      simp only [h, true_and]
      refine Wp_cong fun xs ρ2 => ?_; simp [Wp_callM]
    · rw [if_neg h, Wp_bad]; exact propext ⟨fun z => z.elim, fun z => (h z.1).elim⟩
def lenK (Q : EV → Ro → Prop) : EV → Ro → Prop := fun z ρ => match z with | .val (.int n) => (0 ≤ n ∧ n < 2 ^ 63) ∧ Q (.val (.int n)) ρ | _ => False
theorem lenK_int {n : Int} (h0 : 0 ≤ n) (h1 : n < 9223372036854775808) : lenK Q (.val (.int n)) ρ = Q (.val (.int n)) ρ := by
  have : n < 2 ^ 63 := by omega
  simp only [lenK, h0, this]; simp
theorem Wp_eLenI : Wp (eLenI fa ρ) Q X = Wp (fa ρ) (lenK Q) X := by
  unfold eLenI; rw [Wp_bind]; refine Wp_cong fun z ρ1 => ?_; unfold lenK
  cases z with
  | val t =>
    cases t with
    | int n =>
      by_cases h : 0 ≤ n ∧ n < 2 ^ 63
      · simp only [h, and_self, if_true, Wp_ok, true_and]
      · simp only [h, if_false, Wp_bad, false_and]
    | _ => with_unfolding_all rfl
  | _ => with_unfolding_all rfl
def bliK (Q : EV → Ro → Prop) : EV → Ro → Prop := fun z ρ => match z with | .val (.bl b) => Q (.val (.bl b)) ρ | _ => False
theorem bliK_bl {b : Bool} : bliK Q (.val (.bl b)) ρ = Q (.val (.bl b)) ρ := by with_unfolding_all rfl
theorem Wp_eBlI : Wp (eBlI fa ρ) Q X = Wp (fa ρ) (bliK Q) X := by
  unfold eBlI; rw [Wp_bind]; refine Wp_cong fun z ρ1 => ?_; unfold bliK
  cases z with
  | val t => cases t <;> with_unfolding_all rfl
  | _ => with_unfolding_all rfl
/-! making -/
def mkK (c n : Nat) (Q : EV → Ro → Prop) : EV → Ro → Prop := fun x ρ => match x, ρ[n]? with
  | .val .non, some (.raw c' ks ts) => c' = c ∧ Q (.val (.ins c ks ts)) (ρ.take n)
  | _, _ => False
def rawK (c n : Nat) (Q : EV → Ro → Prop) (ρ : Ro) (s : Option Sl) (_ : Tag Q := ⟨⟩) : Prop := match s with | some (.raw c' ks ts) => c' = c ∧ Q (.val (.ins c ks ts)) (ρ.take n) | _ => False
theorem rawK_some {c n : Nat} {ks : List Nat} : rawK c n Q ρ (some (.raw c ks ts)) = Q (.val (.ins c ks ts)) (ρ.take n) := by simp [rawK]
theorem mkK_non {c n : Nat} : mkK c n Q (.val .non) ρ = rawK c n Q ρ ρ[n]? := by
  unfold mkK rawK
  cases ρ[n]? with
  | none => with_unfolding_all rfl
  | some s => cases s <;> with_unfolding_all rfl
def mkX (n : Nat) (X : EQ) : EQ := fun c ks ts ρ => X c ks ts (ρ.take n)
theorem mkX_ev {n c : Nat} {ks : List Nat} : mkX n X c ks ts ρ = X c ks ts (ρ.take n) := by with_unfolding_all rfl
theorem Wp_eMake {c : Nat} : Wp (eMake c ms m ga ρ) Q X = Wp (ga ρ) (fun xs ρ1 => callA (argSl (ρ1 ++ [.raw c [] []]) (.io :: ms) (.pk ρ1.length :: xs)) (okIx (.io :: ms) (.pk ρ1.length :: xs)) (.io :: ms) m (.pk ρ1.length :: xs) (ρ1 ++ [.raw c [] []]) (mkK c ρ1.length Q) (mkX ρ1.length X)) X := by
  unfold eMake; rw [Wp_bind]; refine Wp_cong fun xs ρ1 => ?_
  rw [← Wp_callM]
  cases callM (.io :: ms) m (.pk ρ1.length :: xs) (ρ1 ++ [.raw c [] []]) with
  | bad => with_unfolding_all rfl
  | ex c ks ts ρ2 => with_unfolding_all rfl
  | ok x ρ2 =>
    simp only [Wp_ok]
    cases x with
    | val t =>
      cases t with
      | non =>
        simp only [mkK]
        cases ρ2[ρ1.length]? with
        | none => with_unfolding_all rfl
        | some s =>
          cases s with
          | raw c' ks ts => by_cases h : c' = c <;> simp [h, Wp]
          | _ => with_unfolding_all rfl
      | _ => with_unfolding_all rfl
    | _ => with_unfolding_all rfl
def tkK (n : Nat) (Q : EV → Ro → Prop) : EV → Ro → Prop := fun x ρ => match x with | .val t => Q (.val t) (ρ.take n) | .own xs => Q (.own xs) (ρ.take n) | .pk _ => False
theorem tkK_val {n : Nat} : tkK n Q (.val t) ρ = Q (.val t) (ρ.take n) := by with_unfolding_all rfl
theorem tkK_own {n : Nat} : tkK n Q (.own ts) ρ = Q (.own ts) (ρ.take n) := by with_unfolding_all rfl
def coK (ms : List Md) (m : Ro → R EV) (ga : AF) (Q : EV → Ro → Prop) (X : EQ) : EV → Ro → Prop := fun x ρ1 => match x with
  | .own xs => Wp (ga ρ1) (fun ys ρ2 => callA (argSl (ρ2 ++ [.own xs]) (.io :: ms) (.pk ρ2.length :: ys)) (okIx (.io :: ms) (.pk ρ2.length :: ys)) (.io :: ms) m (.pk ρ2.length :: ys) (ρ2 ++ [.own xs]) (tkK ρ2.length Q) (mkX ρ2.length X)) X
  | _ => False
theorem coK_own : coK ms m ga Q X (.own ts) ρ1 = Wp (ga ρ1) (fun ys ρ2 => callA (argSl (ρ2 ++ [.own ts]) (.io :: ms) (.pk ρ2.length :: ys)) (okIx (.io :: ms) (.pk ρ2.length :: ys)) (.io :: ms) m (.pk ρ2.length :: ys) (ρ2 ++ [.own ts]) (tkK ρ2.length Q) (mkX ρ2.length X)) X := by with_unfolding_all rfl
theorem Wp_eCallO : Wp (eCallO ms m fa ga ρ) Q X = Wp (fa ρ) (coK ms m ga Q X) X := by
  unfold eCallO; rw [Wp_bind]; refine Wp_cong fun x ρ1 => ?_
  cases x with
  | val t => with_unfolding_all rfl
  | pk i => with_unfolding_all rfl
  | own xs =>
    simp only [coK]; rw [Wp_bind]; refine Wp_cong fun ys ρ2 => ?_
    rw [← Wp_callM]
    cases callM (.io :: ms) m (.pk ρ2.length :: ys) (ρ2 ++ [.own xs]) with
    | bad => with_unfolding_all rfl
    | ex c ks ts ρ3 => with_unfolding_all rfl
    | ok z ρ3 => cases z <;> with_unfolding_all rfl
def co1K (ms : List Md) (m : Ro → R EV) (ga : AF) (t0 : T) (Q : EV → Ro → Prop) (X : EQ) : EV → Ro → Prop := fun x ρ1 => match x with
  | .own xs => Wp (ga ρ1) (fun ys ρ2 => callA (argSl (ρ2 ++ [.own xs]) (.v :: .io :: ms) (.val t0 :: .pk ρ2.length :: ys)) (okIx (.v :: .io :: ms) (.val t0 :: .pk ρ2.length :: ys)) (.v :: .io :: ms) m (.val t0 :: .pk ρ2.length :: ys) (ρ2 ++ [.own xs]) (tkK ρ2.length Q) (mkX ρ2.length X)) X
  | _ => False
theorem co1K_own {t0 : T} : co1K ms m ga t0 Q X (.own ts) ρ1 = Wp (ga ρ1) (fun ys ρ2 => callA (argSl (ρ2 ++ [.own ts]) (.v :: .io :: ms) (.val t0 :: .pk ρ2.length :: ys)) (okIx (.v :: .io :: ms) (.val t0 :: .pk ρ2.length :: ys)) (.v :: .io :: ms) m (.val t0 :: .pk ρ2.length :: ys) (ρ2 ++ [.own ts]) (tkK ρ2.length Q) (mkX ρ2.length X)) X := by with_unfolding_all rfl
def co0K (ms : List Md) (m : Ro → R EV) (fa : EF) (ga : AF) (Q : EV → Ro → Prop) (X : EQ) : EV → Ro → Prop := fun x ρ0 => match x with
  | .val t0 => Wp (fa ρ0) (co1K ms m ga t0 Q X) X
  | _ => False
theorem co0K_val {t0 : T} : co0K ms m fa ga Q X (.val t0) ρ1 = Wp (fa ρ1) (co1K ms m ga t0 Q X) X := by with_unfolding_all rfl
theorem Wp_eCallO1 : Wp (eCallO1 ms m fb fa ga ρ) Q X = Wp (fb ρ) (co0K ms m fa ga Q X) X := by
  unfold eCallO1; rw [Wp_bind]; refine Wp_cong fun x0 ρ0 => ?_
  cases x0 with
  | own xs => with_unfolding_all rfl
  | pk i => with_unfolding_all rfl
  | val t0 =>
  simp only [co0K]; rw [Wp_bind]; refine Wp_cong fun x ρ1 => ?_
  cases x with
  | val t => with_unfolding_all rfl
  | pk i => with_unfolding_all rfl
  | own xs =>
    simp only [co1K]; rw [Wp_bind]; refine Wp_cong fun ys ρ2 => ?_
    rw [← Wp_callM]
    cases callM (.v :: .io :: ms) m (.val t0 :: .pk ρ2.length :: ys) (ρ2 ++ [.own xs]) with
    | bad => with_unfolding_all rfl
    | ex c ks ts ρ3 => with_unfolding_all rfl
    | ok z ρ3 => cases z <;> with_unfolding_all rfl
def heldK (Q : EV → Ro → Prop) (us : Option (List T)) (m : Ro → R EV) (x : EV) (ρ : Ro) (X : EQ) (_ : Tag Q := ⟨⟩) (_ : Tag X := ⟨⟩) : Prop := match us with
  | some us => Wp (callM [.v] m [x] ρ) (fun z ρ2 => match z with | .val (.int n) => (0 ≤ n ∧ n ≤ 100000 ∧ us.length ≤ 100000) ∧ Q (.own us) ρ2 | _ => False) (fun _ _ _ _ => False)
  | none => False
def lnK (us : List T) (Q : EV → Ro → Prop) : EV → Ro → Prop := fun z ρ2 => match z with | .val (.int n) => (0 ≤ n ∧ n ≤ 100000 ∧ us.length ≤ 100000) ∧ Q (.own us) ρ2 | _ => False
theorem lnK_int {us : List T} {n : Int} (h0 : 0 ≤ n) (h1 : n ≤ 100000) (h2 : us.length ≤ 100000) : lnK us Q (.val (.int n)) ρ = Q (.own us) ρ := by simp [lnK, h0, h1, h2]
theorem heldK_some {us : List T} {x : EV} : heldK Q (some us) m x ρ X = callA (argSl ρ [.v] [x]) (okIx [.v] [x]) [.v] m [x] ρ (lnK us Q) (fun _ _ _ _ => False) := by
  simp only [heldK]; rw [Wp_callM]; with_unfolding_all rfl
theorem Wp_eListOwn {c k : Nat} : Wp (eListOwn c k m fa ρ) Q X = Wp (fa ρ) (fun x ρ1 => heldK Q (heldT c k (deref ρ1 x)) m x ρ1 X) X := by
  unfold eListOwn; rw [Wp_bind]; refine Wp_cong fun x ρ1 => ?_
  cases heldT c k (deref ρ1 x) with
  | none => with_unfolding_all rfl
  | some us =>
    simp only [heldK]
    cases callM [.v] m [x] ρ1 with
    | bad => with_unfolding_all rfl
    | ex c ks ts ρ2 => with_unfolding_all rfl
    | ok z ρ2 =>
      simp only [Wp_ok]
      cases z with
      | val t =>
        cases t with
        | int n => by_cases h : 0 ≤ n ∧ n ≤ 100000 ∧ us.length ≤ 100000 <;> simp [h, Wp]
        | _ => with_unfolding_all rfl
      | _ => with_unfolding_all rfl
/-! what is walked -/
variable {QT : List T → Ro → Prop} {u : T}
def itK (Q : List T → Ro → Prop) (d : Option (List T)) (ρ : Ro) (_ : Tag Q := ⟨⟩) : Prop := match d with | some ts => Q ts ρ | none => False
theorem itK_some : itK QT (some ts) ρ = QT ts ρ := by with_unfolding_all rfl
theorem Wp_iAny : Wp (iAny fa ρ) QT X = Wp (fa ρ) (fun x ρ1 => itK QT ((still ρ1 x).bind itemsT) ρ1) X := by
  unfold iAny; rw [Wp_bind]; refine Wp_cong fun x ρ1 => ?_
  cases still ρ1 x with
  | none => with_unfolding_all rfl
  | some t => cases t <;> with_unfolding_all rfl
theorem Wp_iOwn {c k : Nat} : Wp (iOwn c k fa ρ) QT X = Wp (fa ρ) (fun x ρ1 => itK QT (heldT c k (deref ρ1 x)) ρ1) X := by
  unfold iOwn; rw [Wp_bind]; refine Wp_cong fun x ρ1 => ?_
  cases heldT c k (deref ρ1 x) <;> with_unfolding_all rfl
theorem still_val : still ρ (.val t) = some t := by with_unfolding_all rfl
theorem still_own : still ρ (.own ts) = some (.lst ts) := by with_unfolding_all rfl
theorem itemsT_lst : itemsT (.lst ts) = some ts := by with_unfolding_all rfl
theorem itemsT_tup : itemsT (.tup ts) = some ts := by with_unfolding_all rfl
theorem itemsT_sq : itemsT (.sq ts) = some ts := by with_unfolding_all rfl
def rgK (Q : List T → Ro → Prop) (d : Option (List T)) (ρ : Ro) (_ : Tag Q := ⟨⟩) : Prop := match d with
  | some [.int j] => (-(2 ^ 62) ≤ j ∧ j < 2 ^ 62) ∧ Q (rangeT 0 j.toNat) ρ
  | some [.int i, .int j] => (-(2 ^ 62) ≤ i ∧ i < 2 ^ 62 ∧ -(2 ^ 62) ≤ j ∧ j < 2 ^ 62) ∧ Q (rangeT i (j - i).toNat) ρ
  | _ => False
theorem rgK_1 {j : Int} (h0 : -4611686018427387904 ≤ j) (h1 : j < 4611686018427387904) : rgK QT (some [.int j]) ρ = QT (rangeT 0 j.toNat) ρ := by
  have h2 : -(2 ^ 62) ≤ j := by omega
  have h3 : j < 2 ^ 62 := by omega
  unfold rgK; exact propext ⟨fun h => h.2, fun h => ⟨⟨h2, h3⟩, h⟩⟩
theorem rgK_2 {i j : Int} (h0 : -4611686018427387904 ≤ i) (h1 : i < 4611686018427387904) (h2 : -4611686018427387904 ≤ j) (h3 : j < 4611686018427387904) : rgK QT (some [.int i, .int j]) ρ = QT (rangeT i (j - i).toNat) ρ := by
  have g0 : -(2 ^ 62) ≤ i := by omega
  have g1 : i < 2 ^ 62 := by omega
  have g2 : -(2 ^ 62) ≤ j := by omega
  have g3 : j < 2 ^ 62 := by omega
  unfold rgK; exact propext ⟨fun h => h.2, fun h => ⟨⟨g0, g1, g2, g3⟩, h⟩⟩
def isR1 (d : Option (List T)) : Prop := ∃ j, d = some [.int j]
theorem isR1_ok {j : Int} : isR1 (some [.int j]) = True := propext ⟨fun _ => trivial, fun _ => ⟨j, rfl⟩⟩
def isR2 (d : Option (List T)) : Prop := ∃ i j, d = some [.int i, .int j]
theorem isR2_ok {i j : Int} : isR2 (some [.int i, .int j]) = True := propext ⟨fun _ => trivial, fun _ => ⟨i, j, rfl⟩⟩
theorem Wp_iRange1 : Wp (iRange1 ga ρ) QT X = Wp (ga ρ) (fun xs ρ1 => isR1 (derefs ρ1 xs) ∧ rgK QT (derefs ρ1 xs) ρ1) X := by
  unfold iRange1 isR1; rw [Wp_bind]; refine Wp_cong fun xs ρ1 => ?_
  cases e : derefs ρ1 xs with
  | none => simp [Wp, rgK]
  | some ts =>
    match ts with
    | [] => simp [Wp, rgK]
    | [.int j] =>
      simp only [rgK, Option.some.injEq]
      by_cases h : -(2 ^ 62) ≤ j ∧ j < 2 ^ 62
      · rw [if_pos h, Wp_ok]; exact propext ⟨fun z => ⟨⟨j, rfl⟩, h, z⟩, fun z => z.2.2⟩
      · rw [if_neg h, Wp_bad]; exact propext ⟨fun z => z.elim, fun z => (h z.2.1).elim⟩
    | [.non] | [.bl _] | [.str _] | [.tup _] | [.lst _] | [.ins _ _ _] | [.sq _] | [.dct _] | [.tf _] => simp [Wp, rgK]
    | a :: b :: r => simp [Wp, rgK]
theorem Wp_iRange2 : Wp (iRange2 ga ρ) QT X = Wp (ga ρ) (fun xs ρ1 => isR2 (derefs ρ1 xs) ∧ rgK QT (derefs ρ1 xs) ρ1) X := by
  unfold iRange2 isR2; rw [Wp_bind]; refine Wp_cong fun xs ρ1 => ?_
  cases e : derefs ρ1 xs with
  | none => simp [Wp, rgK]
  | some ts =>
    match ts with
    | [] => simp [Wp, rgK]
    | [a] => simp [Wp, rgK]
    | a :: b :: c :: r => simp [Wp, rgK]
    | [a, b] =>
      cases a with
      | int i =>
        cases b with
        | int j =>
          simp only [rgK, Option.some.injEq]
          by_cases h : -(2 ^ 62) ≤ i ∧ i < 2 ^ 62 ∧ -(2 ^ 62) ≤ j ∧ j < 2 ^ 62
          · rw [if_pos h, Wp_ok]; exact propext ⟨fun z => ⟨⟨i, j, rfl⟩, h, z⟩, fun z => z.2.2⟩
          · rw [if_neg h, Wp_bad]; exact propext ⟨fun z => z.elim, fun z => (h z.2.1).elim⟩
        | _ => simp [Wp, rgK]
      | _ => simp [Wp, rgK]
def enK (Q : List T → Ro → Prop) (d : Option (List T)) (ρ : Ro) (_ : Tag Q := ⟨⟩) : Prop := match d with | some [.lst ts] => Q (enumT 0 ts) ρ | _ => False
theorem enK_some : enK QT (some [.lst ts]) ρ = QT (enumT 0 ts) ρ := by with_unfolding_all rfl
theorem Wp_iEnumL : Wp (iEnumL ga ρ) QT X = Wp (ga ρ) (fun xs ρ1 => enK QT (grounds xs) ρ1) X := by
  unfold iEnumL; rw [Wp_bind]; refine Wp_cong fun xs ρ1 => ?_
  cases grounds xs with
  | none => with_unfolding_all rfl
  | some ts =>
    match ts with
    | [] | [.non] | [.bl _] | [.str _] | [.tup _] | [.int _] | [.ins _ _ _] | [.sq _] | [.lst _] | [.dct _] | [.tf _] => with_unfolding_all rfl
    | a :: b :: r => cases a <;> with_unfolding_all rfl
/-! comprehensions -/
def plK (b : Bool) (P : Prop) (_ : Tag P := ⟨⟩) : Prop := b = true ∧ P
theorem plK_ok {b : Bool} {P : Prop} (h : b = true) : plK b P = P := by simp [plK, h]
theorem plK_tt {P : Prop} : plK true P = P := by simp [plK]
def lnP (n m : Nat) (P : Prop) (_ : Tag P := ⟨⟩) : Prop := n ≤ m ∧ P
theorem lnP_ok {n m : Nat} {P : Prop} (h : n ≤ m) : lnP n m P = P := by simp [lnP, h]
theorem Wp_eLc {fi : Ro → R (List T)} {g : T → Ro → Option Ro} {test : TF} {fe : EF} {vs : List Nat} : Wp (eLc fi g test fe vs ρ) Q X = Wp (fi ρ) (fun ts ρ1 => plK (plainAt ρ1 vs) (lnP ts.length 100000 (Wp (loopC g test fe vs ts [] ρ1) Q X))) X := by
  unfold eLc; rw [Wp_bind]; refine Wp_cong fun ts ρ1 => ?_
  by_cases h : plainAt ρ1 vs = true ∧ ts.length ≤ 100000
  · rw [if_pos h, plK_ok h.1, lnP_ok h.2]
  · rw [if_neg h, Wp_bad]; exact propext ⟨fun z => z.elim, fun z => h ⟨z.1, z.2.1⟩⟩
theorem Wp_eLc2 {fi fi1 : Ro → R (List T)} {g g1 : T → Ro → Option Ro} {test test1 : TF} {fe : EF} {vs vs1 : List Nat} : Wp (eLc2 fi g test fi1 g1 test1 fe vs vs1 ρ) Q X = Wp (fi ρ) (fun ts ρ1 => plK (plainAt ρ1 vs) (Wp (loopC2 g test fi1 g1 test1 fe vs vs1 ts [] ρ1) Q X)) X := by
  unfold eLc2; rw [Wp_bind]; refine Wp_cong fun ts ρ1 => ?_
  by_cases h : plainAt ρ1 vs = true
  · rw [if_pos h, plK_ok h]
  · rw [if_neg h, Wp_bad]; exact propext ⟨fun z => z.elim, fun z => h z.1⟩
theorem Wp_vSc {Q : List Int → Ro → Prop} {fi : Ro → R (List T)} {g : T → Ro → Option Ro} {fe : EF} {vs : List Nat} : Wp (vSc fi g fe vs ρ) Q X = Wp (fi ρ) (fun ts ρ1 => plK (plainAt ρ1 vs) (lnP ts.length 4000 (Wp (loopV g fe vs ts [] ρ1) Q X))) X := by
  unfold vSc; rw [Wp_bind]; refine Wp_cong fun ts ρ1 => ?_
  by_cases h : plainAt ρ1 vs = true ∧ ts.length ≤ 4000
  · rw [if_pos h, plK_ok h.1, lnP_ok h.2]
  · rw [if_neg h, Wp_bad]; exact propext ⟨fun z => z.elim, fun z => h ⟨z.1, z.2.1⟩⟩
def svK (Q : EV → Ro → Prop) : List Int → Ro → Prop := fun acc ρ => (srtU acc).length < 64 ∧ Q (.own ((srtU acc).map T.int)) ρ
theorem svK_ok {acc : List Int} (h : (srtU acc).length < 64) : svK Q acc ρ = Q (.own ((srtU acc).map T.int)) ρ := by simp [svK, h]
theorem Wp_eSortedV {f : Ro → R (List Int)} : Wp (eSortedV f ρ) Q X = Wp (f ρ) (svK Q) X := by
  unfold eSortedV; rw [Wp_bind]; refine Wp_cong fun acc ρ1 => ?_
  by_cases h : (srtU acc).length < 64 <;> simp [h, Wp, svK]
def vsK (Q : List Int → Ro → Prop) (d : Option (List T)) (ρ1 : Ro) (_ : Tag Q := ⟨⟩) : Prop := match d with
  | some [.lst ts] => (match intsT ts with
    | some ns => ns.length ≤ 4000 ∧ Q ns ρ1
    | none => False)
  | _ => False
theorem vsK_some {Q : List Int → Ro → Prop} {xs : List Int} (h : xs.length ≤ 4000) : vsK Q (some [.lst (xs.map T.int)]) ρ = Q xs ρ := by
  unfold vsK; simp only [intsT_map]; exact propext ⟨fun z => z.2, fun z => ⟨h, z⟩⟩
theorem Wp_vSet {Q : List Int → Ro → Prop} {fa : AF} : Wp (vSet fa ρ) Q X = Wp (fa ρ) (fun xs ρ1 => vsK Q (derefs ρ1 xs) ρ1) X := by
  unfold vSet; rw [Wp_bind]; refine Wp_cong fun xs ρ1 => ?_
  unfold vsK
  generalize derefs ρ1 xs = d
  cases d with
  | none => simp [Wp]
  | some us =>
    cases us with
    | nil => simp [Wp]
    | cons t us =>
      cases us with
      | cons u us => cases t <;> simp [Wp]
      | nil =>
        cases t with
        | lst ts =>
          cases e2 : intsT ts with
          | none => simp [e2, Wp]
          | some ns => by_cases h : ns.length ≤ 4000 <;> simp [h, e2, Wp]
        | _ => simp [Wp]
/-! slices -/
def cutK (t : Option T) (l h : Option Int) (Q : EV → Ro → Prop) (ρ : Ro) (_ : Tag Q := ⟨⟩) : Prop := match t with | some t => outK (cutT t l h) Q ρ | none => False
theorem cutK_some {l h : Option Int} : cutK (some t) l h Q ρ = outK (cutT t l h) Q ρ := by with_unfolding_all rfl
theorem Wp_eSl {fl fh : OFn} : Wp (eSl fa fl fh ρ) Q X = Wp (fa ρ) (fun x ρ1 => Wp (fl ρ1) (fun l ρ2 => Wp (fh ρ2) (fun h ρ3 => cutK (deref ρ3 x) l h Q ρ3) X) X) X := by
  unfold eSl; rw [Wp_bind]; refine Wp_cong fun x ρ1 => ?_; rw [Wp_bind]; refine Wp_cong fun l ρ2 => ?_; rw [Wp_bind]; refine Wp_cong fun h ρ3 => ?_
  cases deref ρ3 x with
  | none => with_unfolding_all rfl
  | some t => exact Wp_out
theorem Wp_oNone {Q : Option Int → Ro → Prop} : Wp (oNone ρ) Q X = Q none ρ := by with_unfolding_all rfl
def oiK (Q : Option Int → Ro → Prop) (d : Option T) (ρ : Ro) (_ : Tag Q := ⟨⟩) : Prop := match d with | some (.int i) => Q (some i) ρ | _ => False
theorem oiK_int {Q : Option Int → Ro → Prop} {i : Int} : oiK Q (some (.int i)) ρ = Q (some i) ρ := by with_unfolding_all rfl
theorem Wp_oSome {Q : Option Int → Ro → Prop} : Wp (oSome fa ρ) Q X = Wp (fa ρ) (fun x ρ1 => oiK Q (deref ρ1 x) ρ1) X := by
  unfold oSome; rw [Wp_bind]; refine Wp_cong fun x ρ1 => ?_
  cases deref ρ1 x with
  | none => with_unfolding_all rfl
  | some t => cases t <;> with_unfolding_all rfl
/-! fields, isinstance -/
theorem Wp_eFld {cs : List Nat} {k : Nat} : Wp (eFld cs k fa ρ) Q X = Wp (fa ρ) (fun x ρ1 => e1K (fldG cs k) Q (deref ρ1 x) ρ1) X := Wp_e1
theorem Wp_eIsi {tab : Kind → Option Bool} : Wp (eIsi tab fa ρ) Q X = Wp (fa ρ) (fun x ρ1 => e1K (bIsi tab) Q (deref ρ1 x) ρ1) X := Wp_e1
def fldK (i c k : Nat) (d : Option T) (s : Option Sl) (Q : Fl → Ro → Prop) (ρ : Ro) (_ : Tag Q := ⟨⟩) : Prop := match d, s with
  | some t, some (.raw c' ks ts) => (c' = c ∧ ks.length < 900) ∧ Q .nx (ρ.set i (.raw c (putKs ks k) (putTs ks ts k t)))
  | _, _ => False
theorem fldK_some {i c k : Nat} {Q : Fl → Ro → Prop} {ks : List Nat} (h : ks.length < 900) : fldK i c k (some t) (some (.raw c ks ts)) Q ρ = Q .nx (ρ.set i (.raw c (putKs ks k) (putTs ks ts k t))) := by simp [fldK, h]
theorem Wp_sFld {i c k : Nat} {Q : Fl → Ro → Prop} : Wp (VI.sFld i c k fa ρ) Q X = Wp (fa ρ) (fun x ρ1 => fldK i c k (ground1 x) ρ1[i]? Q ρ1) X := by
  unfold VI.sFld; rw [Wp_bind]; refine Wp_cong fun x ρ1 => ?_
  cases ground1 x with
  | none => with_unfolding_all rfl
  | some t =>
    cases ρ1[i]? with
    | none => with_unfolding_all rfl
    | some s =>
      cases s with
      | raw c' ks ts => by_cases h : c' = c ∧ ks.length < 900 <;> simp [h, Wp, fldK]
      | _ => with_unfolding_all rfl
/-! try -/
def tryX (tab : List (Nat × Bool)) (fs : Nat → List Nat → List T → Ro → R Fl) (Q : Fl → Ro → Prop) (X : EQ) : EQ := fun c ks ts ρ => match tab.lookup c with
  | some true => Wp (fs c ks ts ρ) Q (fun _ _ _ _ => False)
  | some false => X c ks ts ρ
  | none => False
def trK (o : Option Bool) (fs : Nat → List Nat → List T → Ro → R Fl) (Q : Fl → Ro → Prop) (X : EQ) (c : Nat) (ks : List Nat) (ts : List T) (ρ : Ro) (_ : Tag Q := ⟨⟩) (_ : Tag X := ⟨⟩) (_ : Tag fs := ⟨⟩) : Prop := match o with
  | some true => Wp (fs c ks ts ρ) Q (fun _ _ _ _ => False)
  | some false => X c ks ts ρ
  | none => False
theorem tryX_ev {tab : List (Nat × Bool)} {fs : Nat → List Nat → List T → Ro → R Fl} {Q : Fl → Ro → Prop} {c : Nat} {ks : List Nat} : tryX tab fs Q X c ks ts ρ = trK (tab.lookup c) fs Q X c ks ts ρ := by
  unfold tryX trK; cases tab.lookup c with
  | none => rfl
  | some b => cases b <;> rfl
theorem trK_t {fs : Nat → List Nat → List T → Ro → R Fl} {Q : Fl → Ro → Prop} {c : Nat} {ks : List Nat} : trK (some true) fs Q X c ks ts ρ = Wp (fs c ks ts ρ) Q (fun _ _ _ _ => False) := rfl
theorem trK_f {fs : Nat → List Nat → List T → Ro → R Fl} {Q : Fl → Ro → Prop} {c : Nat} {ks : List Nat} : trK (some false) fs Q X c ks ts ρ = X c ks ts ρ := rfl
def isxK (s : Option Sl) (tab : List (Nat × Bool)) (Q : EV → Ro → Prop) (ρ : Ro) (_ : Tag Q := ⟨⟩) : Prop := match s with
  | some (.exn c [] []) => (match tab.lookup c with | some b => Q (.val (.bl b)) ρ | none => False)
  | _ => False
def isyK (o : Option Bool) (Q : EV → Ro → Prop) (ρ : Ro) (_ : Tag Q := ⟨⟩) : Prop := match o with | some b => Q (.val (.bl b)) ρ | none => False
theorem isyK_ok {b : Bool} : isyK (some b) Q ρ = Q (.val (.bl b)) ρ := rfl
theorem isxK_exn {c : Nat} {tab : List (Nat × Bool)} : isxK (some (.exn c [] [])) tab Q ρ = isyK (tab.lookup c) Q ρ := rfl
theorem Wp_eIsx {tab : List (Nat × Bool)} {i : Nat} : Wp (eIsx tab i ρ) Q X = isxK ρ[i]? tab Q ρ := by
  unfold eIsx isxK
  cases ρ[i]? with
  | none => with_unfolding_all rfl
  | some s =>
    cases s with
    | exn c ks ts =>
      match ks, ts with
      | [], [] => simp only; cases tab.lookup c <;> with_unfolding_all rfl
      | _ :: _, _ => with_unfolding_all rfl
      | [], _ :: _ => with_unfolding_all rfl
    | _ => with_unfolding_all rfl
theorem Wp_sTryOnly {tab : List (Nat × Bool)} {fb fs : SF} {Q : Fl → Ro → Prop} : Wp (sTryOnly tab fb fs ρ) Q X = Wp (fb ρ) Q (tryX tab (fun _ _ _ ρ => fs ρ) Q X) := by
  unfold sTryOnly
  cases fb ρ with
  | ok fl ρ1 => with_unfolding_all rfl
  | bad => with_unfolding_all rfl
  | ex c ks ts ρ1 =>
    simp only [Wp_ex, tryX]
    cases tab.lookup c with
    | none => with_unfolding_all rfl
    | some b =>
      cases b with
      | false => with_unfolding_all rfl
      | true => simp only; cases fs ρ1 <;> with_unfolding_all rfl
theorem Wp_sTryAs {tab : List (Nat × Bool)} {i : Nat} {fb fs : SF} {Q : Fl → Ro → Prop} : Wp (sTryAs tab i fb fs ρ) Q X = Wp (fb ρ) Q (tryX tab (fun c ks ts ρ => fs (ρ.set i (.exn c ks ts))) (fun fl ρ => Q fl (ρ.set i .no)) X) := by
  unfold sTryAs
  cases fb ρ with
  | ok fl ρ1 => with_unfolding_all rfl
  | bad => with_unfolding_all rfl
  | ex c ks ts ρ1 =>
    simp only [Wp_ex, tryX]
    cases tab.lookup c with
    | none => with_unfolding_all rfl
    | some b =>
      cases b with
      | false => with_unfolding_all rfl
      | true => simp only; cases fs (ρ1.set i (.exn c ks ts)) <;> with_unfolding_all rfl
theorem Wp_noX {m : Ro → R EV} {ρ : Ro} {Q : EV → Ro → Prop} {X : EQ} : Wp (noX m ρ) Q X = Wp (m ρ) Q (fun _ _ _ _ => False) := by
  unfold noX
  cases m ρ <;> with_unfolding_all rfl
def isqK (s : Option Sl) (tab : List (Nat × Bool)) (Q : EV → Ro → Prop) (ρ : Ro) (_ : Tag Q := ⟨⟩) : Prop := match s with
  | some (.exn c _ _) => isyK (tab.lookup c) Q ρ
  | _ => False
theorem isqK_exn {c : Nat} {ks : List Nat} {tab : List (Nat × Bool)} : isqK (some (.exn c ks ts)) tab Q ρ = isyK (tab.lookup c) Q ρ := rfl
theorem Wp_eIsq {tab : List (Nat × Bool)} {i : Nat} : Wp (eIsq tab i ρ) Q X = isqK ρ[i]? tab Q ρ := by
  unfold eIsq isqK
  cases ρ[i]? with
  | none => with_unfolding_all rfl
  | some s =>
    cases s with
    | exn c ks ts => simp only; cases tab.lookup c <;> with_unfolding_all rfl
    | _ => with_unfolding_all rfl
def xfK (tab : List Nat) (k : Nat) (s : Option Sl) (Q : EV → Ro → Prop) (ρ : Ro) (_ : Tag Q := ⟨⟩) : Prop := match s with
  | some (.exn c ks ts) => tab.contains c = true ∧ (match fget ks ts k with | some t => Q (.val t) ρ | none => False)
  | _ => False
def optK (o : Option T) (Q : EV → Ro → Prop) (ρ : Ro) (_ : Tag Q := ⟨⟩) : Prop := match o with | some t => Q (.val t) ρ | none => False
theorem optK_some : optK (some t) Q ρ = Q (.val t) ρ := by with_unfolding_all rfl
theorem xfK_exn {tab : List Nat} {c k : Nat} {ks : List Nat} (h : tab.contains c = true) : xfK tab k (some (.exn c ks ts)) Q ρ = optK (fget ks ts k) Q ρ := by
  simp only [xfK, h, true_and]; rfl
theorem Wp_eXf {tab : List Nat} {k i : Nat} : Wp (eXf tab k i ρ) Q X = xfK tab k ρ[i]? Q ρ := by
  unfold eXf xfK
  cases ρ[i]? with
  | none => with_unfolding_all rfl
  | some s =>
    cases s with
    | exn c ks ts =>
      simp only
      by_cases h : tab.contains c = true
      · rw [if_pos h]; simp only [h, true_and]; cases fget ks ts k <;> with_unfolding_all rfl
      · rw [if_neg h, Wp_bad]; exact propext ⟨fun z => z.elim, fun z => h z.1⟩
    | _ => with_unfolding_all rfl
def ch3K (g g' g2 : T → T → Out) (fc fd : EF) (y : EV) (Q : EV → Ro → Prop) (X : EQ) (d e : Option T) (ρ : Ro) (_ : Tag Q := ⟨⟩) (_ : Tag X := ⟨⟩) : Prop := match d, e with
  | some t, some u => chB (fun b => Wp (if b = true then eChain g' g2 (fun ρ => .ok y ρ) fc fd ρ else .ok (.val (.bl false)) ρ) Q X) (blOf (g t u))
  | _, _ => False
theorem ch3K_some {g g' g2 : T → T → Out} {fc fd : EF} {y : EV} : ch3K g g' g2 fc fd y Q X (some t) (some u) ρ = chB (fun b => Wp (if b = true then eChain g' g2 (fun ρ => .ok y ρ) fc fd ρ else .ok (.val (.bl false)) ρ) Q X) (blOf (g t u)) := by with_unfolding_all rfl
theorem Wp_eChain3 {g g' g2 : T → T → Out} {fc fd : EF} : Wp (eChain3 g g' g2 fa fb fc fd ρ) Q X = Wp (fa ρ) (fun x ρ1 => Wp (fb ρ1) (fun y ρ2 => ch3K g g' g2 fc fd y Q X (deref ρ2 x) (deref ρ2 y) ρ2) X) X := by
  unfold eChain3; rw [Wp_bind]; refine Wp_cong fun x ρ1 => ?_; rw [Wp_bind]; refine Wp_cong fun y ρ2 => ?_
  cases e1 : deref ρ2 x with
  | none => with_unfolding_all rfl
  | some t =>
    cases e2 : deref ρ2 y with
    | none => with_unfolding_all rfl
    | some u =>
      simp only [ch3K]
      cases e3 : blOf (g t u) with
      | none => with_unfolding_all rfl
      | some b =>
        cases b with
        | false => with_unfolding_all rfl
        | true => with_unfolding_all rfl
def fzK (i : Nat) (Q : Fl → Ro → Prop) : Fl → Ro → Prop := fun fl ρ => match fl with | .nx => Q .nx (frzSl ρ i ρ[i]?) | fl => Q fl ρ
theorem fzK_nx {i : Nat} {Q : Fl → Ro → Prop} : fzK i Q .nx ρ = Q .nx (frzSl ρ i ρ[i]?) := by with_unfolding_all rfl
theorem fzK_rt {i : Nat} {Q : Fl → Ro → Prop} {x : EV} : fzK i Q (.rt x) ρ = Q (.rt x) ρ := by with_unfolding_all rfl
theorem frzSl_own {i : Nat} : frzSl ρ i (some (.own ts)) = ρ.set i (.val (.lst ts)) := by with_unfolding_all rfl
theorem frzSl_val {i : Nat} : frzSl ρ i (some (.val t)) = ρ := by with_unfolding_all rfl
theorem frzSl_odc {i : Nat} {kvs : List (List Int × Int)} : frzSl ρ i (some (.odc kvs)) = ρ.set i (.val (.dct kvs)) := by with_unfolding_all rfl
theorem Wp_sDcNew {i : Nat} {Q : Fl → Ro → Prop} : Wp (sDcNew i ρ) Q X = Q .nx (ρ.set i (.odc [])) := by with_unfolding_all rfl
def dcInK (d : Option (List Int)) (s : Option Sl) (Q : Bool → Ro → Prop) (ρ : Ro) (_ : Tag Q := ⟨⟩) : Prop := match d, s with | some k, some (.odc kvs) => Q (dGet kvs k).isSome ρ | _, _ => False
theorem dcInK_some {k : List Int} {kvs : List (List Int × Int)} {Q : Bool → Ro → Prop} : dcInK (some k) (some (.odc kvs)) Q ρ = Q (dGet kvs k).isSome ρ := by with_unfolding_all rfl
theorem Wp_tDcIn {i : Nat} {Q : Bool → Ro → Prop} : Wp (tDcIn i ga ρ) Q X = Wp (ga ρ) (fun xs ρ1 => dcInK (keyOf xs) ρ1[i]? Q ρ1) X := by
  unfold tDcIn; rw [Wp_bind]; refine Wp_cong fun xs ρ1 => ?_
  cases keyOf xs with
  | none => with_unfolding_all rfl
  | some k =>
    cases ρ1[i]? with
    | none => with_unfolding_all rfl
    | some s => cases s <;> with_unfolding_all rfl
def dcSetK (d : Option T) (s : Option Sl) (P : Int → Prop) (_ : Tag P := ⟨⟩) : Prop := match d, s with | some (.int n), some (.odc _) => P n | _, _ => False
theorem dcSetK_some {n : Int} {kvs : List (List Int × Int)} {P : Int → Prop} : dcSetK (some (.int n)) (some (.odc kvs)) P = P n := by with_unfolding_all rfl
def dcPutK (i : Nat) (d : Option (List Int)) (s : Option Sl) (n : Int) (Q : Fl → Ro → Prop) (ρ : Ro) (_ : Tag Q := ⟨⟩) : Prop := match d, s with | some k, some (.odc kvs) => kvs.length ≤ 1000 ∧ Q .nx (ρ.set i (.odc (dPut kvs k n))) | _, _ => False
theorem dcPutK_some {i : Nat} {k : List Int} {n : Int} {kvs : List (List Int × Int)} {Q : Fl → Ro → Prop} (h : kvs.length ≤ 1000) : dcPutK i (some k) (some (.odc kvs)) n Q ρ = Q .nx (ρ.set i (.odc (dPut kvs k n))) := by
  unfold dcPutK; simp only [h, true_and]
theorem Wp_sDcSet {i : Nat} {Q : Fl → Ro → Prop} : Wp (sDcSet i fa ga ρ) Q X = Wp (fa ρ) (fun x ρ1 => dcSetK (deref ρ1 x) ρ1[i]? (fun n => Wp (ga ρ1) (fun xs ρ2 => dcPutK i (keyOf xs) ρ2[i]? n Q ρ2) X)) X := by
  unfold sDcSet; rw [Wp_bind]; refine Wp_cong fun x ρ1 => ?_
  cases deref ρ1 x with
  | none => with_unfolding_all rfl
  | some t =>
    cases ρ1[i]? with
    | none => cases t <;> with_unfolding_all rfl
    | some s =>
      cases t with
      | int n =>
        cases s with
        | odc kvs =>
          simp only [dcSetK]
          rw [Wp_bind]; refine Wp_cong fun xs ρ2 => ?_
          cases keyOf xs with
          | none => with_unfolding_all rfl
          | some k =>
            cases ρ2[i]? with
            | none => with_unfolding_all rfl
            | some s2 =>
              cases s2 with
              | odc kvs2 =>
                simp only [dcPutK]
                by_cases c : kvs2.length ≤ 1000
                · simp only [if_pos c, c, true_and]; with_unfolding_all rfl
                · simp only [if_neg c, c, false_and]; with_unfolding_all rfl
              | _ => with_unfolding_all rfl
        | _ => with_unfolding_all rfl
      | _ => cases s <;> with_unfolding_all rfl
def dcGetK (x : EV) (P : List (List Int × Int) → Prop) (_ : Tag P := ⟨⟩) : Prop := match x with | .val (.dct kvs) => P kvs | _ => False
theorem dcGetK_some {kvs : List (List Int × Int)} {P : List (List Int × Int) → Prop} : dcGetK (.val (.dct kvs)) P = P kvs := by with_unfolding_all rfl
def dcKeyK (d : Option (List Int)) (P : List Int → Prop) (_ : Tag P := ⟨⟩) : Prop := match d with | some k => P k | none => False
theorem dcKeyK_some {k : List Int} {P : List Int → Prop} : dcKeyK (some k) P = P k := by with_unfolding_all rfl
theorem Wp_eDcGet : Wp (eDcGet fa ga ρ) Q X = Wp (fa ρ) (fun x ρ1 => dcGetK x (fun kvs => Wp (ga ρ1) (fun xs ρ2 => dcKeyK (keyOf xs) (fun k => Q (.val (optI (dGet kvs k))) ρ2)) X)) X := by
  unfold eDcGet; rw [Wp_bind]; refine Wp_cong fun x ρ1 => ?_
  cases x with
  | own _ => with_unfolding_all rfl
  | pk _ => with_unfolding_all rfl
  | val t =>
    cases t with
    | dct kvs =>
      simp only [dcGetK]
      rw [Wp_bind]; refine Wp_cong fun xs ρ2 => ?_
      cases keyOf xs <;> with_unfolding_all rfl
    | _ => with_unfolding_all rfl
theorem keyOf_two {a b : Int} : keyOf [.val (.int a), .val (.int b)] = some [a, b] := by with_unfolding_all rfl
theorem Wp_sFz {i : Nat} {f : SF} {Q : Fl → Ro → Prop} : Wp (sFz i f ρ) Q X = Wp (f ρ) (fzK i Q) X := by
  unfold sFz
  cases f ρ with
  | ok fl ρ1 => cases fl <;> with_unfolding_all rfl
  | ex c ks ts ρ1 => with_unfolding_all rfl
  | bad => with_unfolding_all rfl
theorem Wp_aDfl {ds : List T} {Q : List EV → Ro → Prop} : Wp (aDfl ds ga ρ) Q X = Wp (ga ρ) (fun xs ρ1 => Q (xs ++ ds.map EV.val) ρ1) X := by
  unfold aDfl; rw [Wp_bind]; with_unfolding_all rfl
theorem Wp_eWk : Wp (eWk fa ρ) Q X = Wp (fa ρ) (fun x ρ1 => Q (wkV x) ρ1) X := by unfold eWk; rw [Wp_bind]; with_unfolding_all rfl
theorem wkV_lst : wkV (.val (.lst ts)) = .val (.lst ts) := by with_unfolding_all rfl
theorem wkV_tup : wkV (.val (.tup ts)) = .val (.tup ts) := by with_unfolding_all rfl
theorem wkV_tf : wkV (.val (.tf ts)) = .val (.tup ts) := by with_unfolding_all rfl
theorem wkV_sq : wkV (.val (.sq ts)) = .val (.sq ts) := by with_unfolding_all rfl
theorem wkV_own : wkV (.own ts) = .own ts := by with_unfolding_all rfl
theorem wkV_pk {i : Nat} : wkV (.pk i) = .pk i := by with_unfolding_all rfl
def tfK (Q : EV → Ro → Prop) (d : Option (List T)) (ρ : Ro) (_ : Tag Q := ⟨⟩) : Prop := match d with | some [.lst ts] => Q (.val (.tf ts)) ρ | some [.sq ts] => Q (.val (.tf ts)) ρ | _ => False
theorem tfK_lst : tfK Q (some [.lst ts]) ρ = Q (.val (.tf ts)) ρ := by with_unfolding_all rfl
theorem tfK_sq : tfK Q (some [.sq ts]) ρ = Q (.val (.tf ts)) ρ := by with_unfolding_all rfl
theorem Wp_eTf : Wp (eTf ga ρ) Q X = Wp (ga ρ) (fun xs ρ1 => tfK Q (derefs ρ1 xs) ρ1) X := by
  unfold eTf; rw [Wp_bind]; refine Wp_cong fun xs ρ1 => ?_
  cases derefs ρ1 xs with
  | none => with_unfolding_all rfl
  | some us =>
    match us with
    | [] => with_unfolding_all rfl
    | a :: [] => cases a <;> with_unfolding_all rfl
    | a :: b :: r => cases a <;> with_unfolding_all rfl
def ixB (ns : Option (List Int)) (us : Option (List T)) (Q : EV → Ro → Prop) (ρ : Ro) (_ : Tag Q := ⟨⟩) : Prop := match ns, us with
  | some ns, some [.int i] => i ∈ ns ∧ Q (.val (.int (ns.findIdx (· == i) : Nat))) ρ
  | _, _ => False
theorem ixB_ok {ns : List Int} {i : Int} (h : i ∈ ns) : ixB (some ns) (some [.int i]) Q ρ = Q (.val (.int (ns.findIdx (· == i) : Nat))) ρ := by unfold ixB; simp only [h, true_and]
theorem Wp_idxT : ∀ {ns : Option (List Int)} {us : Option (List T)}, Wp (idxT ns us ρ) Q X = ixB ns us Q ρ
  | none, none => by with_unfolding_all rfl
  | none, some _ => by with_unfolding_all rfl
  | some _, none => by with_unfolding_all rfl
  | some _, some [] => by with_unfolding_all rfl
  | some ns, some [a] => by
    cases a with
    | int i =>
      simp only [idxT, ixB]
      by_cases h : i ∈ ns
      · rw [if_pos h, Wp_ok]; exact propext ⟨fun z => ⟨h, z⟩, fun z => z.2⟩
      · rw [if_neg h, Wp_bad]; exact propext ⟨fun z => z.elim, fun z => h z.1⟩
    | _ => with_unfolding_all rfl
  | some _, some (a :: _ :: _) => by cases a <;> with_unfolding_all rfl
def ctB (ns : Option (List Int)) (us : Option (List T)) (Q : EV → Ro → Prop) (ρ : Ro) (_ : Tag Q := ⟨⟩) : Prop := match ns, us with
  | some ns, some [.int i] => Q (.val (.int (ns.count i : Nat))) ρ
  | _, _ => False
theorem ctB_ok {ns : List Int} {i : Int} : ctB (some ns) (some [.int i]) Q ρ = Q (.val (.int (ns.count i : Nat))) ρ := by with_unfolding_all rfl
theorem Wp_cntT : ∀ {ns : Option (List Int)} {us : Option (List T)}, Wp (cntT ns us ρ) Q X = ctB ns us Q ρ
  | none, none => by with_unfolding_all rfl
  | none, some _ => by with_unfolding_all rfl
  | some _, none => by with_unfolding_all rfl
  | some _, some [] => by with_unfolding_all rfl
  | some ns, some [a] => by cases a <;> with_unfolding_all rfl
  | some _, some (a :: _ :: _) => by cases a <;> with_unfolding_all rfl
def ctA (x : EV) (ga : AF) (Q : EV → Ro → Prop) (X : EQ) (d : Option (List Int)) (ρ : Ro) (_ : Tag Q := ⟨⟩) (_ : Tag X := ⟨⟩) : Prop := match d with
  | some _ => Wp (ga ρ) (fun ys ρ2 => ctB ((deref ρ2 x).bind idxL) (grounds ys) Q ρ2) X
  | none => False
theorem ctA_ok {ns : List Int} : ctA x ga Q X (some ns) ρ = Wp (ga ρ) (fun ys ρ2 => ctB ((deref ρ2 x).bind idxL) (grounds ys) Q ρ2) X := by with_unfolding_all rfl
theorem Wp_eCnt : Wp (eCnt fa ga ρ) Q X = Wp (fa ρ) (fun x ρ1 => ctA x ga Q X ((deref ρ1 x).bind idxL) ρ1) X := by
  unfold eCnt; rw [Wp_bind]; refine Wp_cong fun x ρ1 => ?_
  cases (deref ρ1 x).bind idxL with
  | none => with_unfolding_all rfl
  | some ns => simp only [ctA]; rw [Wp_bind]; refine Wp_cong fun ys ρ2 => ?_; exact Wp_cntT
def ixA (x : EV) (ga : AF) (Q : EV → Ro → Prop) (X : EQ) (d : Option T) (ρ : Ro) (_ : Tag Q := ⟨⟩) (_ : Tag X := ⟨⟩) : Prop := match d with
  | some (.tf _) => Wp (ga ρ) (fun ys ρ2 => ixB ((deref ρ2 x).bind idxF) (grounds ys) Q ρ2) X
  | some (.lst _) => Wp (ga ρ) (fun ys ρ2 => ixB ((deref ρ2 x).bind idxL) (grounds ys) Q ρ2) X
  | some (.sq _) => Wp (ga ρ) (fun ys ρ2 => ixB ((deref ρ2 x).bind idxL) (grounds ys) Q ρ2) X
  | _ => False
theorem ixA_tf : ixA x ga Q X (some (.tf ts)) ρ = Wp (ga ρ) (fun ys ρ2 => ixB ((deref ρ2 x).bind idxF) (grounds ys) Q ρ2) X := by with_unfolding_all rfl
theorem ixA_lst : ixA x ga Q X (some (.lst ts)) ρ = Wp (ga ρ) (fun ys ρ2 => ixB ((deref ρ2 x).bind idxL) (grounds ys) Q ρ2) X := by with_unfolding_all rfl
theorem ixA_sq : ixA x ga Q X (some (.sq ts)) ρ = Wp (ga ρ) (fun ys ρ2 => ixB ((deref ρ2 x).bind idxL) (grounds ys) Q ρ2) X := by with_unfolding_all rfl
theorem Wp_eIdx : Wp (eIdx fa ga ρ) Q X = Wp (fa ρ) (fun x ρ1 => ixA x ga Q X (deref ρ1 x) ρ1) X := by
  unfold eIdx; rw [Wp_bind]; refine Wp_cong fun x ρ1 => ?_
  cases deref ρ1 x with
  | none => with_unfolding_all rfl
  | some t =>
    cases t <;> first | with_unfolding_all rfl | (simp only [ixA]; rw [Wp_bind]; refine Wp_cong fun ys ρ2 => ?_; exact Wp_idxT)
theorem idxL_ints {ns : List Int} : idxL (.lst (ns.map T.int)) = some ns := intsT_map ns
theorem idxF_ints {ns : List Int} : idxF (.tf (ns.map T.int)) = some ns := intsT_map ns
def sgK (Q : List T → Ro → Prop) (d : Option T) (ρ : Ro) (_ : Tag Q := ⟨⟩) : Prop := match d with | some (.str z) => Q (signsT z) ρ | _ => False
theorem sgK_some {z : Str} : sgK QT (some (.str z)) ρ = QT (signsT z) ρ := by with_unfolding_all rfl
theorem Wp_iSg : Wp (iSg fa ρ) QT X = Wp (fa ρ) (fun x ρ1 => sgK QT (deref ρ1 x) ρ1) X := by
  unfold iSg; rw [Wp_bind]; refine Wp_cong fun x ρ1 => ?_
  cases deref ρ1 x with
  | none => with_unfolding_all rfl
  | some t => cases t <;> with_unfolding_all rfl
def enA (Q : List T → Ro → Prop) (d : Option (List T)) (ρ : Ro) (_ : Tag Q := ⟨⟩) : Prop := match d with | some [.lst ts] => Q (enumT 0 ts) ρ | some [.tup ts] => Q (enumT 0 ts) ρ | _ => False
theorem enA_l : enA QT (some [.lst ts]) ρ = QT (enumT 0 ts) ρ := by with_unfolding_all rfl
theorem enA_t : enA QT (some [.tup ts]) ρ = QT (enumT 0 ts) ρ := by with_unfolding_all rfl
theorem Wp_iEnA : Wp (iEnA ga ρ) QT X = Wp (ga ρ) (fun xs ρ1 => enA QT (grounds xs) ρ1) X := by
  unfold iEnA; rw [Wp_bind]; refine Wp_cong fun xs ρ1 => ?_
  cases grounds xs with
  | none => with_unfolding_all rfl
  | some ts =>
    match ts with
    | [] | [.non] | [.bl _] | [.str _] | [.tup _] | [.int _] | [.ins _ _ _] | [.sq _] | [.lst _] | [.dct _] | [.tf _] => with_unfolding_all rfl
    | a :: b :: r => cases a <;> with_unfolding_all rfl
def hdK (o : Option Bool) (P R : Prop) (_ : Tag P := ⟨⟩) (_ : Tag R := ⟨⟩) : Prop := match o with | some true => P | some false => R | none => False
theorem hdK_t {P R : Prop} : hdK (some true) P R = P := by with_unfolding_all rfl
theorem hdK_f {P R : Prop} : hdK (some false) P R = R := by with_unfolding_all rfl
def hndX (hs : List HM) (Q : Fl → Ro → Prop) (X : EQ) : EQ := fun c ks ts ρ => Wp (hndM hs c ks ts ρ) Q X
theorem hndX_ev {hs : List HM} {Q : Fl → Ro → Prop} {c : Nat} {ks : List Nat} : hndX hs Q X c ks ts ρ = Wp (hndM hs c ks ts ρ) Q X := by with_unfolding_all rfl
theorem Wp_hndNil {Q : Fl → Ro → Prop} {c : Nat} {ks : List Nat} : Wp (hndM [] c ks ts ρ) Q X = X c ks ts ρ := by with_unfolding_all rfl
theorem Wp_hndAs {tab : List (Nat × Bool)} {i : Nat} {fs : SF} {r : List HM} {Q : Fl → Ro → Prop} {c : Nat} {ks : List Nat} : Wp (hndM ((tab, some i, fs) :: r) c ks ts ρ) Q X = hdK (tab.lookup c) (Wp (fs (ρ.set i (.exn c ks ts))) (fun fl ρ2 => Q fl (ρ2.set i .no)) (fun _ _ _ _ => False)) (Wp (hndM r c ks ts ρ) Q X) := by
  rw [hndM]; unfold hdK
  cases tab.lookup c with
  | none => with_unfolding_all rfl
  | some b =>
    cases b with
    | false => with_unfolding_all rfl
    | true => simp only; cases fs (ρ.set i (.exn c ks ts)) <;> with_unfolding_all rfl
theorem Wp_hndOnly {tab : List (Nat × Bool)} {fs : SF} {r : List HM} {Q : Fl → Ro → Prop} {c : Nat} {ks : List Nat} : Wp (hndM ((tab, none, fs) :: r) c ks ts ρ) Q X = hdK (tab.lookup c) (Wp (fs ρ) Q (fun _ _ _ _ => False)) (Wp (hndM r c ks ts ρ) Q X) := by
  rw [hndM]; unfold hdK
  cases tab.lookup c with
  | none => with_unfolding_all rfl
  | some b =>
    cases b with
    | false => with_unfolding_all rfl
    | true => simp only; cases fs ρ <;> with_unfolding_all rfl
theorem Wp_sTryH {hs : List HM} {fb : SF} {Q : Fl → Ro → Prop} : Wp (sTryH hs fb ρ) Q X = Wp (fb ρ) Q (hndX hs Q X) := by
  unfold sTryH
  cases fb ρ <;> with_unfolding_all rfl
def ownRK (c : Nat) (m : Ro → R EV) (x y : EV) (d e : Option T) (ρ : Ro) (Q : EV → Ro → Prop) (X : EQ) (_ : Tag Q := ⟨⟩) (_ : Tag X := ⟨⟩) : Prop := match d, e with
  | some t, some u => (isIntT t = true ∧ clsO u = some c) ∧ callA (argSl ρ [.v, .v] [y, x]) (okIx [.v, .v] [y, x]) [.v, .v] m [y, x] ρ Q X
  | _, _ => False
theorem ownRK_some {c : Nat} {x y : EV} {i : Int} {ks : List Nat} : ownRK c m x y (some (.int i)) (some (.ins c ks ts)) ρ Q X = callA (argSl ρ [.v, .v] [y, x]) (okIx [.v, .v] [y, x]) [.v, .v] m [y, x] ρ Q X := by simp [ownRK, isIntT, clsO]
theorem Wp_eOwnR {c : Nat} : Wp (eOwnR c m fa fb ρ) Q X = Wp (fa ρ) (fun x ρ1 => Wp (fb ρ1) (fun y ρ2 => ownRK c m x y (deref ρ2 x) (deref ρ2 y) ρ2 Q X) X) X := by
  unfold eOwnR; rw [Wp_bind]; refine Wp_cong fun x ρ1 => ?_; rw [Wp_bind]; refine Wp_cong fun y ρ2 => ?_
  cases deref ρ2 x with
  | none => with_unfolding_all rfl
  | some t =>
    cases deref ρ2 y with
    | none => cases t <;> with_unfolding_all rfl
    | some u =>
      cases t <;> cases u <;> simp only [ownRK, clsO, isIntT] <;> first | (simp [Wp]; done) | skip
      rename_i i c1 k1 t1
      by_cases h : c1 = c
      · rw [if_pos h, Wp_callM]; simp [h]
      · rw [if_neg h]; simp only [Wp, Option.some.injEq]; simp [h]
end
end VI


set_option Elab.async false
set_option linter.all false
set_option maxRecDepth 100000
set_option maxHeartbeats 4000000
namespace VI
open PySem L2 PySem.Spec
/-! ### slots, by place -/
section
variable {Q : EV → Ro → Prop} {QF : Fl → Ro → Prop} {X : EQ} {r : Ro} {t : T} {ts ys : List T} {c : Nat} {ks : List Nat}
variable {i : Nat} {ρ ρ1 : Ro} {ms : List Md} {xs : List EV}
def varK (i : Nat) (ρ : Ro) (Q : EV → Ro → Prop) (s : Option Sl) (_ : Tag Q := ⟨⟩) : Prop := match s with
  | some (.val t) => Q (.val t) ρ
  | some (.own _) => Q (.pk i) ρ
  | some (.io _) => Q (.pk i) ρ
  | some (.raw _ _ _) => Q (.pk i) ρ
  | some (.pin _) => Q (.pk i) ρ
  | _ => False
theorem k_varV : varK i ρ Q (some (.val t)) = Q (.val t) ρ := by with_unfolding_all rfl
theorem k_varO : varK i ρ Q (some (.own ts)) = Q (.pk i) ρ := by with_unfolding_all rfl
theorem k_varI : varK i ρ Q (some (.io ts)) = Q (.pk i) ρ := by with_unfolding_all rfl
theorem k_varR : varK i ρ Q (some (.raw c ks ts)) = Q (.pk i) ρ := by with_unfolding_all rfl
theorem k_varP : varK i ρ Q (some (.pin t)) = Q (.pk i) ρ := by with_unfolding_all rfl
theorem Wp_eVar : Wp (eVar i ρ) Q X = varK i ρ Q ρ[i]? := by
  unfold eVar varK
  cases ρ[i]? with
  | none => with_unfolding_all rfl
  | some s => cases s <;> with_unfolding_all rfl
def varF (i : Nat) (ρ : Ro) (Q : EV → Ro → Prop) (s : Option Sl) (_ : Tag Q := ⟨⟩) : Prop := match s with
  | some (.val t) => Q (.val t) ρ
  | some (.own xs) => Q (.val (.lst xs)) (ρ.set i (.val (.lst xs)))
  | _ => False
theorem k_vafV : varF i ρ Q (some (.val t)) = Q (.val t) ρ := by with_unfolding_all rfl
theorem k_vafO : varF i ρ Q (some (.own ts)) = Q (.val (.lst ts)) (ρ.set i (.val (.lst ts))) := by with_unfolding_all rfl
theorem Wp_eVarF : Wp (eVarF i ρ) Q X = varF i ρ Q ρ[i]? := by
  unfold eVarF varF
  cases ρ[i]? with
  | none => with_unfolding_all rfl
  | some s => cases s <;> with_unfolding_all rfl
theorem k_setV : setK i QF (.val t) ρ = QF .nx (ρ.set i (.val t)) := by with_unfolding_all rfl
theorem k_setO : setK i QF (.own ts) ρ = QF .nx (ρ.set i (.own ts)) := by with_unfolding_all rfl
def derO (s : Option Sl) : Option T := match s with
  | some (.val t) => some t
  | some (.own xs) => some (.lst xs)
  | some (.io xs) => some (.lst xs)
  | some (.raw c ks ts) => some (.ins c ks ts)
  | some (.pin t) => some t
  | _ => none
theorem k_der : deref ρ (.pk i) = derO ρ[i]? := by
  simp only [deref, derO] <;> (cases ρ[i]? with
  | none => with_unfolding_all rfl
  | some s => cases s <;> with_unfolding_all rfl)
theorem k_derV : derO (some (.val t)) = some t := by with_unfolding_all rfl
theorem k_derO : derO (some (.own ts)) = some (.lst ts) := by with_unfolding_all rfl
theorem k_derI : derO (some (.io ts)) = some (.lst ts) := by with_unfolding_all rfl
theorem k_derR : derO (some (.raw c ks ts)) = some (.ins c ks ts) := by with_unfolding_all rfl
theorem k_derP : derO (some (.pin t)) = some t := by with_unfolding_all rfl
def argV (s : Option Sl) : Option Sl := match s with
  | some (.own xs) => some (.pin (.lst xs))
  | some (.io xs) => some (.pin (.lst xs))
  | some (.raw c ks ts) => some (.pin (.ins c ks ts))
  | some (.pin t) => some (.pin t)
  | some (.val t) => some (.val t)
  | _ => none
def argI (s : Option Sl) : Option Sl := match s with
  | some (.own xs) => some (.io xs)
  | some (.io xs) => some (.io xs)
  | some (.raw c ks ts) => some (.raw c ks ts)
  | _ => none
theorem k_argV : argS ρ .v (.pk i) = argV ρ[i]? := by
  simp only [argS, argV] <;> (cases ρ[i]? with
  | none => with_unfolding_all rfl
  | some s => cases s <;> with_unfolding_all rfl)
theorem k_argI : argS ρ .io (.pk i) = argI ρ[i]? := by
  simp only [argS, argI] <;> (cases ρ[i]? with
  | none => with_unfolding_all rfl
  | some s => cases s <;> with_unfolding_all rfl)
theorem k_agvO : argV (some (.own ts)) = some (.pin (.lst ts)) := by with_unfolding_all rfl
theorem k_agvI : argV (some (.io ts)) = some (.pin (.lst ts)) := by with_unfolding_all rfl
theorem k_agvR : argV (some (.raw c ks ts)) = some (.pin (.ins c ks ts)) := by with_unfolding_all rfl
theorem k_agvP : argV (some (.pin t)) = some (.pin t) := by with_unfolding_all rfl
theorem k_agvV : argV (some (.val t)) = some (.val t) := by with_unfolding_all rfl
theorem k_agiO : argI (some (.own ts)) = some (.io ts) := by with_unfolding_all rfl
theorem k_agiI : argI (some (.io ts)) = some (.io ts) := by with_unfolding_all rfl
theorem k_agiR : argI (some (.raw c ks ts)) = some (.raw c ks ts) := by with_unfolding_all rfl
theorem k_lat : listAt ρ i = ρ[i]?.bind lstOf := by with_unfolding_all rfl
theorem k_lsO : lstOf (.own ts) = some ts := by with_unfolding_all rfl
theorem k_lsI : lstOf (.io ts) = some ts := by with_unfolding_all rfl
def putO (ρ : Ro) (i : Nat) (ys : List T) (s : Option Sl) : Ro := match s with | some s => ρ.set i (putL s ys) | none => ρ
theorem k_put : putAt ρ i ys = putO ρ i ys ρ[i]? := by unfold putAt putO; cases ρ[i]? <;> with_unfolding_all rfl
theorem k_ptO : putO ρ i ys (some (.own ts)) = ρ.set i (.own ys) := by with_unfolding_all rfl
theorem k_ptI : putO ρ i ys (some (.io ts)) = ρ.set i (.io ys) := by with_unfolding_all rfl
def stO (s : Option Sl) : Option T := match s with | some (.pin t) => some t | _ => none
theorem k_stl : still ρ (.pk i) = stO ρ[i]? := by
  simp only [still, stO] <;> (cases ρ[i]? with
  | none => with_unfolding_all rfl
  | some s => cases s <;> with_unfolding_all rfl)
theorem k_stP : stO (some (.pin t)) = some t := by with_unfolding_all rfl
def bkO (s : Option Sl) (s' : Sl) (ρ : Ro) (i : Nat) (ms : List Md) (xs : List EV) (ρ1 : Ro) : Option Ro := match s with
  | some s => (match putBack s s' with
    | some s2 => backs (ρ.set i s2) ms xs ρ1
    | none => none)
  | none => none
theorem k_bk {s' : Sl} : backs ρ (.io :: ms) (.pk i :: xs) (s' :: ρ1) = bkO ρ[i]? s' ρ i ms xs ρ1 := by
  rw [backs]; unfold bkO
  cases ρ[i]? with
  | none => with_unfolding_all rfl
  | some s => first | with_unfolding_all rfl | (simp only; done) | (simp only; cases putBack s s' <;> with_unfolding_all rfl)
theorem k_bkO : bkO (some (.own ts)) (.io ys) ρ i ms xs ρ1 = backs (ρ.set i (.own ys)) ms xs ρ1 := by with_unfolding_all rfl
theorem k_bkI : bkO (some (.io ts)) (.io ys) ρ i ms xs ρ1 = backs (ρ.set i (.io ys)) ms xs ρ1 := by with_unfolding_all rfl
theorem k_bkR {ks' : List Nat} : bkO (some (.raw c ks ts)) (.raw c ks' ys) ρ i ms xs ρ1 = backs (ρ.set i (.raw c ks' ys)) ms xs ρ1 := by simp [bkO, putBack]
theorem k_gNm : gNm i t ρ = some (ρ.set i (.val t)) := by with_unfolding_all rfl
end
/-! ### operators, by kind -/
section
variable {i j : Int} {b d : Bool} {x y : Str} {ts us : List T}
theorem o_addI : opAdd (.int i) (.int j) = .v (.int (i + j)) := by with_unfolding_all rfl
theorem o_addL (h : ts.length + us.length ≤ 100000) : opAdd (.lst ts) (.lst us) = .l (ts ++ us) := by simp [opAdd, h]
theorem o_addT {t u : T} (h : (t :: ts).length + (u :: us).length ≤ 100000) : opAdd (.tup (t :: ts)) (.tup (u :: us)) = .u (t :: ts ++ u :: us) := by
  unfold opAdd; simp only; rw [if_pos h]
theorem o_pow6 : opPow (.int 10) (.int 6) = .v (.int 1000000) := by simp [opPow]
theorem o_pow5 : opPow (.int 10) (.int 5) = .v (.int 100000) := by simp [opPow]
theorem o_sub : opSub (.int i) (.int j) = .v (.int (i - j)) := by with_unfolding_all rfl
theorem bigOk64 (h1 : -18446744073709551616 < i) (h2 : i < 18446744073709551616) : bigOk i = true := bigOk_of (by omega) (by omega)
theorem o_mul (h1 : -18446744073709551616 < i) (h2 : i < 18446744073709551616) (h3 : -18446744073709551616 < j) (h4 : j < 18446744073709551616) : opMul (.int i) (.int j) = .v (.int (i * j)) := by
  unfold opMul; simp only; rw [if_pos ⟨bigOk64 h1 h2, bigOk64 h3 h4⟩]
theorem o_mulL (h0 : -100000 ≤ j) (h1 : ts.length * j.toNat ≤ 100000) (h2 : j ≤ 100000) : opMul (.lst ts) (.int j) = .l (List.replicate j.toNat ts).flatten := by
  unfold opMul; simp only; rw [if_pos ⟨h0, h1, h2⟩]
theorem o_fdiv (h1 : 0 < j) (h2 : j < 18446744073709551616) : opFdiv (.int i) (.int j) = .v (.int (i / j)) := by
  unfold opFdiv; simp only; rw [if_pos (divOk_of h1 (by omega))]
theorem o_mod (h1 : 0 < j) : opMod (.int i) (.int j) = .v (.int (i % j)) := by unfold opMod; simp only; rw [if_pos h1]
theorem o_neg : opNeg (.int i) = .v (.int (-i)) := by with_unfolding_all rfl
theorem o_lt : opLt (.int i) (.int j) = .v (.bl (decide (i < j))) := by with_unfolding_all rfl
theorem o_le : opLe (.int i) (.int j) = .v (.bl (decide (i ≤ j))) := by with_unfolding_all rfl
theorem o_gt : opGt (.int i) (.int j) = .v (.bl (decide (j < i))) := by with_unfolding_all rfl
theorem o_ge : opGe (.int i) (.int j) = .v (.bl (decide (j ≤ i))) := by with_unfolding_all rfl
theorem o_abs : bAbs [.int i] = .v (.int (if i < 0 then -i else i)) := by with_unfolding_all rfl
theorem o_int : bInt [.int i] = .v (.int i) := by with_unfolding_all rfl
theorem o_intB : bInt [.bl b] = .v (.int (if b = true then 1 else 0)) := by cases b <;> with_unfolding_all rfl
theorem o_min : bMin [.int i, .int j] = .v (.int (if j < i then j else i)) := by with_unfolding_all rfl
theorem o_max : bMax [.int i, .int j] = .v (.int (if j > i then j else i)) := by with_unfolding_all rfl
theorem o_lenL : bLen [.lst ts] = .v (.int ts.length) := by with_unfolding_all rfl
theorem o_lenT : bLen [.tup ts] = .v (.int ts.length) := by with_unfolding_all rfl
theorem o_lenQ : bLen [.sq ts] = .v (.int ts.length) := by with_unfolding_all rfl
theorem o_lenS (h : x.length ≤ 100000) : bLen [.str x] = .v (.int x.length) := by simp only [bLen, h, if_true]
theorem o_inS {c : Nat} : opInS false (.str (sg c)) (.str x) = .v (.bl (decide (c ∈ x.cps.toList))) := by with_unfolding_all rfl
theorem o_notInS {c : Nat} : opInS true (.str (sg c)) (.str x) = .v (.bl (!decide (c ∈ x.cps.toList))) := by with_unfolding_all rfl
theorem o_listL : bList [.lst ts] = .l ts := by with_unfolding_all rfl
theorem o_listT : bList [.tup ts] = .l ts := by with_unfolding_all rfl
theorem o_listQ : bList [.sq ts] = .l ts := by with_unfolding_all rfl
theorem o_tupL : bTuple [.lst ts] = .u ts := by with_unfolding_all rfl
theorem o_tupQ : bTuple [.sq ts] = .u ts := by with_unfolding_all rfl
theorem o_tupT : bTuple [.tup ts] = .v (.tup ts) := by with_unfolding_all rfl
theorem o_boolT : bBool [.tup ts] = .v (.bl (!ts.isEmpty)) := by with_unfolding_all rfl
theorem o_boolL : bBool [.lst ts] = .v (.bl (!ts.isEmpty)) := by with_unfolding_all rfl
theorem o_rev : oRev (.lst ts) = .l ts.reverse := by with_unfolding_all rfl
theorem o_revT : oRevT (.tup ts) = .u ts.reverse := by with_unfolding_all rfl
theorem o_rg1 (h0 : 0 ≤ j) (h : j ≤ 100000) : oRg1 (.int j) = .l (rangeT 0 j.toNat) := by
  have : -(2 ^ 62) ≤ j ∧ j ≤ 100000 := by omega
  unfold oRg1; simp only; rw [if_pos this]
theorem o_rg2 (h0 : -4611686018427387904 ≤ i) (h1 : i < 4611686018427387904) (h2 : -4611686018427387904 ≤ j) (h3 : j < 4611686018427387904) (h4 : j - i ≤ 100000) : oRg2 (.int i) (.int j) = .l (rangeT i (j - i).toNat) := by
  have : -(2 ^ 62) ≤ i ∧ i < 2 ^ 62 ∧ -(2 ^ 62) ≤ j ∧ j < 2 ^ 62 ∧ j - i ≤ 100000 := by omega
  unfold oRg2; simp only; rw [if_pos this]
theorem intsT_ints : ∀ ns : List Int, intsT (ns.map T.int) = some ns
  | [] => rfl
  | n :: ns => by simp [intsT, intsT_ints ns]
theorem blsT_bls : ∀ ns : List Bool, blsT (ns.map T.bl) = some ns
  | [] => rfl
  | n :: ns => by simp [blsT, blsT_bls ns]
theorem o_sum {ns : List Int} : bSum [.lst (ns.map T.int)] = .v (.int ns.sum) := by simp only [bSum, intsT_ints]
theorem o_maxL {ns : List Int} (h : ns ≠ []) : bMaxL [.lst (ns.map T.int)] = .v (.int (maxI ns)) := by
  have : ns.isEmpty = false := by simpa using h
  simp only [bMaxL, intsT_ints, this]; simp
theorem o_minL {ns : List Int} (h : ns ≠ []) : bMinL [.lst (ns.map T.int)] = .v (.int (minI ns)) := by
  have : ns.isEmpty = false := by simpa using h
  simp only [bMinL, intsT_ints, this]; simp
theorem o_any {ns : List Bool} : bAny [.lst (ns.map T.bl)] = .v (.bl (ns.any id)) := by simp only [bAny, blsT_bls]
theorem o_all {ns : List Bool} : bAll [.lst (ns.map T.bl)] = .v (.bl (ns.all id)) := by simp only [bAll, blsT_bls]
def mn3 (p q : Int × Int × Int) : Int × Int × Int := if ltI [q.1, q.2.1, q.2.2] [p.1, p.2.1, p.2.2] then q else p
theorem o_minT3 {a b c x y z : Int} : bMinT [.tup [.int a, .int b, .int c], .tup [.int x, .int y, .int z]] = .v (.tup [.int (mn3 (a, b, c) (x, y, z)).1, .int (mn3 (a, b, c) (x, y, z)).2.1, .int (mn3 (a, b, c) (x, y, z)).2.2]) := by
  simp only [bMinT, intsT, Option.map_some, mn3]
  by_cases h : ltI [x, y, z] [a, b, c] = true
  · rw [if_pos h, if_pos h]
  · rw [if_neg h, if_neg h]
theorem o_sortedP {ps : List (Int × Int)} : bSortedP [.lst (ps.map pairT)] = .l ((srtP ps).map pairT) := by simp only [bSortedP, pairsT_pairs]
theorem o_sorted {ns : List Int} : bSorted [.lst (ns.map T.int)] = .l ((srt ns).map T.int) := by simp only [bSorted, intsT_ints]
def rng (L : Int) : List Int := (List.range L.toNat).map fun i : Nat => (i : Int)
theorem rangeT_rng {L : Int} : rangeT 0 L.toNat = (rng L).map T.int := by simp [rangeT, rng]
theorem mem_rng {L i : Int} : i ∈ rng L ↔ 0 ≤ i ∧ i < L := by
  simp only [rng, List.mem_map, List.mem_range]
  constructor
  · rintro ⟨n, h, rfl⟩; omega
  · rintro ⟨h1, h2⟩; exact ⟨i.toNat, by omega, by omega⟩
theorem len_rng {L : Int} : (rng L).length = L.toNat := by simp [rng]
theorem o_gcd : bGcd [.int i, .int j] = .v (.int ((Nat.gcd i.natAbs j.natAbs : Nat) : Int)) := by with_unfolding_all rfl
theorem cut_lo {ts : List T} (h : 0 ≤ i) : cutL ts (some i) none = ts.drop i.toNat := by
  have e1 : HT.sIx ts.length ts.length none = ts.length := rfl
  have e2 : HT.sIx ts.length 0 (some i) = min i.toNat ts.length := by unfold HT.sIx; simp only; rw [if_neg (by omega)]
  unfold cutL; rw [e1, e2]
  rcases Nat.le_total i.toNat ts.length with h1 | h1
  · rw [Nat.min_eq_left h1, List.take_of_length_le]; rw [List.length_drop]; omega
  · rw [Nat.min_eq_right h1, List.drop_of_length_le h1, List.drop_of_length_le (Nat.le_refl _)]; simp
theorem cut_hi {ts : List T} (h : 0 ≤ i) : cutL ts none (some i) = ts.take i.toNat := by
  have e1 : HT.sIx ts.length 0 none = 0 := rfl
  have e2 : HT.sIx ts.length ts.length (some i) = min i.toNat ts.length := by unfold HT.sIx; simp only; rw [if_neg (by omega)]
  unfold cutL; rw [e1, e2, List.drop_zero, Nat.sub_zero]
  rcases Nat.le_total i.toNat ts.length with h1 | h1
  · rw [Nat.min_eq_left h1]
  · rw [Nat.min_eq_right h1, List.take_of_length_le (Nat.le_refl _), List.take_of_length_le h1]
theorem o_cutLo {ts : List T} (h : 0 ≤ i) : cutT (.lst ts) (some i) none = .l (ts.drop i.toNat) := by unfold cutT; simp only; rw [cut_lo h]
theorem o_cutHi {ts : List T} (h : 0 ≤ i) : cutT (.lst ts) none (some i) = .l (ts.take i.toNat) := by unfold cutT; simp only; rw [cut_hi h]
theorem o_cutHiT {Q : EV → Ro → Prop} {ρ : Ro} (h : 0 ≤ i) : outK (cutT (.tup ts) none (some i)) Q ρ = Q (.val (.tup (ts.take i.toNat))) ρ := by
  have e := cut_hi (ts := ts) h
  unfold cutT; simp only
  by_cases c : HT.sIx ts.length 0 none = 0 ∧ HT.sIx ts.length ts.length (some i) = ts.length
  · rw [if_pos c]
    have e2 : cutL ts none (some i) = ts := by unfold cutL; rw [c.1, c.2]; simp
    rw [← e, e2]; with_unfolding_all rfl
  · rw [if_neg c, e]; with_unfolding_all rfl
theorem o_cutLoT {Q : EV → Ro → Prop} {ρ : Ro} (h : 0 ≤ i) : outK (cutT (.tup ts) (some i) none) Q ρ = Q (.val (.tup (ts.drop i.toNat))) ρ := by
  have e := cut_lo (ts := ts) h
  unfold cutT; simp only
  by_cases c : HT.sIx ts.length 0 (some i) = 0 ∧ HT.sIx ts.length ts.length none = ts.length
  · rw [if_pos c]
    have e2 : cutL ts (some i) none = ts := by unfold cutL; rw [c.1, c.2]; simp
    rw [← e, e2]; with_unfolding_all rfl
  · rw [if_neg c, e]; with_unfolding_all rfl
theorem o_tkMap {α : Type} {f : α → T} {xs : List α} {n : Nat} : (xs.map f).take n = (xs.take n).map f := List.map_take.symm
theorem o_drMap {α : Type} {f : α → T} {xs : List α} {n : Nat} : (xs.map f).drop n = (xs.drop n).map f := List.map_drop.symm
theorem flat_strs' : ∀ xs : List Str, (xs.map T.str).all flatT = true
  | [] => rfl
  | x :: xs => by simp [flatT, flat_strs' xs]
theorem inT_strs (x : Str) : ∀ xs : List Str, inT (.str x) (xs.map T.str) = decide (x ∈ xs)
  | [] => by simp [inT]
  | n :: ns => by
    have ih := inT_strs x ns
    unfold inT at ih ⊢
    rw [List.map_cons, List.any_cons, ih]
    simp only [toV, eqV]
    by_cases h1 : n = x
    · subst h1; simp
    · have h2 : (n == x) = false := beq_eq_false_iff_ne.mpr h1
      have h3 : (x ∈ n :: ns) ↔ x ∈ ns := ⟨fun z => (List.mem_cons.mp z).elim (fun e => absurd e.symm h1) id, List.mem_cons_of_mem _⟩
      rw [h2, Bool.false_or]
      exact decide_eq_decide.mpr h3.symm
theorem o_inLs {xs : List Str} : opIn false (.str x) (.lst (xs.map T.str)) = .v (.bl (decide (x ∈ xs))) := by
  simp only [opIn]; rw [if_pos ⟨rfl, flat_strs' xs⟩, inT_strs]; rfl
theorem o_inTs {xs : List Str} : opIn false (.str x) (.tup (xs.map T.str)) = .v (.bl (decide (x ∈ xs))) := by
  simp only [opIn]; rw [if_pos ⟨rfl, flat_strs' xs⟩, inT_strs]; rfl
def rngN (n : Nat) : List Nat := List.range n
theorem rangeT_from {i : Int} {n : Nat} : rangeT i n = (List.range n).map fun k : Nat => T.int (i + (k : Int)) := rfl
theorem len_rangeT (i : Int) (n : Nat) : (rangeT i n).length = n := by simp [rangeT]
/-! items -/
def nth {α : Type} [Inhabited α] (xs : List α) (i : Int) : α := (xs[i.toNat]?).getD default
instance : Inhabited T := ⟨.non⟩
theorem nth_map {α β : Type} [Inhabited α] [Inhabited β] {f : α → β} {xs : List α} (h0 : 0 ≤ i) (h : i < xs.length) : nth (xs.map f) i = f (nth xs i) := by
  have : i.toNat < xs.length := by omega
  simp [nth, List.getElem?_map, List.getElem?_eq_getElem this]
theorem nth_get {α : Type} [Inhabited α] {xs : List α} (h0 : 0 ≤ i) (h : i < xs.length) : xs[i.toNat]? = some (nth xs i) := by
  have : i.toNat < xs.length := by omega
  simp [nth, List.getElem?_eq_getElem this]
theorem ix_ok {ts : List T} (h0 : 0 ≤ i) (h : i < ts.length) : ((atIx ts.length i).bind fun j => ts[j]?) = some (nth ts i) := by
  simp only [atIx, h0, h, if_true, Option.bind_some]; exact nth_get h0 h
theorem o_ixL {α : Type} [Inhabited α] {f : α → T} {xs : List α} (h0 : 0 ≤ i) (h : i < xs.length) : opIx (.lst (xs.map f)) (.int i) = .v (f (nth xs i)) := by
  unfold opIx; simp only; rw [ix_ok h0 (by simpa using h), nth_map h0 h]
theorem o_ixT {α : Type} [Inhabited α] {f : α → T} {xs : List α} (h0 : 0 ≤ i) (h : i < xs.length) : opIx (.tup (xs.map f)) (.int i) = .v (f (nth xs i)) := by
  unfold opIx; simp only; rw [ix_ok h0 (by simpa using h), nth_map h0 h]
theorem o_ixQ {α : Type} [Inhabited α] {f : α → T} {xs : List α} (h0 : 0 ≤ i) (h : i < xs.length) : opIx (.sq (xs.map f)) (.int i) = .v (f (nth xs i)) := by
  unfold opIx; simp only; rw [ix_ok h0 (by simpa using h), nth_map h0 h]
theorem ix_neg {ts : List T} (h0 : i < 0) (h : -(ts.length : Int) ≤ i) : ((atIx ts.length i).bind fun j => ts[j]?) = some (nth ts (i + ts.length)) := by
  have h1 : ¬ 0 ≤ i := by omega
  simp only [atIx, h1, h, if_true, if_false, Option.bind_some]; exact nth_get (by omega) (by omega)
theorem o_ixLn {α : Type} [Inhabited α] {f : α → T} {xs : List α} (h0 : i < 0) (h : -(xs.length : Int) ≤ i) : opIx (.lst (xs.map f)) (.int i) = .v (f (nth xs (i + xs.length))) := by
  simp only [opIx, ix_neg (ts := xs.map f) h0 (by simpa using h)]; rw [List.length_map, nth_map (by omega) (by omega)]
theorem o_ixTn {α : Type} [Inhabited α] {f : α → T} {xs : List α} (h0 : i < 0) (h : -(xs.length : Int) ≤ i) : opIx (.tup (xs.map f)) (.int i) = .v (f (nth xs (i + xs.length))) := by
  simp only [opIx, ix_neg (ts := xs.map f) h0 (by simpa using h)]; rw [List.length_map, nth_map (by omega) (by omega)]
theorem o_ixL0 {t : T} : opIx (.lst (t :: ts)) (.int 0) = .v t := by simp [opIx, atIx]
theorem o_ixL1 {t t1 : T} : opIx (.lst (t :: t1 :: ts)) (.int 1) = .v t1 := by
  have h : (1 : Int) < ((t :: t1 :: ts).length : Int) := by simp only [List.length_cons]; omega
  unfold opIx; simp only; rw [ix_ok (by omega) h]; with_unfolding_all rfl
theorem o_ixL2 {t t1 t2 : T} : opIx (.lst (t :: t1 :: t2 :: ts)) (.int 2) = .v t2 := by
  have h : (2 : Int) < ((t :: t1 :: t2 :: ts).length : Int) := by simp only [List.length_cons]; omega
  unfold opIx; simp only; rw [ix_ok (by omega) h]; with_unfolding_all rfl
theorem o_ixL3 {t t1 t2 t3 : T} : opIx (.lst (t :: t1 :: t2 :: t3 :: ts)) (.int 3) = .v t3 := by
  have h : (3 : Int) < ((t :: t1 :: t2 :: t3 :: ts).length : Int) := by simp only [List.length_cons]; omega
  unfold opIx; simp only; rw [ix_ok (by omega) h]; with_unfolding_all rfl
theorem o_ixT0 {t : T} : opIx (.tup (t :: ts)) (.int 0) = .v t := by simp [opIx, atIx]
theorem o_ixT1 {t t1 : T} : opIx (.tup (t :: t1 :: ts)) (.int 1) = .v t1 := by
  have h : (1 : Int) < ((t :: t1 :: ts).length : Int) := by simp only [List.length_cons]; omega
  unfold opIx; simp only; rw [ix_ok (by omega) h]; with_unfolding_all rfl
theorem o_ixT2 {t t1 t2 : T} : opIx (.tup (t :: t1 :: t2 :: ts)) (.int 2) = .v t2 := by
  have h : (2 : Int) < ((t :: t1 :: t2 :: ts).length : Int) := by simp only [List.length_cons]; omega
  unfold opIx; simp only; rw [ix_ok (by omega) h]; with_unfolding_all rfl
theorem o_ixT3 {t t1 t2 t3 : T} : opIx (.tup (t :: t1 :: t2 :: t3 :: ts)) (.int 3) = .v t3 := by
  have h : (3 : Int) < ((t :: t1 :: t2 :: t3 :: ts).length : Int) := by simp only [List.length_cons]; omega
  unfold opIx; simp only; rw [ix_ok (by omega) h]; with_unfolding_all rfl
end
section
variable {i : Int} {ts : List T}
theorem o_ixR (h0 : 0 ≤ i) (h : i < ts.length) : opIx (.lst ts) (.int i) = .v (nth ts i) := by
  unfold opIx; simp only; rw [ix_ok h0 h]
theorem o_ixRT (h0 : 0 ≤ i) (h : i < ts.length) : opIx (.tup ts) (.int i) = .v (nth ts i) := by
  unfold opIx; simp only; rw [ix_ok h0 h]
theorem plain_no : Sl.plain .no = true := by with_unfolding_all rfl
theorem plain_val {t : T} : Sl.plain (.val t) = true := by with_unfolding_all rfl
theorem mark1 {b : Bool} : decide ((if b = true then (1 : Int) else 0) = 1) = b := by cases b <;> rfl
theorem mark1' {b : Bool} : ((if b = true then (1 : Int) else 0) = 1) = (b = true) := by cases b <;> simp
theorem opNotIn_tu {x : Int} {ns : List Int} : opIn true (.int x) (.tup (ns.map T.int)) = .v (.bl (!decide (x ∈ ns))) := by
  simp only [opIn]; rw [if_pos ⟨by rfl, flat_ints ns⟩, inT_ints]; rfl
theorem pds_bls : ∀ ns : List Bool, pds (ns.map T.bl) = some (ns.map PyData.bool)
  | [] => rfl
  | n :: ns => by simp [pds, pd, pds_bls ns]
theorem shaped_lb (ns : List Bool) : SeqAt.shaped (.list (ns.map PyData.bool)) = true := by
  have h1 : ∀ ns : List Bool, PyData.canLayAll0 (ns.map PyData.bool) = true := fun ns => by induction ns with
    | nil => simp [PyData.canLayAll0]
    | cons n ns ih => simp [PyData.canLayAll0, PyData.canLay0, ih]
  have h2 : ∀ ns : List Bool, PyData.depthAll (ns.map PyData.bool) = 0 := fun ns => by induction ns with
    | nil => simp [PyData.depthAll]
    | cons n ns ih => simp [PyData.depthAll, PyData.depth, ih]
  simp [SeqAt.shaped, PyData.canLay0, PyData.depth, h1, h2]
theorem eqvAll_bls : ∀ xs ys : List Bool, PyData.eqvAll (xs.map PyData.bool) (ys.map PyData.bool) = decide (xs = ys)
  | [], [] => by simp [PyData.eqvAll]
  | [], y :: ys => by simp [PyData.eqvAll]
  | x :: xs, [] => by simp [PyData.eqvAll]
  | x :: xs, y :: ys => by
    simp only [List.map_cons, PyData.eqvAll, eqv_bl, eqvAll_bls xs ys, List.cons.injEq]
    by_cases h1 : x = y <;> by_cases h2 : xs = ys <;> simp [h1, h2]
theorem neD_bls (xs ys : List Bool) : eqD true (.lst (xs.map T.bl)) (.lst (ys.map T.bl)) = .v (.bl (!decide (xs = ys))) := by
  simp only [eqD, pd, pds_bls, Option.map_some]
  rw [if_pos ⟨shaped_lb xs, shaped_lb ys⟩]
  simp only [PyData.eqv, eqvAll_bls]; rfl
theorem neD_lb {a b c d a' b' c' d' : Bool} : eqD true (.lst [.bl a, .bl b, .bl c, .bl d]) (.lst [.bl a', .bl b', .bl c', .bl d']) = .v (.bl (!decide ([a, b, c, d] = [a', b', c', d']))) := neD_bls [a, b, c, d] [a', b', c', d']
theorem q_tf : (true == false) = false := by with_unfolding_all rfl
theorem q_ft : (false == true) = false := by with_unfolding_all rfl
theorem nth_0 {α : Type} [Inhabited α] {a : α} {r : List α} : nth (a :: r) 0 = a := by with_unfolding_all rfl
theorem nth_1 {α : Type} [Inhabited α] {a b : α} {r : List α} : nth (a :: b :: r) 1 = b := by with_unfolding_all rfl
theorem nth_2 {α : Type} [Inhabited α] {a b c : α} {r : List α} : nth (a :: b :: c :: r) 2 = c := by with_unfolding_all rfl
theorem nth_3 {α : Type} [Inhabited α] {a b c d : α} {r : List α} : nth (a :: b :: c :: d :: r) 3 = d := by with_unfolding_all rfl
theorem nth_mem {α : Type} [Inhabited α] {xs : List α} (h0 : 0 ≤ i) (h : i < xs.length) : nth xs i ∈ xs := List.mem_of_getElem? (nth_get h0 h)
theorem nth_rng {L : Int} (h0 : 0 ≤ i) (h : i < L) : nth (rng L) i = i := by
  have : i.toNat < L.toNat := by omega
  simp only [nth, rng, List.getElem?_map, List.getElem?_range this]
  simp; omega
/-- a list of marks -/
abbrev mk (L : Int) (p : Int → Bool) : List T := (rng L).map fun i => T.int (if p i = true then 1 else 0)
theorem mk_set {L : Int} {p : Int → Bool} (h0 : 0 ≤ i) (h : i < L) : (mk L p).set i.toNat (.int 1) = mk L fun j => p j || decide (j = i) := by
  refine List.ext_getElem? fun k => ?_
  by_cases hk : k < L.toNat
  · have e : ∀ q : Int → Bool, (mk L q)[k]? = some (.int (if q k = true then 1 else 0)) := fun q => by
      simp only [mk, rng, List.map_map, List.getElem?_map, List.getElem?_range hk]; with_unfolding_all rfl
    rw [e]
    by_cases hi : i.toNat = k
    · subst hi
      rw [List.getElem?_set_self (by simp only [mk, List.length_map, len_rng]; exact hk)]
      have : ((i.toNat : Nat) : Int) = i := by omega
      simp [this]
    · rw [List.getElem?_set_ne hi, e]
      have : ¬ ((k : Nat) : Int) = i := by omega
      simp [this]
  · rw [List.getElem?_eq_none (by simp only [List.length_set, mk, List.length_map, len_rng]; omega), List.getElem?_eq_none (by simp only [mk, List.length_map, len_rng]; omega)]
theorem mk_zero {L : Int} : (List.replicate L.toNat [T.int 0]).flatten = mk L fun _ => false := by
  refine List.ext_getElem? fun k => ?_
  have e1 : (List.replicate L.toNat [T.int 0]).flatten = List.replicate L.toNat (T.int 0) := by
    induction L.toNat with
    | zero => with_unfolding_all rfl
    | succ k ih => rw [List.replicate_succ, List.flatten_cons, ih, List.replicate_succ]; with_unfolding_all rfl
  rw [e1]
  by_cases hk : k < L.toNat
  · simp only [mk, rng, List.map_map, List.getElem?_map, List.getElem?_range hk]
    rw [List.getElem?_replicate, if_pos hk]; with_unfolding_all rfl
  · rw [List.getElem?_eq_none (by simp; omega), List.getElem?_eq_none (by simp only [mk, List.length_map, len_rng]; omega)]
theorem strShaped (x : Str) (h : PyData.canLay0 (.str x) = true) : SeqAt.shaped (.str x) = true := by simp [SeqAt.shaped, h, PyData.depth]
theorem eqv_str (x y : Str) : PyData.eqv (.str x) (.str y) = decide (x = y) := by first | rfl | simp [PyData.eqv] | (simp [PyData.eqv]; exact beq_eq_decide _ _)
theorem eqD_str {x y : Str} (hx : PyData.canLay0 (.str x) = true) (hy : PyData.canLay0 (.str y) = true) : eqD false (.str x) (.str y) = .v (.bl (decide (x = y))) := by
  simp only [eqD, pd]; rw [if_pos ⟨strShaped x hx, strShaped y hy⟩, eqv_str]; with_unfolding_all rfl
theorem neD_str {x y : Str} (hx : PyData.canLay0 (.str x) = true) (hy : PyData.canLay0 (.str y) = true) : eqD true (.str x) (.str y) = .v (.bl (!decide (x = y))) := by
  simp only [eqD, pd]; rw [if_pos ⟨strShaped x hx, strShaped y hy⟩, eqv_str]; with_unfolding_all rfl
end
theorem wp_end {r : R EV} {v : EV} (h : Wp r (fun x _ => x = v) fun _ _ _ _ => False) : ∃ ρ, r = .ok v ρ := by
  cases r with
  | ok x ρ => rw [Wp_ok] at h; cases h; exact ⟨ρ, rfl⟩
  | ex c ks ts ρ => rw [Wp_ex] at h; exact h.elim
  | bad => rw [Wp_bad] at h; exact h.elim
theorem seqW {f g : SF} {ρ : Ro} {Q : Fl → Ro → Prop} {X : EQ} (h : ∀ K : Fl → Ro → Prop, (∀ ρ', Wp (g ρ') Q X → K .nx ρ') → (∀ x ρ', Q (.rt x) ρ' → K (.rt x) ρ') → (∀ ρ', Q .bk ρ' → K .bk ρ') → (∀ ρ', Q .ct ρ' → K .ct ρ') → Wp (f ρ) K X) : Wp (sSeq f g ρ) Q X := by
  rw [Wp_sSeq]; exact h (sqK g Q X) (fun _ h => h) (fun _ _ h => h) (fun _ h => h) (fun _ h => h)
/-! ### loops, by a word -/
section
variable {α : Type} {Q : Fl → Ro → Prop} {X : EQ}
theorem wp_for (enc : α → T) (xs : List α) {g : T → Ro → Option Ro} {f : SF} (I : List α → List α → Ro → Prop) {ρ : Ro} (h0 : I [] xs ρ)
    (hs : ∀ done x rest ρ, xs = done ++ x :: rest → I done (x :: rest) ρ → ∃ ρ1, g (enc x) ρ = some ρ1 ∧ Wp (f ρ1) (fun fl ρ2 => match fl with | .nx => I (done ++ [x]) rest ρ2 | .ct => I (done ++ [x]) rest ρ2 | .bk => Q .nx ρ2 | .rt v => Q (.rt v) ρ2) X)
    (hd : ∀ ρ, I xs [] ρ → Q .nx ρ) : Wp (loopS g f (xs.map enc) ρ) Q X := by
  have go : ∀ (rest done : List α) (ρ : Ro), xs = done ++ rest → I done rest ρ → Wp (loopS g f (rest.map enc) ρ) Q X := by
    intro rest
    induction rest with
    | nil =>
      intro done ρ e i
      rw [List.append_nil] at e; subst e
      rw [List.map_nil, loopS, Wp_ok]; exact hd ρ i
    | cons x rest ih =>
      intro done ρ e i
      obtain ⟨ρ1, e1, w⟩ := hs done x rest ρ e i
      rw [List.map_cons, loopS, e1]
      simp only
      have e' : xs = (done ++ [x]) ++ rest := by rw [e, List.append_assoc]; with_unfolding_all rfl
      cases e2 : f ρ1 with
      | bad => rw [e2, Wp_bad] at w; exact w.elim
      | ex c ks ts ρ2 => rw [e2, Wp_ex] at w; simp only [Wp_ex]; exact w
      | ok fl ρ2 =>
        rw [e2, Wp_ok] at w
        cases fl with
        | nx => exact ih _ _ e' w
        | ct => exact ih _ _ e' w
        | bk => simp only [Wp_ok]; exact w
        | rt v => simp only [Wp_ok]; exact w
  exact go xs [] ρ rfl h0
theorem wp_while {g : TF} {f : SF} (I : Nat → Ro → Prop) {n : Nat} {ρ : Ro} (m : Nat) (hm : m < n) (h0 : I m ρ)
    (hs : ∀ m ρ, I m ρ → Wp (g ρ) (fun b ρ1 => (b = true → Wp (f ρ1) (fun fl ρ2 => match fl with | .nx => ∃ k, k < m ∧ I k ρ2 | .ct => ∃ k, k < m ∧ I k ρ2 | .bk => Q .nx ρ2 | .rt v => Q (.rt v) ρ2) X) ∧ (b = false → Q .nx ρ1)) X) : Wp (sWhile n g f ρ) Q X := by
  unfold sWhile
  have go : ∀ (n m : Nat) (ρ : Ro), m < n → I m ρ → Wp (loopW g f n ρ) Q X := by
    intro n
    induction n with
    | zero => intro m ρ h; omega
    | succ n ih =>
      intro m ρ h i
      have w := hs m ρ i
      rw [loopW, Wp_bind]
      refine Wp_mono w (fun b ρ1 hb => ?_) fun _ _ _ _ h => h
      cases b with
      | false => rw [if_neg (by decide), Wp_ok]; exact hb.2 rfl
      | true =>
        simp only [if_true]
        have w2 := hb.1 rfl
        cases e2 : f ρ1 with
        | bad => rw [e2, Wp_bad] at w2; exact w2.elim
        | ex c ks ts ρ2 => rw [e2, Wp_ex] at w2; simp only [Wp_ex]; exact w2
        | ok fl ρ2 =>
          rw [e2, Wp_ok] at w2
          cases fl with
          | nx => obtain ⟨k, hk, i2⟩ := w2; exact ih k ρ2 (by omega) i2
          | ct => obtain ⟨k, hk, i2⟩ := w2; exact ih k ρ2 (by omega) i2
          | bk => simp only [Wp_ok]; exact w2
          | rt v => simp only [Wp_ok]; exact w2
  exact go n m ρ hm h0
end
section
variable {α β : Type} {Q : EV → Ro → Prop} {X : EQ}
def gnd (Q : T → Ro → Prop) : EV → Ro → Prop := fun x ρ => match ground1 x with | some t => Q t ρ | none => False
theorem gnd_val {Q : T → Ro → Prop} {t : T} {ρ : Ro} : gnd Q (.val t) ρ = Q t ρ := by with_unfolding_all rfl
theorem gnd_own {Q : T → Ro → Prop} {t : List T} {ρ : Ro} : gnd Q (.own t) ρ = Q (.lst t) ρ := by with_unfolding_all rfl
/-- a comprehension by a word over what is done and what is made -/
theorem wp_lc (enc : α → T) (xs : List α) {g : T → Ro → Option Ro} {test : TF} {fe : EF} {vs : List Nat} (I : List α → List α → List T → Ro → Prop) {acc : List T} {ρ : Ro} (h0 : I [] xs acc ρ)
    (hs : ∀ done x rest acc ρ, xs = done ++ x :: rest → I done (x :: rest) acc ρ → ∃ ρ1, g (enc x) (wipeR ρ vs) = some ρ1 ∧ Wp (test ρ1) (fun b ρ2 => (b = true → Wp (fe ρ2) (gnd fun t ρ3 => I (done ++ [x]) rest (acc ++ [t]) (backR ρ vs ρ3)) fun _ _ _ _ => False) ∧ (b = false → I (done ++ [x]) rest acc (backR ρ vs ρ2))) fun _ _ _ _ => False)
    (hd : ∀ acc ρ, I xs [] acc ρ → Q (.own acc) ρ) : Wp (loopC g test fe vs (xs.map enc) acc ρ) Q X := by
  have go : ∀ (rest done : List α) (acc : List T) (ρ : Ro), xs = done ++ rest → I done rest acc ρ → Wp (loopC g test fe vs (rest.map enc) acc ρ) Q X := by
    intro rest
    induction rest with
    | nil =>
      intro done acc ρ e i
      rw [List.append_nil] at e; subst e
      rw [List.map_nil, loopC, Wp_ok]; exact hd acc ρ i
    | cons x rest ih =>
      intro done acc ρ e i
      obtain ⟨ρ1, e1, w⟩ := hs done x rest acc ρ e i
      have e' : xs = (done ++ [x]) ++ rest := by rw [e, List.append_assoc]; with_unfolding_all rfl
      rw [List.map_cons, loopC, e1]
      simp only
      cases e2 : test ρ1 with
      | bad => rw [e2, Wp_bad] at w; exact w.elim
      | ex c ks ts ρ2 => rw [e2, Wp_ex] at w; exact w.elim
      | ok b ρ2 =>
        rw [e2, Wp_ok] at w
        obtain ⟨w1, w2⟩ := w
        cases b with
        | false => simp only [Bool.false_eq_true, if_false]; exact ih _ _ _ e' (w2 rfl)
        | true =>
          simp only [if_true]
          have w1 := w1 rfl
          cases e3 : fe ρ2 with
          | bad => rw [e3, Wp_bad] at w1; exact w1.elim
          | ex c ks ts ρ3 => rw [e3, Wp_ex] at w1; exact w1.elim
          | ok x3 ρ3 =>
            rw [e3, Wp_ok] at w1
            simp only [gnd] at w1
            simp only
            cases e4 : ground1 x3 with
            | none => rw [e4] at w1; exact w1.elim
            | some u => rw [e4] at w1; exact ih _ _ _ e' w1
  exact go xs [] acc ρ rfl h0
/-- a comprehension that changes nothing beside -/
theorem wp_lcp (enc : α → T) (xs : List α) {g : T → Ro → Option Ro} {test : TF} {fe : EF} {vs : List Nat} (p : α → Bool) (w : α → T) {acc : List T} {ρ : Ro}
    (hs : ∀ x ∈ xs, ∃ ρ1, g (enc x) (wipeR ρ vs) = some ρ1 ∧ Wp (test ρ1) (fun b ρ2 => b = p x ∧ (p x = true → Wp (fe ρ2) (gnd fun t ρ3 => t = w x ∧ backR ρ vs ρ3 = ρ) fun _ _ _ _ => False) ∧ (p x = false → backR ρ vs ρ2 = ρ)) fun _ _ _ _ => False)
    (hd : Q (.own (acc ++ (xs.filter p).map w)) ρ) : Wp (loopC g test fe vs (xs.map enc) acc ρ) Q X := by
  refine wp_lc enc xs (fun done _ acc' ρ' => ρ' = ρ ∧ acc' = acc ++ (done.filter p).map w) ⟨rfl, by simp⟩ ?_ ?_
  · rintro done x rest acc' ρ' e ⟨rfl, rfl⟩
    obtain ⟨ρ1, e1, h⟩ := hs x (by rw [e]; simp)
    refine ⟨ρ1, e1, Wp_mono h (fun b ρ2 ⟨hb, h1, h2⟩ => ⟨fun q => ?_, fun q => ?_⟩) fun _ _ _ _ h => h⟩
    · have hp : p x = true := by rw [← hb]; exact q
      refine Wp_mono (h1 hp) (fun y ρ3 hy => ?_) fun _ _ _ _ h => h
      unfold gnd at hy ⊢
      cases e5 : ground1 y with
      | none => rw [e5] at hy; exact hy
      | some t => rw [e5] at hy; obtain ⟨rfl, h3⟩ := hy; exact ⟨h3, by rw [List.filter_append, List.map_append, List.append_assoc]; simp [hp]⟩
    · have hp : p x = false := by rw [← hb]; exact q
      exact ⟨h2 hp, by rw [List.filter_append]; simp [hp]⟩
  · rintro acc' ρ' ⟨rfl, rfl⟩; exact hd
theorem wp_lcm (enc : α → T) (xs : List α) {g : T → Ro → Option Ro} {fe : EF} {vs : List Nat} (w : α → T) {acc : List T} {ρ : Ro}
    (hs : ∀ x ∈ xs, ∃ ρ1, g (enc x) (wipeR ρ vs) = some ρ1 ∧ Wp (fe ρ1) (gnd fun t ρ3 => t = w x ∧ backR ρ vs ρ3 = ρ) fun _ _ _ _ => False)
    (hd : Q (.own (acc ++ xs.map w)) ρ) : Wp (loopC g tTrue fe vs (xs.map enc) acc ρ) Q X := by
  have ht : xs.filter (fun _ => true) = xs := List.filter_eq_self.mpr fun _ _ => rfl
  refine wp_lcp enc xs (fun _ => true) w (fun x hx => ?_) (by rw [ht]; exact hd)
  obtain ⟨ρ1, e1, h⟩ := hs x hx
  exact ⟨ρ1, e1, by rw [Wp_tTrue]; exact ⟨rfl, fun _ => h, fun z => by cases z⟩⟩
/-- a set comprehension of ints that changes nothing beside -/
theorem wp_scm {Q : List Int → Ro → Prop} (enc : α → T) (xs : List α) {g : T → Ro → Option Ro} {fe : EF} {vs : List Nat} (w : α → Int) {acc : List Int} {ρ : Ro}
    (hs : ∀ x ∈ xs, ∃ ρ1, g (enc x) (wipeR ρ vs) = some ρ1 ∧ Wp (fe ρ1) (fun v ρ3 => v = .val (.int (w x)) ∧ backR ρ vs ρ3 = ρ) fun _ _ _ _ => False)
    (hd : Q ((xs.map w).reverse ++ acc) ρ) : Wp (loopV g fe vs (xs.map enc) acc ρ) Q X := by
  induction xs generalizing acc with
  | nil => rw [List.map_nil, loopV, Wp_ok]; exact hd
  | cons x xs ih =>
    obtain ⟨ρ1, e1, h⟩ := hs x (by simp)
    rw [List.map_cons, loopV, e1]
    simp only
    cases e2 : fe ρ1 with
    | bad => rw [e2, Wp_bad] at h; exact h.elim
    | ex c ks ts ρ2 => rw [e2, Wp_ex] at h; exact h.elim
    | ok v ρ2 =>
      rw [e2, Wp_ok] at h
      obtain ⟨rfl, hb⟩ := h
      simp only [hb]
      refine ih (fun y hy => hs y (by simp [hy])) ?_
      simpa using hd
/-- two clauses, nothing changed beside -/
theorem wp_lc2m (enc : α → T) (enc1 : β → T) (xs : List α) (ys : List β) {g g1 : T → Ro → Option Ro} {fi1 : Ro → R (List T)} {fe : EF} {vs vs1 : List Nat} (w : α → β → T) {acc : List T} {ρ : Ro} (hlen : acc.length + xs.length * ys.length ≤ 100000)
    (hs : ∀ x ∈ xs, ∃ ρ1, g (enc x) (wipeR ρ vs) = some ρ1 ∧ Wp (fi1 ρ1) (fun us ρ2 => us = ys.map enc1 ∧ plainAt ρ2 vs1 = true ∧ backR ρ vs ρ2 = ρ ∧ ∀ y ∈ ys, ∃ ρ3, g1 (enc1 y) (wipeR ρ2 vs1) = some ρ3 ∧ Wp (fe ρ3) (gnd fun t ρ4 => t = w x y ∧ backR ρ2 vs1 ρ4 = ρ2) fun _ _ _ _ => False) fun _ _ _ _ => False)
    (hd : Q (.own (acc ++ xs.flatMap fun x => ys.map (w x))) ρ) : Wp (loopC2 g tTrue fi1 g1 tTrue fe vs vs1 (xs.map enc) acc ρ) Q X := by
  induction xs generalizing acc with
  | nil => rw [List.flatMap_nil, List.append_nil] at hd; rw [List.map_nil, loopC2, Wp_ok]; exact hd
  | cons x xs ih =>
    obtain ⟨ρ1, e1, h⟩ := hs x (by simp)
    simp only [List.length_cons, Nat.succ_mul] at hlen
    rw [List.map_cons, loopC2, e1]
    simp only [tTrue, if_true]
    cases e2 : fi1 ρ1 with
    | bad => rw [e2, Wp_bad] at h; exact h.elim
    | ex c ks ts ρ2 => rw [e2, Wp_ex] at h; exact h.elim
    | ok us ρ2 =>
      rw [e2, Wp_ok] at h
      obtain ⟨rfl, hp, hb, hy⟩ := h
      simp only
      rw [if_pos ⟨hp, by simp only [List.length_map]; omega⟩]
      have inner : loopC g1 tTrue fe vs1 (ys.map enc1) acc ρ2 = .ok (.own (acc ++ ys.map (w x))) ρ2 := by
        have := wp_lcm (Q := fun x' ρ' => x' = .own (acc ++ ys.map (w x)) ∧ ρ' = ρ2) (X := fun _ _ _ _ => False) enc1 ys (g := g1) (fe := fe) (vs := vs1) (w x) (acc := acc) (ρ := ρ2) hy ⟨rfl, rfl⟩
        cases e3 : loopC g1 tTrue fe vs1 (ys.map enc1) acc ρ2 with
        | bad => rw [e3, Wp_bad] at this; exact this.elim
        | ex c ks ts ρ3 => rw [e3, Wp_ex] at this; exact this.elim
        | ok z ρ3 => rw [e3, Wp_ok] at this; obtain ⟨rfl, rfl⟩ := this; rfl
      simp only [show (fun ρ => R.ok true ρ : TF) = tTrue from rfl, inner, hb]
      refine ih (by simp only [List.length_append, List.length_map]; omega) (fun y hy => hs y (by simp [hy])) ?_
      rw [List.append_assoc]; simpa using hd
/-- .. where what is walked hangs on the item -/
theorem wp_lc2g (enc : α → T) (enc1 : β → T) (xs : List α) (F : α → List β) {g g1 : T → Ro → Option Ro} {fi1 : Ro → R (List T)} {fe : EF} {vs vs1 : List Nat} (w : α → β → T) {acc : List T} {ρ : Ro} (hlen : acc.length + (xs.flatMap F).length ≤ 100000)
    (hs : ∀ x ∈ xs, ∃ ρ1, g (enc x) (wipeR ρ vs) = some ρ1 ∧ Wp (fi1 ρ1) (fun us ρ2 => us = (F x).map enc1 ∧ plainAt ρ2 vs1 = true ∧ backR ρ vs ρ2 = ρ ∧ ∀ y ∈ F x, ∃ ρ3, g1 (enc1 y) (wipeR ρ2 vs1) = some ρ3 ∧ Wp (fe ρ3) (gnd fun t ρ4 => t = w x y ∧ backR ρ2 vs1 ρ4 = ρ2) fun _ _ _ _ => False) fun _ _ _ _ => False)
    (hd : Q (.own (acc ++ xs.flatMap fun x => (F x).map (w x))) ρ) : Wp (loopC2 g tTrue fi1 g1 tTrue fe vs vs1 (xs.map enc) acc ρ) Q X := by
  induction xs generalizing acc with
  | nil => rw [List.flatMap_nil, List.append_nil] at hd; rw [List.map_nil, loopC2, Wp_ok]; exact hd
  | cons x xs ih =>
    obtain ⟨ρ1, e1, h⟩ := hs x (by simp)
    simp only [List.flatMap_cons, List.length_append] at hlen
    rw [List.map_cons, loopC2, e1]
    simp only [tTrue, if_true]
    cases e2 : fi1 ρ1 with
    | bad => rw [e2, Wp_bad] at h; exact h.elim
    | ex c ks ts ρ2 => rw [e2, Wp_ex] at h; exact h.elim
    | ok us ρ2 =>
      rw [e2, Wp_ok] at h
      obtain ⟨rfl, hp, hb, hy⟩ := h
      simp only
      rw [if_pos ⟨hp, by simp only [List.length_map]; omega⟩]
      have inner : loopC g1 tTrue fe vs1 ((F x).map enc1) acc ρ2 = .ok (.own (acc ++ (F x).map (w x))) ρ2 := by
        have := wp_lcm (Q := fun x' ρ' => x' = .own (acc ++ (F x).map (w x)) ∧ ρ' = ρ2) (X := fun _ _ _ _ => False) enc1 (F x) (g := g1) (fe := fe) (vs := vs1) (w x) (acc := acc) (ρ := ρ2) hy ⟨rfl, rfl⟩
        cases e3 : loopC g1 tTrue fe vs1 ((F x).map enc1) acc ρ2 with
        | bad => rw [e3, Wp_bad] at this; exact this.elim
        | ex c ks ts ρ3 => rw [e3, Wp_ex] at this; exact this.elim
        | ok z ρ3 => rw [e3, Wp_ok] at this; obtain ⟨rfl, rfl⟩ := this; rfl
      simp only [show (fun ρ => R.ok true ρ : TF) = tTrue from rfl, inner, hb]
      refine ih (by simp only [List.length_append, List.length_map]; omega) (fun y hy => hs y (by simp [hy])) ?_
      rw [List.append_assoc]; simpa using hd
end
end VI

set_option Elab.async false
set_option linter.all false
set_option maxRecDepth 100000
set_option maxHeartbeats 8000000
namespace Q
open PySem L2 PySem.Spec PyProof.Rows VI
def top (i : Nat) : Stmt := PySem.Challenge.pw_crossinglights_k09_stages_crowds.main.body.getD i (.Pass ⟨0, 0, 0, 0⟩)
def nms : List Str := ["length", "_held", "within", "_run_from", "runs", "step", "unfolded", "bound", "part", "burst", "num", "den", "number", "credit", "after", "greedy", "lets", "greatest", "place", "nodes", "ties", "_spans", "streams", "rivals", "_check", "span"]
theorem nms_nd : nms.Nodup := by decide +kernel
theorem nms_sm : nms.all (fun x => decide (x.cps.size < 1000)) = true := by decide +kernel
abbrev s__law_cell : Stmt := top 30
abbrev s__law_hand : Stmt := top 31
abbrev s__law_take : Stmt := top 32
abbrev s__law_drawn_rivals : Stmt := top 36
abbrev s_BadCrossingz_initz : Stmt := inClass (top 5) 0
abbrev s_is_name : Stmt := top 21
abbrev s_check_streams : Stmt := top 25
abbrev s_is_rival : Stmt := top 26
abbrev s_spans_of : Stmt := top 27
abbrev s_Crossingz_initz : Stmt := inClass (top 28) 0
abbrev s__law_names : Stmt := top 35
abbrev s__law_groups : Stmt := top 38
abbrev s__law_inside : Stmt := top 37
abbrev s_choices : Stmt := top 2
abbrev s_Crossingz_lenz : Stmt := inClass (top 28) 1
abbrev s_first_strange : Stmt := top 8
abbrev s_pairs_of : Stmt := top 10
abbrev s_UnknownStreamz_initz : Stmt := inClass (top 6) 0
abbrev s_Crossingzcheck : Stmt := inClass (top 28) 6
abbrev s_Crossing_span : Stmt := inClass (top 28) 4
abbrev s_are_rivals : Stmt := top 11
abbrev s_is_stage : Stmt := top 12
abbrev s_stages : Stmt := top 14
abbrev s__law_is_int : Stmt := top 33
abbrev s__law_same : Stmt := top 34
abbrev s_is_part : Stmt := top 15
abbrev s_greatest_stages : Stmt := top 16
abbrev s_is_crowd : Stmt := top 13
abbrev s_greatest_crowd : Stmt := top 17
abbrev s__law_listed : Stmt := top 42
abbrev s__law_is_free : Stmt := top 39
abbrev s__law_decides : Stmt := top 41
abbrev s__law_lists : Stmt := top 40
abbrev s_law : Stmt := top 43
structure Tx (K : PySem.W.Frag) (mg : Str → Option Value) where
  C_BadCrossing : Addr
  C_Crossing : Addr
  C_UnknownStream : Addr
  f__law_cell : Addr
  fd__law_cell : FuncData
  f__law_hand : Addr
  fd__law_hand : FuncData
  f__law_take : Addr
  fd__law_take : FuncData
  f__law_drawn_rivals : Addr
  fd__law_drawn_rivals : FuncData
  f_BadCrossingz_initz : Addr
  fd_BadCrossingz_initz : FuncData
  f_is_name : Addr
  fd_is_name : FuncData
  f_check_streams : Addr
  fd_check_streams : FuncData
  f_is_rival : Addr
  fd_is_rival : FuncData
  f_spans_of : Addr
  fd_spans_of : FuncData
  f_Crossingz_initz : Addr
  fd_Crossingz_initz : FuncData
  f__law_names : Addr
  fd__law_names : FuncData
  f__law_groups : Addr
  fd__law_groups : FuncData
  f__law_inside : Addr
  fd__law_inside : FuncData
  f_choices : Addr
  fd_choices : FuncData
  f_Crossingz_lenz : Addr
  fd_Crossingz_lenz : FuncData
  f_first_strange : Addr
  fd_first_strange : FuncData
  f_pairs_of : Addr
  fd_pairs_of : FuncData
  f_UnknownStreamz_initz : Addr
  fd_UnknownStreamz_initz : FuncData
  f_Crossingzcheck : Addr
  fd_Crossingzcheck : FuncData
  f_Crossing_span : Addr
  fd_Crossing_span : FuncData
  f_are_rivals : Addr
  fd_are_rivals : FuncData
  f_is_stage : Addr
  fd_is_stage : FuncData
  f_stages : Addr
  fd_stages : FuncData
  f__law_is_int : Addr
  fd__law_is_int : FuncData
  f__law_same : Addr
  fd__law_same : FuncData
  f_is_part : Addr
  fd_is_part : FuncData
  f_greatest_stages : Addr
  fd_greatest_stages : FuncData
  f_is_crowd : Addr
  fd_is_crowd : FuncData
  f_greatest_crowd : Addr
  fd_greatest_crowd : FuncData
  f__law_listed : Addr
  fd__law_listed : FuncData
  f__law_is_free : Addr
  fd__law_is_free : FuncData
  f__law_decides : Addr
  fd__law_decides : FuncData
  f__law_lists : Addr
  fd__law_lists : FuncData
  f_law : Addr
  fd_law : FuncData
  t_MOST_STREAMS : Tok
  t_MOST_LETTERS : Tok
  t_LETTERS : Tok
  t_MOST_SPAN : Tok
  F__law_cell : Fun K "_law_cell" "_law_cell" s__law_cell f__law_cell fd__law_cell
  b__law_cell : Binds K fd__law_cell ["script", "k"] []
  F__law_hand : Fun K "_law_hand" "_law_hand" s__law_hand f__law_hand fd__law_hand
  b__law_hand : Binds K fd__law_hand ["script", "k"] []
  F__law_take : Fun K "_law_take" "_law_take" s__law_take f__law_take fd__law_take
  b__law_take : Binds K fd__law_take ["hand", "many"] []
  F__law_drawn_rivals : Fun K "_law_drawn_rivals" "_law_drawn_rivals" s__law_drawn_rivals f__law_drawn_rivals fd__law_drawn_rivals
  b__law_drawn_rivals : Binds K fd__law_drawn_rivals ["hand", "count"] []
  F_BadCrossingz_initz : Fun K "__init__" "BadCrossing.__init__" s_BadCrossingz_initz f_BadCrossingz_initz fd_BadCrossingz_initz
  b_BadCrossingz_initz : Binds K fd_BadCrossingz_initz ["self", "part", "place"] []
  F_is_name : Fun K "is_name" "is_name" s_is_name f_is_name fd_is_name
  b_is_name : Binds K fd_is_name ["text"] []
  F_check_streams : Fun K "check_streams" "check_streams" s_check_streams f_check_streams fd_check_streams
  b_check_streams : Binds K fd_check_streams ["streams"] []
  F_is_rival : Fun K "is_rival" "is_rival" s_is_rival f_is_rival fd_is_rival
  b_is_rival : Binds K fd_is_rival ["rival", "count"] []
  F_spans_of : Fun K "spans_of" "spans_of" s_spans_of f_spans_of fd_spans_of
  b_spans_of : Binds K fd_spans_of ["rivals", "count"] []
  F_Crossingz_initz : Fun K "__init__" "Crossing.__init__" s_Crossingz_initz f_Crossingz_initz fd_Crossingz_initz
  b_Crossingz_initz : Binds K fd_Crossingz_initz ["self", "streams", "rivals"] []
  F__law_names : Fun K "_law_names" "_law_names" s__law_names f__law_names fd__law_names
  b__law_names : Binds K fd__law_names ["count"] []
  F__law_groups : Fun K "_law_groups" "_law_groups" s__law_groups f__law_groups fd__law_groups
  b__law_groups : Binds K fd__law_groups ["count"] []
  F__law_inside : Fun K "_law_inside" "_law_inside" s__law_inside f__law_inside fd__law_inside
  b__law_inside : Binds K fd__law_inside ["rivals", "streams"] []
  F_choices : Fun K "choices" "choices" s_choices f_choices fd_choices
  b_choices : Binds K fd_choices ["items"] []
  F_Crossingz_lenz : Fun K "__len__" "Crossing.__len__" s_Crossingz_lenz f_Crossingz_lenz fd_Crossingz_lenz
  b_Crossingz_lenz : Binds K fd_Crossingz_lenz ["self"] []
  F_first_strange : Fun K "first_strange" "first_strange" s_first_strange f_first_strange fd_first_strange
  b_first_strange : Binds K fd_first_strange ["entries", "count"] []
  F_pairs_of : Fun K "pairs_of" "pairs_of" s_pairs_of f_pairs_of fd_pairs_of
  b_pairs_of : Binds K fd_pairs_of ["streams"] []
  F_UnknownStreamz_initz : Fun K "__init__" "UnknownStream.__init__" s_UnknownStreamz_initz f_UnknownStreamz_initz fd_UnknownStreamz_initz
  b_UnknownStreamz_initz : Binds K fd_UnknownStreamz_initz ["self", "number"] []
  F_Crossingzcheck : Fun K "_check" "Crossing._check" s_Crossingzcheck f_Crossingzcheck fd_Crossingzcheck
  b_Crossingzcheck : Binds K fd_Crossingzcheck ["self", "stream"] []
  F_Crossing_span : Fun K "span" "Crossing.span" s_Crossing_span f_Crossing_span fd_Crossing_span
  b_Crossing_span : Binds K fd_Crossing_span ["self", "first", "second"] []
  F_are_rivals : Fun K "are_rivals" "are_rivals" s_are_rivals f_are_rivals fd_are_rivals
  b_are_rivals : Binds K fd_are_rivals ["crossing", "first", "second"] []
  F_is_stage : Fun K "is_stage" "is_stage" s_is_stage f_is_stage fd_is_stage
  b_is_stage : Binds K fd_is_stage ["crossing", "streams"] []
  F_stages : Fun K "stages" "stages" s_stages f_stages fd_stages
  b_stages : Binds K fd_stages ["crossing"] []
  F__law_is_int : Fun K "_law_is_int" "_law_is_int" s__law_is_int f__law_is_int fd__law_is_int
  b__law_is_int : Binds K fd__law_is_int ["got"] []
  F__law_same : Fun K "_law_same" "_law_same" s__law_same f__law_same fd__law_same
  b__law_same : Binds K fd__law_same ["got", "due"] []
  F_is_part : Fun K "is_part" "is_part" s_is_part f_is_part fd_is_part
  b_is_part : Binds K fd_is_part ["small", "great"] []
  F_greatest_stages : Fun K "greatest_stages" "greatest_stages" s_greatest_stages f_greatest_stages fd_greatest_stages
  b_greatest_stages : Binds K fd_greatest_stages ["crossing"] []
  F_is_crowd : Fun K "is_crowd" "is_crowd" s_is_crowd f_is_crowd fd_is_crowd
  b_is_crowd : Binds K fd_is_crowd ["crossing", "streams"] []
  F_greatest_crowd : Fun K "greatest_crowd" "greatest_crowd" s_greatest_crowd f_greatest_crowd fd_greatest_crowd
  b_greatest_crowd : Binds K fd_greatest_crowd ["crossing"] []
  F__law_listed : Fun K "_law_listed" "_law_listed" s__law_listed f__law_listed fd__law_listed
  b__law_listed : Binds K fd__law_listed ["crossing", "rivals", "count"] []
  F__law_is_free : Fun K "_law_is_free" "_law_is_free" s__law_is_free f__law_is_free fd__law_is_free
  b__law_is_free : Binds K fd__law_is_free ["rivals", "count", "streams"] []
  F__law_decides : Fun K "_law_decides" "_law_decides" s__law_decides f__law_decides fd__law_decides
  b__law_decides : Binds K fd__law_decides ["crossing", "rivals", "count", "streams"] []
  F__law_lists : Fun K "_law_lists" "_law_lists" s__law_lists f__law_lists fd__law_lists
  b__law_lists : Binds K fd__law_lists ["hand", "count", "stage"] []
  F_law : Fun K "law" "law" s_law f_law fd_law
  b_law : Binds K fd_law ["script"] []
  z_len : mg "len" = none
  z_abs : mg "abs" = none
  m__law_cell : mg "_law_cell" = some (.ref f__law_cell)
  z_int : mg "int" = none
  m__law_hand : mg "_law_hand" = some (.ref f__law_hand)
  m__law_take : mg "_law_take" = some (.ref f__law_take)
  z_range : mg "range" = none
  m__law_drawn_rivals : mg "_law_drawn_rivals" = some (.ref f__law_drawn_rivals)
  g_MOST_STREAMS : mg "MOST_STREAMS" = some (.int 6 t_MOST_STREAMS)
  sb_BadCrossing : PySem.W.subIn K (.ref C_BadCrossing) (.type "BaseException") = some true
  ty_BadCrossing : PySem.W.typeIn K (.ref C_BadCrossing) = some (.type "type")
  kc_BadCrossing : PySem.W.keepIn K (.ref C_BadCrossing) = true
  ox_BadCrossing : OexC K C_BadCrossing
  na_BadCrossing_part : NoAttr K C_BadCrossing "part"
  na_BadCrossing_place : NoAttr K C_BadCrossing "place"
  fi_BadCrossing_zinitz : PySem.W.findIn K (.ref C_BadCrossing) "__init__" = some (some (.ref f_BadCrossingz_initz))
  tf_BadCrossingz_initz : PySem.W.typeIn K (.ref f_BadCrossingz_initz) = some (.type "function")
  mC_BadCrossing : mg "BadCrossing" = some (.ref C_BadCrossing)
  z_enumerate : mg "enumerate" = none
  g_MOST_LETTERS : mg "MOST_LETTERS" = some (.int 8 t_MOST_LETTERS)
  g_LETTERS : mg "LETTERS" = some (.str "abcdefghijklmnopqrstuvwxyz" t_LETTERS)
  z_all : mg "all" = none
  m_is_name : mg "is_name" = some (.ref f_is_name)
  m_check_streams : mg "check_streams" = some (.ref f_check_streams)
  g_MOST_SPAN : mg "MOST_SPAN" = some (.int 9 t_MOST_SPAN)
  m_is_rival : mg "is_rival" = some (.ref f_is_rival)
  m_spans_of : mg "spans_of" = some (.ref f_spans_of)
  cl_Crossing : Cls K C_Crossing
  na_Crossing__spans : NoAttr K C_Crossing "_spans"
  z_tuple : mg "tuple" = none
  na_Crossing_streams : NoAttr K C_Crossing "streams"
  na_Crossing_rivals : NoAttr K C_Crossing "rivals"
  z_list : mg "list" = none
  m__law_names : mg "_law_names" = some (.ref f__law_names)
  mk_Crossing : PySem.W.makesIn K C_Crossing = true
  fi_Crossing_zinitz : PySem.W.findIn K (.ref C_Crossing) "__init__" = some (some (.ref f_Crossingz_initz))
  if_Crossingz_initz : PySem.W.isFn K (.ref f_Crossingz_initz) = true
  kc_Crossing : PySem.W.keepIn K (.ref C_Crossing) = true
  mC_Crossing : mg "Crossing" = some (.ref C_Crossing)
  m__law_groups : mg "_law_groups" = some (.ref f__law_groups)
  m__law_inside : mg "_law_inside" = some (.ref f__law_inside)
  z_sorted : mg "sorted" = none
  fi_Crossing_zlenz : PySem.W.findIn K (.ref C_Crossing) "__len__" = some (some (.ref f_Crossingz_lenz))
  if_Crossingz_lenz : PySem.W.isFn K (.ref f_Crossingz_lenz) = true
  m_choices : mg "choices" = some (.ref f_choices)
  m_first_strange : mg "first_strange" = some (.ref f_first_strange)
  m_pairs_of : mg "pairs_of" = some (.ref f_pairs_of)
  sb_UnknownStream : PySem.W.subIn K (.ref C_UnknownStream) (.type "BaseException") = some true
  ty_UnknownStream : PySem.W.typeIn K (.ref C_UnknownStream) = some (.type "type")
  kc_UnknownStream : PySem.W.keepIn K (.ref C_UnknownStream) = true
  ox_UnknownStream : OexC K C_UnknownStream
  na_UnknownStream_number : NoAttr K C_UnknownStream "number"
  fi_UnknownStream_zinitz : PySem.W.findIn K (.ref C_UnknownStream) "__init__" = some (some (.ref f_UnknownStreamz_initz))
  tf_UnknownStreamz_initz : PySem.W.typeIn K (.ref f_UnknownStreamz_initz) = some (.type "function")
  mC_UnknownStream : mg "UnknownStream" = some (.ref C_UnknownStream)
  fi_Crossing__check : PySem.W.findIn K (.ref C_Crossing) "_check" = some (some (.ref f_Crossingzcheck))
  if_Crossingzcheck : PySem.W.isFn K (.ref f_Crossingzcheck) = true
  fi_Crossing_span : PySem.W.findIn K (.ref C_Crossing) "span" = some (some (.ref f_Crossing_span))
  if_Crossing_span : PySem.W.isFn K (.ref f_Crossing_span) = true
  m_are_rivals : mg "are_rivals" = some (.ref f_are_rivals)
  z_any : mg "any" = none
  m_is_stage : mg "is_stage" = some (.ref f_is_stage)
  m_stages : mg "stages" = some (.ref f_stages)
  z_isinstance : mg "isinstance" = none
  z_bool : mg "bool" = none
  m__law_is_int : mg "_law_is_int" = some (.ref f__law_is_int)
  z_str : mg "str" = none
  m__law_same : mg "_law_same" = some (.ref f__law_same)
  m_is_part : mg "is_part" = some (.ref f_is_part)
  m_greatest_stages : mg "greatest_stages" = some (.ref f_greatest_stages)
  z_max : mg "max" = none
  z_min : mg "min" = none
  m_is_crowd : mg "is_crowd" = some (.ref f_is_crowd)
  m_greatest_crowd : mg "greatest_crowd" = some (.ref f_greatest_crowd)
  m__law_listed : mg "_law_listed" = some (.ref f__law_listed)
  m__law_is_free : mg "_law_is_free" = some (.ref f__law_is_free)
  m__law_decides : mg "_law_decides" = some (.ref f__law_decides)
  m__law_lists : mg "_law_lists" = some (.ref f__law_lists)
abbrev DD {K : PySem.W.Frag} {mg : Str → Option Value} (T : Tx K mg) : Wd := mkD K [0, 0, 0, 0, 0, 0, 0, 0, 0, 0, 0, 0, 0, 0, 0, 0, 0, 0, 0, 0, T.C_BadCrossing, T.C_Crossing, 0, 0, T.C_UnknownStream] nms nms_nd nms_sm
section
variable {P : Program} {w : World} {K : PySem.W.Frag} {mg : Str → Option Value} {base : Heap}
theorem sc__law_cell : FnScope ["script", "k"] ["script", "k"] (defScope s__law_cell) := ⟨rfl, rfl, rfl, by decide +kernel, rfl, by decide +kernel, by decide +kernel⟩
def m__law_cell : Ro → R EV := runF 0 (sSeq (sIf (tOf (e2 opLt (eVar 1) (eN bLen (aCons (eVar 0) aNil)))) (sRet (eN bAbs (aCons (e2 opIx (eVar 0) (eVar 1)) aNil))) sNx)
    (sRet (eC (.int 0))))
theorem ok__law_cell (T : Tx K mg) : FnOk P w K mg base (L2.CX P w) 1 T.f__law_cell T.fd__law_cell ["script", "k"] (spM (DD T) 2 m__law_cell) :=
  fn_ok T.F__law_cell sc__law_cell fun cdv A outer s H E φ hr =>
    (b_cons (s_if (t_cmp op_lt op2_lt (e_var 1 (pv 1)) (e_callB call_len opN_len rfl T.z_len (by decide +kernel) (a_cons (e_var 0 (pv 0)) a_nil)) (nomark _)) (b_one (s_ret (e_callB call_abs opN_abs rfl T.z_abs (by decide +kernel) (a_cons (e_ix ix_seq op2_ix (e_var 0 (pv 0)) (e_var 1 (pv 1))) a_nil)))) b_nil)
    (b_one (s_ret e_int)))
theorem sc__law_hand : FnScope ["script", "k", "cell"] ["script", "k"] (defScope s__law_hand) := ⟨rfl, rfl, rfl, by decide +kernel, rfl, by decide +kernel, by decide +kernel⟩
def m__law_hand : Ro → R EV := runF 1 (sSeq (sSet 2 (eCall [.v, .v] m__law_cell (aCons (eVar 0) (aCons (eVar 1) aNil))))
    (sRet (eLst (aCons (eVarF 2) (aCons (eN bInt (aCons (e2 opGe (eVar 2) (e2 opPow (eC (.int 10)) (eC (.int 18)))) aNil)) (aCons (eC (.int 0)) (aCons (e2 opAdd (e2 opMod (eN bInt (aCons (eVar 2) aNil)) (eC (.int 2147483629))) (e2 opMul (eC (.int 7)) (eVar 1))) aNil)))))))
theorem ok__law_hand (T : Tx K mg) : FnOk P w K mg base (L2.CX P w) 2 T.f__law_hand T.fd__law_hand ["script", "k"] (spM (DD T) 2 m__law_hand) :=
  fn_ok T.F__law_hand sc__law_hand fun cdv A outer s H E φ hr =>
    (b_cons (s_set (i := 2) sc__law_hand.nd rfl (by first | exact Or.inl rfl | exact Or.inr rfl) (e_call (ms := [.v, .v]) (takes_of rfl rfl rfl rfl) (ok__law_cell T) (hr.mono (by decide) : Room 1 _) rfl T.m__law_cell (T.F__law_cell).kp T.b__law_cell (a_cons (e_var 0 (pv 0)) (a_cons (e_var 1 (pv 1)) a_nil))))
    (b_one (s_ret (e_lst (a_cons (e_varF 2 (pv 2)) (a_cons (e_callTy call_int1 opN_int rfl T.z_int (by decide +kernel) (a_cons (e_cmp op_ge op2_ge (e_var 2 (pv 2)) (e_bin op_pow op2_pow e_int e_int) (nomark _)) a_nil)) (a_cons e_int (a_cons (e_bin op_addA op2_add (e_bin op_mod op2_mod (e_callTy call_int1 opN_int rfl T.z_int (by decide +kernel) (a_cons (e_var 2 (pv 2)) a_nil)) e_int) (e_bin op_mulA op2_mul e_int (e_var 1 (pv 1)))) a_nil))))))))
theorem sc__law_take : FnScope ["hand", "many", "digit", "mixed"] ["hand", "many"] (defScope s__law_take) := ⟨rfl, rfl, rfl, by decide +kernel, rfl, by decide +kernel, by decide +kernel⟩
def m__law_take : Ro → R EV := runF 2 (sSeq (sIf (tAnd (tOf (e2 (eqD false) (e2 opIx (eVar 0) (eC (.int 1))) (eC (.int 1)))) (tOf (e2 opGt (e2 opIx (eVar 0) (eC (.int 0))) (eC (.int 0))))) (sSeq (sSet 2 (e2 opMod (eN bInt (aCons (e2 opIx (eVar 0) (eC (.int 0))) aNil)) (eVar 1)))
    (sSeq (sSub 0 (e2 opFdiv (e2 opIx (eVar 0) (eC (.int 0))) (eVar 1)) (eC (.int 0)))
    (sRet (eVar 2)))) sNx)
    (sSeq (sSub 0 (e2 opAdd (e2 opIx (eVar 0) (eC (.int 2))) (eC (.int 1))) (eC (.int 2)))
    (sSeq (sSet 3 (e2 opMod (eN bInt (aCons (e2 opAdd (e2 opAdd (e2 opMul (e2 opIx (eVar 0) (eC (.int 3))) (eC (.int 48271))) (e2 opMul (e2 opIx (eVar 0) (eC (.int 2))) (eC (.int 69621)))) (eC (.int 12289))) aNil)) (eC (.int 2147483647))))
    (sSeq (sSet 3 (e2 opMod (eN bInt (aCons (e2 opAdd (e2 opAdd (e2 opMul (eVar 3) (eVar 3)) (e2 opMul (e2 opIx (eVar 0) (eC (.int 2))) (eC (.int 3571)))) (eC (.int 40692))) aNil)) (eC (.int 2147483399))))
    (sSeq (sSet 3 (e2 opMod (eN bInt (aCons (e2 opAdd (e2 opMul (eVar 3) (eVar 3)) (e2 opFdiv (eVar 3) (eC (.int 97)))) aNil)) (eC (.int 2147483629))))
    (sRet (e2 opMod (eN bInt (aCons (e2 opFdiv (eVar 3) (eC (.int 11))) aNil)) (eVar 1))))))))
theorem ok__law_take (T : Tx K mg) : FnOk P w K mg base (L2.CX P w) 1 T.f__law_take T.fd__law_take ["hand", "many"] (spM (DD T) 2 m__law_take) :=
  fn_ok T.F__law_take sc__law_take fun cdv A outer s H E φ hr =>
    (b_cons (s_if (t_w (w_and (t_cmp (op_eqD hr.units) op2_eq (e_ix ix_seq op2_ix (e_var 0 (pv 0)) e_int) e_int (nomark _)) (w_and1 (t_cmp op_gt op2_gt (e_ix ix_seq op2_ix (e_var 0 (pv 0)) e_int) e_int (nomark _))))) (b_cons (s_set (i := 2) sc__law_take.nd rfl (by first | exact Or.inl rfl | exact Or.inr rfl) (e_bin op_mod op2_mod (e_callTy call_int1 opN_int rfl T.z_int (by decide +kernel) (a_cons (e_ix ix_seq op2_ix (e_var 0 (pv 0)) e_int) a_nil)) (e_var 1 (pv 1))))
    (b_cons (s_sub (e_bin op_fdivW op2_fdiv (e_ix ix_seq op2_ix (e_var 0 (pv 0)) e_int) (e_var 1 (pv 1))) (pv 0) e_int (by intro _; rfl))
    (b_one (s_ret (e_var 2 (pv 2)))))) b_nil)
    (b_cons (s_sub (e_bin op_addA op2_add (e_ix ix_seq op2_ix (e_var 0 (pv 0)) e_int) e_int) (pv 0) e_int (by intro _; rfl))
    (b_cons (s_set (i := 3) sc__law_take.nd rfl (by first | exact Or.inl rfl | exact Or.inr rfl) (e_bin op_mod op2_mod (e_callTy call_int1 opN_int rfl T.z_int (by decide +kernel) (a_cons (e_bin op_addA op2_add (e_bin op_addA op2_add (e_bin op_mulA op2_mul (e_ix ix_seq op2_ix (e_var 0 (pv 0)) e_int) e_int) (e_bin op_mulA op2_mul (e_ix ix_seq op2_ix (e_var 0 (pv 0)) e_int) e_int)) e_int) a_nil)) e_int))
    (b_cons (s_set (i := 3) sc__law_take.nd rfl (by first | exact Or.inl rfl | exact Or.inr rfl) (e_bin op_mod op2_mod (e_callTy call_int1 opN_int rfl T.z_int (by decide +kernel) (a_cons (e_bin op_addA op2_add (e_bin op_addA op2_add (e_bin op_mulA op2_mul (e_var 3 (pv 3)) (e_var 3 (pv 3))) (e_bin op_mulA op2_mul (e_ix ix_seq op2_ix (e_var 0 (pv 0)) e_int) e_int)) e_int) a_nil)) e_int))
    (b_cons (s_set (i := 3) sc__law_take.nd rfl (by first | exact Or.inl rfl | exact Or.inr rfl) (e_bin op_mod op2_mod (e_callTy call_int1 opN_int rfl T.z_int (by decide +kernel) (a_cons (e_bin op_addA op2_add (e_bin op_mulA op2_mul (e_var 3 (pv 3)) (e_var 3 (pv 3))) (e_bin op_fdivW op2_fdiv (e_var 3 (pv 3)) e_int)) a_nil)) e_int))
    (b_one (s_ret (e_bin op_mod op2_mod (e_callTy call_int1 opN_int rfl T.z_int (by decide +kernel) (a_cons (e_bin op_fdivW op2_fdiv (e_var 3 (pv 3)) e_int) a_nil)) (e_var 1 (pv 1))))))))))
theorem sc__law_drawn_rivals : FnScope ["hand", "count", "share", "rivals", "a", "b", "row", "spot"] ["hand", "count"] (defScope s__law_drawn_rivals) := ⟨rfl, rfl, rfl, by decide +kernel, rfl, by decide +kernel, by decide +kernel⟩
def m__law_drawn_rivals : Ro → R EV := runF 6 (sSeq (sSet 2 (eCall [.io, .v] m__law_take (aCons (eVar 0) (aCons (eC (.int 5)) aNil))))
    (sSeq (sSet 3 (eLst aNil))
    (sSeq (sFor (iRange1 (aCons (eVar 1) aNil)) (gNm 4) (sFor (iRange2 (aCons (e2 opAdd (eVar 4) (eC (.int 1))) (aCons (eVar 1) aNil))) (gNm 5) (sIf (tOf (e2 opLt (eCall [.io, .v] m__law_take (aCons (eVar 0) (aCons (eC (.int 4)) aNil))) (eVar 2))) (sSeq (sSet 6 (eTup (aCons (eVarF 4) (aCons (eVarF 5) (aCons (eCall [.io, .v] m__law_take (aCons (eVar 0) (aCons (eC (.int 10)) aNil))) (aCons (eCall [.io, .v] m__law_take (aCons (eVar 0) (aCons (eC (.int 10)) aNil))) aNil))))))
    (sSeq (sIf (tOf (e2 (eqD false) (eCall [.io, .v] m__law_take (aCons (eVar 0) (aCons (eC (.int 2)) aNil))) (eC (.int 1)))) (sSet 6 (eTup (aCons (eVarF 5) (aCons (eVarF 4) (aCons (eCall [.io, .v] m__law_take (aCons (eVar 0) (aCons (eC (.int 10)) aNil))) (aCons (eCall [.io, .v] m__law_take (aCons (eVar 0) (aCons (eC (.int 10)) aNil))) aNil)))))) sNx)
    (sSeq (sSet 7 (eCall [.io, .v] m__law_take (aCons (eVar 0) (aCons (e2 opAdd (eN bLen (aCons (eVar 3) aNil)) (eC (.int 1))) aNil))))
    (sExpr (eBmM 3 mInsert (aCons (eVarF 7) (aCons (eVarF 6) aNil))))))) sNx)))
    (sRet (eVar 3)))))
theorem ok__law_drawn_rivals (T : Tx K mg) : FnOk P w K mg base (L2.CX P w) 2 T.f__law_drawn_rivals T.fd__law_drawn_rivals ["hand", "count"] (spM (DD T) 2 m__law_drawn_rivals) :=
  fn_ok T.F__law_drawn_rivals sc__law_drawn_rivals fun cdv A outer s H E φ hr =>
    (b_cons (s_set (i := 2) sc__law_drawn_rivals.nd rfl (by first | exact Or.inl rfl | exact Or.inr rfl) (e_call (ms := [.io, .v]) (takes_of rfl rfl rfl rfl) (ok__law_take T) (hr.mono (by decide) : Room 1 _) rfl T.m__law_take (T.F__law_take).kp T.b__law_take (a_cons (e_var 0 (pv 0)) (a_cons e_int a_nil))))
    (b_cons (s_set (i := 3) sc__law_drawn_rivals.nd rfl (by first | exact Or.inl rfl | exact Or.inr rfl) (e_lst a_nil))
    (b_cons (s_for (ix := [4]) (passes_of rfl) rfl (i_range1 rfl T.z_range (a_cons (e_var 1 (pv 1)) a_nil)) (g_nm (i := 4) (by decide) sc__law_drawn_rivals.nd rfl (by first | exact Or.inl rfl | exact Or.inr rfl)) (b_one (s_for (ix := [5]) (passes_of rfl) rfl (i_range2 rfl T.z_range (a_cons (e_bin op_addA op2_add (e_var 4 (pv 4)) e_int) (a_cons (e_var 1 (pv 1)) a_nil))) (g_nm (i := 5) (by decide) sc__law_drawn_rivals.nd rfl (by first | exact Or.inl rfl | exact Or.inr rfl)) (b_one (s_if (t_cmp op_lt op2_lt (e_call (ms := [.io, .v]) (takes_of rfl rfl rfl rfl) (ok__law_take T) (hr.mono (by decide) : Room 1 _) rfl T.m__law_take (T.F__law_take).kp T.b__law_take (a_cons (e_var 0 (pv 0)) (a_cons e_int a_nil))) (e_var 2 (pv 2)) (nomark _)) (b_cons (s_set (i := 6) sc__law_drawn_rivals.nd rfl (by first | exact Or.inl rfl | exact Or.inr rfl) (e_tup (a_cons (e_varF 4 (pv 4)) (a_cons (e_varF 5 (pv 5)) (a_cons (e_call (ms := [.io, .v]) (takes_of rfl rfl rfl rfl) (ok__law_take T) (hr.mono (by decide) : Room 1 _) rfl T.m__law_take (T.F__law_take).kp T.b__law_take (a_cons (e_var 0 (pv 0)) (a_cons e_int a_nil))) (a_cons (e_call (ms := [.io, .v]) (takes_of rfl rfl rfl rfl) (ok__law_take T) (hr.mono (by decide) : Room 1 _) rfl T.m__law_take (T.F__law_take).kp T.b__law_take (a_cons (e_var 0 (pv 0)) (a_cons e_int a_nil))) a_nil))))))
    (b_cons (s_if (t_cmp (op_eqD hr.units) op2_eq (e_call (ms := [.io, .v]) (takes_of rfl rfl rfl rfl) (ok__law_take T) (hr.mono (by decide) : Room 1 _) rfl T.m__law_take (T.F__law_take).kp T.b__law_take (a_cons (e_var 0 (pv 0)) (a_cons e_int a_nil))) e_int (nomark _)) (b_one (s_set (i := 6) sc__law_drawn_rivals.nd rfl (by first | exact Or.inl rfl | exact Or.inr rfl) (e_tup (a_cons (e_varF 5 (pv 5)) (a_cons (e_varF 4 (pv 4)) (a_cons (e_call (ms := [.io, .v]) (takes_of rfl rfl rfl rfl) (ok__law_take T) (hr.mono (by decide) : Room 1 _) rfl T.m__law_take (T.F__law_take).kp T.b__law_take (a_cons (e_var 0 (pv 0)) (a_cons e_int a_nil))) (a_cons (e_call (ms := [.io, .v]) (takes_of rfl rfl rfl rfl) (ok__law_take T) (hr.mono (by decide) : Room 1 _) rfl T.m__law_take (T.F__law_take).kp T.b__law_take (a_cons (e_var 0 (pv 0)) (a_cons e_int a_nil))) a_nil))))))) b_nil)
    (b_cons (s_set (i := 7) sc__law_drawn_rivals.nd rfl (by first | exact Or.inl rfl | exact Or.inr rfl) (e_call (ms := [.io, .v]) (takes_of rfl rfl rfl rfl) (ok__law_take T) (hr.mono (by decide) : Room 1 _) rfl T.m__law_take (T.F__law_take).kp T.b__law_take (a_cons (e_var 0 (pv 0)) (a_cons (e_bin op_addA op2_add (e_callB call_len opN_len rfl T.z_len (by decide +kernel) (a_cons (e_var 3 (pv 3)) a_nil)) e_int) a_nil))))
    (b_one (s_expr (e_insert (pv 3) (a_cons (e_varF 7 (pv 7)) (a_cons (e_varF 6 (pv 6)) a_nil)))))))) b_nil)))))
    (b_one (s_ret (e_var 3 (pv 3)))))))
theorem sc_BadCrossingz_initz : FnScope ["self", "part", "place"] ["self", "part", "place"] (defScope s_BadCrossingz_initz) := ⟨rfl, rfl, rfl, by decide +kernel, rfl, by decide +kernel, by decide +kernel⟩
theorem ok_BadCrossingz_initz (T : Tx K mg) : FnOk P w K mg base CX0 1 T.f_BadCrossingz_initz T.fd_BadCrossingz_initz ["self", "part", "place"] (spEx2 K T.C_BadCrossing "part" "place") := fn_ex2 T.F_BadCrossingz_initz sc_BadCrossingz_initz T.ox_BadCrossing T.na_BadCrossing_part T.na_BadCrossing_place fun cdv A outer s H E => pss_cons (ps_ost (pv 0) (pv 1)) (pss_one (ps_ost (pv 0) (pv 2)))
theorem sc_is_name : FnScope ["text", "letter"] ["text"] (defScope s_is_name) := ⟨rfl, rfl, rfl, by decide +kernel, rfl, by decide +kernel, by decide +kernel⟩
def m_is_name : Ro → R EV := runF 1 (sRet (eAnd (eChain opLe opLe (eC (.int 1)) (eN bLen (aCons (eVar 0) aNil)) (eC (.int 8))) (eN bAll (aCons (eLc (iSg (eVar 0)) (gNm 1) tTrue (e2 (opInS false) (eVar 1) (eC (.str "abcdefghijklmnopqrstuvwxyz"))) [1]) aNil))))
theorem ok_is_name (T : Tx K mg) : FnOk P w K mg base (L2.CX P w) 1 T.f_is_name T.fd_is_name ["text"] (spM (DD T) 1 m_is_name) :=
  fn_ok T.F_is_name sc_is_name fun cdv A outer s H E φ hr =>
    (b_one (s_ret (e_and (e_chain op_le op_le op2_le op2_le e_int (e_callB call_len opN_len rfl T.z_len (by decide +kernel) (a_cons (e_var 0 (pv 0)) a_nil)) (e_globI rfl T.g_MOST_LETTERS)) (e_one (e_callB (cr_all rfl) opN_all rfl T.z_all (by decide +kernel) (a_cons (e_lc rfl sc_is_name.nd (i_sg (e_var 0 (pv 0))) (own := [("letter", 1)]) (show BlkOk ["text", "letter"] (defScope s_is_name) _ [("letter", 1)] from ⟨rfl, by decide +kernel, by decide +kernel, by decide +kernel, by decide +kernel⟩) (ix := [1]) (by decide) (fun s H C cl fp φ => (g_nm (i := 1) (by decide) sc_is_name.nd rfl (by first | exact Or.inl rfl | exact Or.inr rfl))) (fun s H C cl fp => pts_true) (fun s H C cl fp φ => (e_cmp op_in_sign op2_inS (e_var 1 (pv 1)) (e_globS rfl T.g_LETTERS) (by with_unfolding_all rfl)))) a_nil))))))
theorem sc_check_streams : FnScope ["streams", "place", "name"] ["streams"] (defScope s_check_streams) := ⟨rfl, rfl, rfl, by decide +kernel, rfl, by decide +kernel, by decide +kernel⟩
def m_check_streams : Ro → R EV := runF 2 (sSeq (sIf (tNot (tOf (eChain opLe opLe (eC (.int 1)) (eN bLen (aCons (eVar 0) aNil)) (eC (.int 6))))) (sRaiseN 20 [18, 8] (aCons (eC (.str "streams")) (aCons (eC (.int 0)) aNil))) sNx)
    (sFor (iEnA (aCons (eVarF 0) aNil)) (gTp 2 (gsCons (gNm 1) (gsCons (gNm 2) gsNil))) (sIf (tOr (tNot (tOf (eCall [.v] m_is_name (aCons (eVar 2) aNil)))) (tOf (e2 (opIn false) (eVar 2) (eSl (eVar 0) oNone (oSome (eVar 1)))))) (sRaiseN 20 [18, 8] (aCons (eC (.str "stream")) (aCons (eVarF 1) aNil))) sNx)))
theorem ok_check_streams (T : Tx K mg) : FnOk P w K mg base (L2.CX P w) 3 T.f_check_streams T.fd_check_streams ["streams"] (spM (DD T) 1 m_check_streams) :=
  fn_ok T.F_check_streams sc_check_streams fun cdv A outer s H E φ hr =>
    (b_cons (s_if (t_not (t_chain op_le op_le op2_le op2_le e_int (e_callB call_len opN_len rfl T.z_len (by decide +kernel) (a_cons (e_var 0 (pv 0)) a_nil)) (e_globI rfl T.g_MOST_STREAMS))) (b_one (s_raise2 (c := 20) (k1 := 8) (k2 := 18) rfl (takes_of rfl rfl rfl rfl) T.ox_BadCrossing T.fi_BadCrossing_zinitz T.tf_BadCrossingz_initz (ok_BadCrossingz_initz T) (hr.mono (by decide) : Room 2 _) T.b_BadCrossingz_initz rfl T.mC_BadCrossing rfl rfl e_str e_int)) b_nil)
    (b_one (s_for (ix := [1, 2]) (passes_of rfl) rfl (i_enA rfl T.z_enumerate (a_cons (e_varF 0 (pv 0)) a_nil)) (g_tp rfl (gs_cons (g_nm (i := 1) (by decide) sc_check_streams.nd rfl (by first | exact Or.inl rfl | exact Or.inr rfl)) (gs_cons (g_nm (i := 2) (by decide) sc_check_streams.nd rfl (by first | exact Or.inl rfl | exact Or.inr rfl)) gs_nil))) (b_one (s_if (t_w (w_or (t_not (t_val (e_call (ms := [.v]) (takes_of rfl rfl rfl rfl) (ok_is_name T) (hr.mono (by decide) : Room 1 _) rfl T.m_is_name (T.F_is_name).kp T.b_is_name (a_cons (e_var 2 (pv 2)) a_nil)))) (w_or1 (t_cmp op_in_seq (op2_in false) (e_var 2 (pv 2)) (e_slice (e_var 0 (pv 0)) o_none (o_some (e_var 1 (pv 1)))) (by with_unfolding_all rfl))))) (b_one (s_raise2 (c := 20) (k1 := 8) (k2 := 18) rfl (takes_of rfl rfl rfl rfl) T.ox_BadCrossing T.fi_BadCrossing_zinitz T.tf_BadCrossingz_initz (ok_BadCrossingz_initz T) (hr.mono (by decide) : Room 2 _) T.b_BadCrossingz_initz rfl T.mC_BadCrossing rfl rfl e_str (e_varF 1 (pv 1)))) b_nil)))))
theorem sc_is_rival : FnScope ["rival", "count", "first", "second", "forth", "back", "known"] ["rival", "count"] (defScope s_is_rival) := ⟨rfl, rfl, rfl, by decide +kernel, rfl, by decide +kernel, by decide +kernel⟩
def m_is_rival : Ro → R EV := runF 5 (sSeq (sIf (tOf (e2 (eqD true) (eN bLen (aCons (eVar 0) aNil)) (eC (.int 4)))) (sRet (eC (.bl false))) sNx)
    (sSeq (sAsg (gTp 4 (gsCons (gNm 2) (gsCons (gNm 3) (gsCons (gNm 4) (gsCons (gNm 5) gsNil))))) (eVarF 0))
    (sSeq (sSet 6 (eAnd (eChain opLe opLt (eC (.int 0)) (eVar 2) (eVar 1)) (eAnd (eChain opLe opLt (eC (.int 0)) (eVar 3) (eVar 1)) (e2 (eqD true) (eVar 2) (eVar 3)))))
    (sRet (eAnd (eVar 6) (eAnd (eChain opLe opLe (eC (.int 0)) (eVar 4) (eC (.int 9))) (eChain opLe opLe (eC (.int 0)) (eVar 5) (eC (.int 9)))))))))
theorem ok_is_rival (T : Tx K mg) : FnOk P w K mg base (L2.CX P w) 1 T.f_is_rival T.fd_is_rival ["rival", "count"] (spM (DD T) 2 m_is_rival) :=
  fn_ok T.F_is_rival sc_is_rival fun cdv A outer s H E φ hr =>
    (b_cons (s_if (t_cmp (op_neD hr.units) op2_ne (e_callB call_len opN_len rfl T.z_len (by decide +kernel) (a_cons (e_var 0 (pv 0)) a_nil)) e_int (nomark _)) (b_one (s_ret e_bl)) b_nil)
    (b_cons (s_asg (ix := [2, 3, 4, 5]) (e_varF 0 (pv 0)) (g_tp rfl (gs_cons (g_nm (i := 2) (by decide) sc_is_rival.nd rfl (by first | exact Or.inl rfl | exact Or.inr rfl)) (gs_cons (g_nm (i := 3) (by decide) sc_is_rival.nd rfl (by first | exact Or.inl rfl | exact Or.inr rfl)) (gs_cons (g_nm (i := 4) (by decide) sc_is_rival.nd rfl (by first | exact Or.inl rfl | exact Or.inr rfl)) (gs_cons (g_nm (i := 5) (by decide) sc_is_rival.nd rfl (by first | exact Or.inl rfl | exact Or.inr rfl)) gs_nil))))))
    (b_cons (s_set (i := 6) sc_is_rival.nd rfl (by first | exact Or.inl rfl | exact Or.inr rfl) (e_and (e_chain op_le op_lt op2_le op2_lt e_int (e_var 2 (pv 2)) (e_var 1 (pv 1))) (e_and (e_chain op_le op_lt op2_le op2_lt e_int (e_var 3 (pv 3)) (e_var 1 (pv 1))) (e_one (e_cmp (op_neD hr.units) op2_ne (e_var 2 (pv 2)) (e_var 3 (pv 3)) (nomark _))))))
    (b_one (s_ret (e_and (e_var 6 (pv 6)) (e_and (e_chain op_le op_le op2_le op2_le e_int (e_var 4 (pv 4)) (e_globI rfl T.g_MOST_SPAN)) (e_one (e_chain op_le op_le op2_le op2_le e_int (e_var 5 (pv 5)) (e_globI rfl T.g_MOST_SPAN))))))))))
theorem sc_spans_of : FnScope ["rivals", "count", "spans", "place", "rival", "first", "second", "forth", "back"] ["rivals", "count"] (defScope s_spans_of) := ⟨rfl, rfl, rfl, by decide +kernel, rfl, by decide +kernel, by decide +kernel⟩
def m_spans_of : Ro → R EV := runF 7 (sSeq (sDcNew 2)
    (sSeq (sFz 2 (sFor (iEnA (aCons (eVarF 0) aNil)) (gTp 2 (gsCons (gNm 3) (gsCons (gNm 4) gsNil))) (sSeq (sIf (tOr (tNot (tOf (eCall [.v, .v] m_is_rival (aCons (eVar 4) (aCons (eVar 1) aNil))))) (tDcIn 2 (aCons (e2 opIx (eVar 4) (eC (.int 0))) (aCons (e2 opIx (eVar 4) (eC (.int 1))) aNil)))) (sRaiseN 20 [18, 8] (aCons (eC (.str "rival")) (aCons (eVarF 3) aNil))) sNx)
    (sSeq (sAsg (gTp 4 (gsCons (gNm 5) (gsCons (gNm 6) (gsCons (gNm 7) (gsCons (gNm 8) gsNil))))) (eVarF 4))
    (sSeq (sDcSet 2 (eVarF 7) (aCons (eVarF 5) (aCons (eVarF 6) aNil)))
    (sDcSet 2 (eVarF 8) (aCons (eVarF 6) (aCons (eVarF 5) aNil))))))))
    (sRet (eVar 2))))
theorem ok_spans_of (T : Tx K mg) : FnOk P w K mg base (L2.CX P w) 3 T.f_spans_of T.fd_spans_of ["rivals", "count"] (spM (DD T) 2 m_spans_of) :=
  fn_ok T.F_spans_of sc_spans_of fun cdv A outer s H E φ hr =>
    (b_cons (s_dcNew (i := 2) sc_spans_of.nd rfl (by first | exact Or.inl rfl | exact Or.inr rfl))
    (b_cons (s_fz 2 (s_for (ix := [3, 4]) (passes_of rfl) rfl (i_enA rfl T.z_enumerate (a_cons (e_varF 0 (pv 0)) a_nil)) (g_tp rfl (gs_cons (g_nm (i := 3) (by decide) sc_spans_of.nd rfl (by first | exact Or.inl rfl | exact Or.inr rfl)) (gs_cons (g_nm (i := 4) (by decide) sc_spans_of.nd rfl (by first | exact Or.inl rfl | exact Or.inr rfl)) gs_nil))) (b_cons (s_if (t_w (w_or (t_not (t_val (e_call (ms := [.v, .v]) (takes_of rfl rfl rfl rfl) (ok_is_rival T) (hr.mono (by decide) : Room 1 _) rfl T.m_is_rival (T.F_is_rival).kp T.b_is_rival (a_cons (e_var 4 (pv 4)) (a_cons (e_var 1 (pv 1)) a_nil))))) (w_or1 (t_dcIn (i := 2) hr.units (a_cons (e_ix ix_seq op2_ix (e_var 4 (pv 4)) e_int) (a_cons (e_ix ix_seq op2_ix (e_var 4 (pv 4)) e_int) a_nil)) (pv 2) (by with_unfolding_all rfl))))) (b_one (s_raise2 (c := 20) (k1 := 8) (k2 := 18) rfl (takes_of rfl rfl rfl rfl) T.ox_BadCrossing T.fi_BadCrossing_zinitz T.tf_BadCrossingz_initz (ok_BadCrossingz_initz T) (hr.mono (by decide) : Room 2 _) T.b_BadCrossingz_initz rfl T.mC_BadCrossing rfl rfl e_str (e_varF 3 (pv 3)))) b_nil)
    (b_cons (s_asg (ix := [5, 6, 7, 8]) (e_varF 4 (pv 4)) (g_tp rfl (gs_cons (g_nm (i := 5) (by decide) sc_spans_of.nd rfl (by first | exact Or.inl rfl | exact Or.inr rfl)) (gs_cons (g_nm (i := 6) (by decide) sc_spans_of.nd rfl (by first | exact Or.inl rfl | exact Or.inr rfl)) (gs_cons (g_nm (i := 7) (by decide) sc_spans_of.nd rfl (by first | exact Or.inl rfl | exact Or.inr rfl)) (gs_cons (g_nm (i := 8) (by decide) sc_spans_of.nd rfl (by first | exact Or.inl rfl | exact Or.inr rfl)) gs_nil))))))
    (b_cons (s_dcSet (i := 2) hr.units (e_varF 7 (pv 7)) (a_cons (e_varF 5 (pv 5)) (a_cons (e_varF 6 (pv 6)) a_nil)) (pv 2))
    (b_one (s_dcSet (i := 2) hr.units (e_varF 8 (pv 8)) (a_cons (e_varF 6 (pv 6)) (a_cons (e_varF 5 (pv 5)) a_nil)) (pv 2))))))))
    (b_one (s_ret (e_var 2 (pv 2))))))
theorem sc_Crossingz_initz : FnScope ["self", "streams", "rivals", "rival"] ["self", "streams", "rivals"] (defScope s_Crossingz_initz) := ⟨rfl, rfl, rfl, by decide +kernel, rfl, by decide +kernel, by decide +kernel⟩
def m_Crossingz_initz : Ro → R EV := runF 1 (sSeq (sExpr (eCall [.v] m_check_streams (aCons (eVar 1) aNil)))
    (sSeq (sFld 0 21 21 (eCall [.v, .v] m_spans_of (aCons (eVar 2) (aCons (eN bLen (aCons (eVar 1) aNil)) aNil))))
    (sSeq (sFld 0 21 22 (eN bTuple (aCons (eVar 1) aNil)))
    (sFld 0 21 23 (eN bTuple (aCons (eLc (iAny (eVar 2)) (gNm 3) tTrue (eN bTuple (aCons (eVar 3) aNil)) [3]) aNil))))))
theorem ok_Crossingz_initz (T : Tx K mg) : FnOk P w K mg base (L2.CX P w) 4 T.f_Crossingz_initz T.fd_Crossingz_initz ["self", "streams", "rivals"] (spM (DD T) 3 m_Crossingz_initz) :=
  fn_ok T.F_Crossingz_initz sc_Crossingz_initz fun cdv A outer s H E φ hr =>
    (b_cons (s_expr (e_call (ms := [.v]) (takes_of rfl rfl rfl rfl) (ok_check_streams T) (hr.mono (by decide) : Room 3 _) rfl T.m_check_streams (T.F_check_streams).kp T.b_check_streams (a_cons (e_var 1 (pv 1)) a_nil)))
    (b_cons (s_fld (i := 0) (c := 21) (k := 21) rfl T.cl_Crossing T.na_Crossing__spans (pv 0) (e_call (ms := [.v, .v]) (takes_of rfl rfl rfl rfl) (ok_spans_of T) (hr.mono (by decide) : Room 3 _) rfl T.m_spans_of (T.F_spans_of).kp T.b_spans_of (a_cons (e_var 2 (pv 2)) (a_cons (e_callB call_len opN_len rfl T.z_len (by decide +kernel) (a_cons (e_var 1 (pv 1)) a_nil)) a_nil))))
    (b_cons (s_fld (i := 0) (c := 21) (k := 22) rfl T.cl_Crossing T.na_Crossing_streams (pv 0) (e_callTy call_tuple_of opN_tuple rfl T.z_tuple (by decide +kernel) (a_cons (e_var 1 (pv 1)) a_nil)))
    (b_one (s_fld (i := 0) (c := 21) (k := 23) rfl T.cl_Crossing T.na_Crossing_rivals (pv 0) (e_callTy call_tuple_of opN_tuple rfl T.z_tuple (by decide +kernel) (a_cons (e_lc rfl sc_Crossingz_initz.nd (i_any (e_var 2 (pv 2))) (own := [("rival", 3)]) (show BlkOk ["self", "streams", "rivals", "rival"] (defScope s_Crossingz_initz) _ [("rival", 3)] from ⟨rfl, by decide +kernel, by decide +kernel, by decide +kernel, by decide +kernel⟩) (ix := [3]) (by decide) (fun s H C cl fp φ => (g_nm (i := 3) (by decide) sc_Crossingz_initz.nd rfl (by first | exact Or.inl rfl | exact Or.inr rfl))) (fun s H C cl fp => pts_true) (fun s H C cl fp φ => (e_callTy call_tuple_of opN_tuple rfl T.z_tuple (by decide +kernel) (a_cons (e_var 3 (pv 3)) a_nil)))) a_nil)))))))
theorem sc__law_names : FnScope ["count"] ["count"] (defScope s__law_names) := ⟨rfl, rfl, rfl, by decide +kernel, rfl, by decide +kernel, by decide +kernel⟩
def m__law_names : Ro → R EV := runF 0 (sRet (eSl (eLst (aCons (eC (.str "a")) (aCons (eC (.str "b")) (aCons (eC (.str "ba")) (aCons (eC (.str "c")) (aCons (eC (.str "abc")) (aCons (eC (.str "zz")) aNil))))))) oNone (oSome (eVar 0))))
theorem ok__law_names (T : Tx K mg) : FnOk P w K mg base (L2.CX P w) 1 T.f__law_names T.fd__law_names ["count"] (spM (DD T) 1 m__law_names) :=
  fn_ok T.F__law_names sc__law_names fun cdv A outer s H E φ hr =>
    (b_one (s_ret (e_slice (e_lst (a_cons e_str (a_cons e_str (a_cons e_str (a_cons e_str (a_cons e_str (a_cons e_str a_nil))))))) o_none (o_some (e_var 0 (pv 0))))))
theorem sc__law_groups : FnScope ["count", "rows", "s", "row"] ["count"] (defScope s__law_groups) := ⟨rfl, rfl, rfl, by decide +kernel, rfl, by decide +kernel, by decide +kernel⟩
def m__law_groups : Ro → R EV := runF 3 (sSeq (sSet 1 (eFrz (eLst (aCons (eTup aNil) aNil))))
    (sSeq (sFor (iRange1 (aCons (eVar 0) aNil)) (gNm 2) (sSet 1 (eFrz (e2 opAdd (eVar 1) (eLc (iAny (eVar 1)) (gNm 3) tTrue (e2 opAdd (eVar 3) (eTup (aCons (eVarF 2) aNil))) [3])))))
    (sRet (eVar 1))))
theorem ok__law_groups (T : Tx K mg) : FnOk P w K mg base (L2.CX P w) 1 T.f__law_groups T.fd__law_groups ["count"] (spM (DD T) 1 m__law_groups) :=
  fn_ok T.F__law_groups sc__law_groups fun cdv A outer s H E φ hr =>
    (b_cons (s_set (i := 1) sc__law_groups.nd rfl (by first | exact Or.inl rfl | exact Or.inr rfl) (e_frz (e_lst (a_cons (e_tup a_nil) a_nil))))
    (b_cons (s_for (ix := [2]) (passes_of rfl) rfl (i_range1 rfl T.z_range (a_cons (e_var 0 (pv 0)) a_nil)) (g_nm (i := 2) (by decide) sc__law_groups.nd rfl (by first | exact Or.inl rfl | exact Or.inr rfl)) (b_one (s_set (i := 1) sc__law_groups.nd rfl (by first | exact Or.inl rfl | exact Or.inr rfl) (e_frz (e_bin op_addA op2_add (e_var 1 (pv 1)) (e_lc rfl sc__law_groups.nd (i_any (e_var 1 (pv 1))) (own := [("row", 3)]) (show BlkOk ["count", "rows", "s", "row"] (defScope s__law_groups) _ [("row", 3)] from ⟨rfl, by decide +kernel, by decide +kernel, by decide +kernel, by decide +kernel⟩) (ix := [3]) (by decide) (fun s H C cl fp φ => (g_nm (i := 3) (by decide) sc__law_groups.nd rfl (by first | exact Or.inl rfl | exact Or.inr rfl))) (fun s H C cl fp => pts_true) (fun s H C cl fp φ => (e_bin op_addA op2_add (e_var 3 (pv 3)) (e_tup (a_cons (e_varF 2 (pv 2)) a_nil))))))))))
    (b_one (s_ret (e_var 1 (pv 1))))))
theorem sc__law_inside : FnScope ["rivals", "streams", "r"] ["rivals", "streams"] (defScope s__law_inside) := ⟨rfl, rfl, rfl, by decide +kernel, rfl, by decide +kernel, by decide +kernel⟩
def m__law_inside : Ro → R EV := runF 1 (sRet (eN bLen (aCons (eLc (iAny (eVar 0)) (gNm 2) (tAnd (tOf (e2 (opIn false) (e2 opIx (eVar 2) (eC (.int 0))) (eVar 1))) (tOf (e2 (opIn false) (e2 opIx (eVar 2) (eC (.int 1))) (eVar 1)))) (eVarF 2) [2]) aNil)))
theorem ok__law_inside (T : Tx K mg) : FnOk P w K mg base (L2.CX P w) 1 T.f__law_inside T.fd__law_inside ["rivals", "streams"] (spM (DD T) 2 m__law_inside) :=
  fn_ok T.F__law_inside sc__law_inside fun cdv A outer s H E φ hr =>
    (b_one (s_ret (e_callB call_len opN_len rfl T.z_len (by decide +kernel) (a_cons (e_lc rfl sc__law_inside.nd (i_any (e_var 0 (pv 0))) (own := [("r", 2)]) (show BlkOk ["rivals", "streams", "r"] (defScope s__law_inside) _ [("r", 2)] from ⟨rfl, by decide +kernel, by decide +kernel, by decide +kernel, by decide +kernel⟩) (ix := [2]) (by decide) (fun s H C cl fp φ => (g_nm (i := 2) (by decide) sc__law_inside.nd rfl (by first | exact Or.inl rfl | exact Or.inr rfl))) (fun s H C cl fp => pts_ex (fun φ => (t_w (w_and (t_cmp op_in_seq (op2_in false) (e_ix ix_seq op2_ix (e_var 2 (pv 2)) e_int) (e_var 1 (pv 1)) (by with_unfolding_all rfl)) (w_and1 (t_cmp op_in_seq (op2_in false) (e_ix ix_seq op2_ix (e_var 2 (pv 2)) e_int) (e_var 1 (pv 1)) (by with_unfolding_all rfl))))))) (fun s H C cl fp φ => (e_varF 2 (pv 2)))) a_nil))))
theorem sc_choices : FnScope ["items", "found", "item", "part"] ["items"] (defScope s_choices) := ⟨rfl, rfl, rfl, by decide +kernel, rfl, by decide +kernel, by decide +kernel⟩
def m_choices : Ro → R EV := runF 3 (sSeq (sSet 1 (eFrz (eLst (aCons (eTup aNil) aNil))))
    (sSeq (sFor (iAny (eVar 0)) (gNm 2) (sSet 1 (eFrz (e2 opAdd (eVar 1) (eLc (iAny (eVar 1)) (gNm 3) tTrue (e2 opAdd (eVar 3) (eTup (aCons (eVarF 2) aNil))) [3])))))
    (sRet (eVar 1))))
theorem ok_choices (T : Tx K mg) : FnOk P w K mg base (L2.CX P w) 1 T.f_choices T.fd_choices ["items"] (spM (DD T) 1 m_choices) :=
  fn_ok T.F_choices sc_choices fun cdv A outer s H E φ hr =>
    (b_cons (s_set (i := 1) sc_choices.nd rfl (by first | exact Or.inl rfl | exact Or.inr rfl) (e_frz (e_lst (a_cons (e_tup a_nil) a_nil))))
    (b_cons (s_for (ix := [2]) (passes_of rfl) rfl (i_any (e_var 0 (pv 0))) (g_nm (i := 2) (by decide) sc_choices.nd rfl (by first | exact Or.inl rfl | exact Or.inr rfl)) (b_one (s_set (i := 1) sc_choices.nd rfl (by first | exact Or.inl rfl | exact Or.inr rfl) (e_frz (e_bin op_addA op2_add (e_var 1 (pv 1)) (e_lc rfl sc_choices.nd (i_any (e_var 1 (pv 1))) (own := [("part", 3)]) (show BlkOk ["items", "found", "item", "part"] (defScope s_choices) _ [("part", 3)] from ⟨rfl, by decide +kernel, by decide +kernel, by decide +kernel, by decide +kernel⟩) (ix := [3]) (by decide) (fun s H C cl fp φ => (g_nm (i := 3) (by decide) sc_choices.nd rfl (by first | exact Or.inl rfl | exact Or.inr rfl))) (fun s H C cl fp => pts_true) (fun s H C cl fp φ => (e_bin op_addA op2_add (e_var 3 (pv 3)) (e_tup (a_cons (e_varF 2 (pv 2)) a_nil))))))))))
    (b_one (s_ret (e_var 1 (pv 1))))))
theorem sc_Crossingz_lenz : FnScope ["self"] ["self"] (defScope s_Crossingz_lenz) := ⟨rfl, rfl, rfl, by decide +kernel, rfl, by decide +kernel, by decide +kernel⟩
def m_Crossingz_lenz : Ro → R EV := runF 0 (sRet (eN bLen (aCons (eFld [21] 22 (eVar 0)) aNil)))
theorem ok_Crossingz_lenz (T : Tx K mg) : FnOk P w K mg base (L2.CX P w) 1 T.f_Crossingz_lenz T.fd_Crossingz_lenz ["self"] (spM (DD T) 1 m_Crossingz_lenz) :=
  fn_ok T.F_Crossingz_lenz sc_Crossingz_lenz fun cdv A outer s H E φ hr =>
    (b_one (s_ret (e_callB call_len opN_len rfl T.z_len (by decide +kernel) (a_cons (e_fld [21] 22 rfl ⟨⟨T.cl_Crossing, T.na_Crossing_streams⟩, trivial⟩ (e_var 0 (pv 0))) a_nil))))
theorem sc_first_strange : FnScope ["entries", "count", "place", "entry"] ["entries", "count"] (defScope s_first_strange) := ⟨rfl, rfl, rfl, by decide +kernel, rfl, by decide +kernel, by decide +kernel⟩
def m_first_strange : Ro → R EV := runF 2 (sSeq (sFor (iEnA (aCons (eVarF 0) aNil)) (gTp 2 (gsCons (gNm 2) (gsCons (gNm 3) gsNil))) (sIf (tOr (tNot (tOf (eChain opLe opLt (eC (.int 0)) (eVar 3) (eVar 1)))) (tOf (e2 (opIn false) (eVar 3) (eSl (eVar 0) oNone (oSome (eVar 2)))))) (sRet (eVar 2)) sNx))
    (sRet (eC .non)))
theorem ok_first_strange (T : Tx K mg) : FnOk P w K mg base (L2.CX P w) 1 T.f_first_strange T.fd_first_strange ["entries", "count"] (spM (DD T) 2 m_first_strange) :=
  fn_ok T.F_first_strange sc_first_strange fun cdv A outer s H E φ hr =>
    (b_cons (s_for (ix := [2, 3]) (passes_of rfl) rfl (i_enA rfl T.z_enumerate (a_cons (e_varF 0 (pv 0)) a_nil)) (g_tp rfl (gs_cons (g_nm (i := 2) (by decide) sc_first_strange.nd rfl (by first | exact Or.inl rfl | exact Or.inr rfl)) (gs_cons (g_nm (i := 3) (by decide) sc_first_strange.nd rfl (by first | exact Or.inl rfl | exact Or.inr rfl)) gs_nil))) (b_one (s_if (t_w (w_or (t_not (t_chain op_le op_lt op2_le op2_lt e_int (e_var 3 (pv 3)) (e_var 1 (pv 1)))) (w_or1 (t_cmp op_in_seq (op2_in false) (e_var 3 (pv 3)) (e_slice (e_var 0 (pv 0)) o_none (o_some (e_var 2 (pv 2)))) (by with_unfolding_all rfl))))) (b_one (s_ret (e_var 2 (pv 2)))) b_nil)))
    (b_one (s_ret e_non)))
theorem sc_pairs_of : FnScope ["streams", "place", "first", "second"] ["streams"] (defScope s_pairs_of) := ⟨rfl, rfl, rfl, by decide +kernel, rfl, by decide +kernel, by decide +kernel⟩
def m_pairs_of : Ro → R EV := runF 3 (sRet (eLc2 (iEnA (aCons (eVarF 0) aNil)) (gTp 2 (gsCons (gNm 1) (gsCons (gNm 2) gsNil))) tTrue (iAny (eSl (eVar 0) (oSome (e2 opAdd (eVar 1) (eC (.int 1)))) oNone)) (gNm 3) tTrue (eTup (aCons (eVarF 2) (aCons (eVarF 3) aNil))) [1, 2, 3] [3]))
theorem ok_pairs_of (T : Tx K mg) : FnOk P w K mg base (L2.CX P w) 1 T.f_pairs_of T.fd_pairs_of ["streams"] (spM (DD T) 1 m_pairs_of) :=
  fn_ok T.F_pairs_of sc_pairs_of fun cdv A outer s H E φ hr =>
    (b_one (s_ret (e_lc2 rfl sc_pairs_of.nd (i_enA rfl T.z_enumerate (a_cons (e_varF 0 (pv 0)) a_nil)) (own := [("place", 1), ("first", 2), ("second", 3)]) (show BlkOk ["streams", "place", "first", "second"] (defScope s_pairs_of) _ [("place", 1), ("first", 2), ("second", 3)] from ⟨rfl, by decide +kernel, by decide +kernel, by decide +kernel, by decide +kernel⟩) (ix := [1, 2]) (ix1 := [3]) (vs1 := [3]) (by decide) (by decide) (by decide) (fun s H C cl fp φ => (g_tp rfl (gs_cons (g_nm (i := 1) (by decide) sc_pairs_of.nd rfl (by first | exact Or.inl rfl | exact Or.inr rfl)) (gs_cons (g_nm (i := 2) (by decide) sc_pairs_of.nd rfl (by first | exact Or.inl rfl | exact Or.inr rfl)) gs_nil)))) (fun s H C cl fp => pts_true) (fun s H C cl fp φ => (i_any (e_slice (e_var 0 (pv 0)) (o_some (e_bin op_addA op2_add (e_var 1 (pv 1)) e_int)) o_none))) (fun s H C cl fp φ => (g_nm (i := 3) (by decide) sc_pairs_of.nd rfl (by first | exact Or.inl rfl | exact Or.inr rfl))) (fun s H C cl fp => pts_true) (fun s H C cl fp φ => (e_tup (a_cons (e_varF 2 (pv 2)) (a_cons (e_varF 3 (pv 3)) a_nil)))))))
theorem sc_UnknownStreamz_initz : FnScope ["self", "number"] ["self", "number"] (defScope s_UnknownStreamz_initz) := ⟨rfl, rfl, rfl, by decide +kernel, rfl, by decide +kernel, by decide +kernel⟩
theorem ok_UnknownStreamz_initz (T : Tx K mg) : FnOk P w K mg base CX0 1 T.f_UnknownStreamz_initz T.fd_UnknownStreamz_initz ["self", "number"] (spEx1 K T.C_UnknownStream "number") := fn_ex1 T.F_UnknownStreamz_initz sc_UnknownStreamz_initz T.ox_UnknownStream T.na_UnknownStream_number fun cdv A outer s H E => pss_one (ps_ost (pv 0) (pv 1))
theorem sc_Crossingzcheck : FnScope ["self", "stream"] ["self", "stream"] (defScope s_Crossingzcheck) := ⟨rfl, rfl, rfl, by decide +kernel, rfl, by decide +kernel, by decide +kernel⟩
def m_Crossingzcheck : Ro → R EV := runF 0 (sIf (tNot (tOf (eChain opLe opLt (eC (.int 0)) (eVar 1) (eN bLen (aCons (eFld [21] 22 (eVar 0)) aNil))))) (sRaiseN 24 [12] (aCons (eVarF 1) aNil)) sNx)
theorem ok_Crossingzcheck (T : Tx K mg) : FnOk P w K mg base (L2.CX P w) 3 T.f_Crossingzcheck T.fd_Crossingzcheck ["self", "stream"] (spM (DD T) 2 m_Crossingzcheck) :=
  fn_ok T.F_Crossingzcheck sc_Crossingzcheck fun cdv A outer s H E φ hr =>
    (b_one (s_if (t_not (t_chain op_le op_lt op2_le op2_lt e_int (e_var 1 (pv 1)) (e_callB call_len opN_len rfl T.z_len (by decide +kernel) (a_cons (e_fld [21] 22 rfl ⟨⟨T.cl_Crossing, T.na_Crossing_streams⟩, trivial⟩ (e_var 0 (pv 0))) a_nil)))) (b_one (s_raise1 (c := 24) (k1 := 12) rfl (takes_of rfl rfl rfl rfl) T.ox_UnknownStream T.fi_UnknownStream_zinitz T.tf_UnknownStreamz_initz (ok_UnknownStreamz_initz T) (hr.mono (by decide) : Room 2 _) T.b_UnknownStreamz_initz rfl T.mC_UnknownStream rfl (e_varF 1 (pv 1)))) b_nil))
theorem sc_Crossing_span : FnScope ["self", "first", "second"] ["self", "first", "second"] (defScope s_Crossing_span) := ⟨rfl, rfl, rfl, by decide +kernel, rfl, by decide +kernel, by decide +kernel⟩
def m_Crossing_span : Ro → R EV := runF 0 (sSeq (sExpr (eMeth 21 24 [.v, .v] m_Crossingzcheck (eVar 0) (aCons (eVar 1) aNil)))
    (sSeq (sExpr (eMeth 21 24 [.v, .v] m_Crossingzcheck (eVar 0) (aCons (eVar 2) aNil)))
    (sRet (eDcGet (eFld [21] 21 (eVar 0)) (aCons (eVarF 1) (aCons (eVarF 2) aNil))))))
theorem ok_Crossing_span (T : Tx K mg) : FnOk P w K mg base (L2.CX P w) 4 T.f_Crossing_span T.fd_Crossing_span ["self", "first", "second"] (spM (DD T) 3 m_Crossing_span) :=
  fn_ok T.F_Crossing_span sc_Crossing_span fun cdv A outer s H E φ hr =>
    (b_cons (s_expr (e_meth 21 24 (ms := [.v, .v]) (takes_of rfl rfl rfl rfl) rfl T.cl_Crossing ⟨T.fi_Crossing__check, T.if_Crossingzcheck, (T.F_Crossingzcheck).kp⟩ (ok_Crossingzcheck T) (hr.mono (by decide) : Room 3 _) T.b_Crossingzcheck (e_var 0 (pv 0)) (a_cons (e_var 1 (pv 1)) a_nil)))
    (b_cons (s_expr (e_meth 21 24 (ms := [.v, .v]) (takes_of rfl rfl rfl rfl) rfl T.cl_Crossing ⟨T.fi_Crossing__check, T.if_Crossingzcheck, (T.F_Crossingzcheck).kp⟩ (ok_Crossingzcheck T) (hr.mono (by decide) : Room 3 _) T.b_Crossingzcheck (e_var 0 (pv 0)) (a_cons (e_var 2 (pv 2)) a_nil)))
    (b_one (s_ret (e_dcGet hr.units (e_fld [21] 21 rfl ⟨⟨T.cl_Crossing, T.na_Crossing__spans⟩, trivial⟩ (e_var 0 (pv 0))) (a_cons (e_varF 1 (pv 1)) (a_cons (e_varF 2 (pv 2)) a_nil)) ⟨rfl, rfl, rfl, rfl⟩)))))
theorem sc_are_rivals : FnScope ["crossing", "first", "second"] ["crossing", "first", "second"] (defScope s_are_rivals) := ⟨rfl, rfl, rfl, by decide +kernel, rfl, by decide +kernel, by decide +kernel⟩
def m_are_rivals : Ro → R EV := runF 0 (sRet (e2 notNo (eMeth 21 25 [.v, .v, .v] m_Crossing_span (eVar 0) (aCons (eVar 1) (aCons (eVar 2) aNil))) (eC .non)))
theorem ok_are_rivals (T : Tx K mg) : FnOk P w K mg base (L2.CX P w) 5 T.f_are_rivals T.fd_are_rivals ["crossing", "first", "second"] (spM (DD T) 3 m_are_rivals) :=
  fn_ok T.F_are_rivals sc_are_rivals fun cdv A outer s H E φ hr =>
    (b_one (s_ret (e_cmp op_notN op2_notN (e_meth 21 25 (ms := [.v, .v, .v]) (takes_of rfl rfl rfl rfl) rfl T.cl_Crossing ⟨T.fi_Crossing_span, T.if_Crossing_span, (T.F_Crossing_span).kp⟩ (ok_Crossing_span T) (hr.mono (by decide) : Room 4 _) T.b_Crossing_span (e_var 0 (pv 0)) (a_cons (e_var 1 (pv 1)) (a_cons (e_var 2 (pv 2)) a_nil))) e_non (nomark _))))
theorem sc_is_stage : FnScope ["crossing", "streams", "first", "second"] ["crossing", "streams"] (defScope s_is_stage) := ⟨rfl, rfl, rfl, by decide +kernel, rfl, by decide +kernel, by decide +kernel⟩
def m_is_stage : Ro → R EV := runF 2 (sSeq (sIf (tOf (e2 notNo (eCall [.v, .v] m_first_strange (aCons (eVar 1) (aCons (eLenI (eOwn1 21 m_Crossingz_lenz (eVar 0))) aNil))) (eC .non))) (sRet (eC (.bl false))) sNx)
    (sRet (eNot (eN bAny (aCons (eLc (iAny (eCall [.v] m_pairs_of (aCons (eVar 1) aNil))) (gTp 2 (gsCons (gNm 2) (gsCons (gNm 3) gsNil))) tTrue (eCall [.v, .v, .v] m_are_rivals (aCons (eVar 0) (aCons (eVar 2) (aCons (eVar 3) aNil)))) [2, 3]) aNil)))))
theorem ok_is_stage (T : Tx K mg) : FnOk P w K mg base (L2.CX P w) 6 T.f_is_stage T.fd_is_stage ["crossing", "streams"] (spM (DD T) 2 m_is_stage) :=
  fn_ok T.F_is_stage sc_is_stage fun cdv A outer s H E φ hr =>
    (b_cons (s_if (t_cmp op_notN op2_notN (e_call (ms := [.v, .v]) (takes_of rfl rfl rfl rfl) (ok_first_strange T) (hr.mono (by decide) : Room 1 _) rfl T.m_first_strange (T.F_first_strange).kp T.b_first_strange (a_cons (e_var 1 (pv 1)) (a_cons (e_ownLen (takes_of rfl rfl rfl rfl) ⟨T.fi_Crossing_zlenz, T.if_Crossingz_lenz⟩ (ok_Crossingz_lenz T) (hr.mono (by decide) : Room (1 + 1) _) T.b_Crossingz_lenz rfl T.z_len (e_var 0 (pv 0))) a_nil))) e_non (nomark _)) (b_one (s_ret e_bl)) b_nil)
    (b_one (s_ret (e_not (e_callB (cr_any rfl) opN_any rfl T.z_any (by decide +kernel) (a_cons (e_lc rfl sc_is_stage.nd (i_any (e_call (ms := [.v]) (takes_of rfl rfl rfl rfl) (ok_pairs_of T) (hr.mono (by decide) : Room 1 _) rfl T.m_pairs_of (T.F_pairs_of).kp T.b_pairs_of (a_cons (e_var 1 (pv 1)) a_nil))) (own := [("first", 2), ("second", 3)]) (show BlkOk ["crossing", "streams", "first", "second"] (defScope s_is_stage) _ [("first", 2), ("second", 3)] from ⟨rfl, by decide +kernel, by decide +kernel, by decide +kernel, by decide +kernel⟩) (ix := [2, 3]) (by decide) (fun s H C cl fp φ => (g_tp rfl (gs_cons (g_nm (i := 2) (by decide) sc_is_stage.nd rfl (by first | exact Or.inl rfl | exact Or.inr rfl)) (gs_cons (g_nm (i := 3) (by decide) sc_is_stage.nd rfl (by first | exact Or.inl rfl | exact Or.inr rfl)) gs_nil)))) (fun s H C cl fp => pts_true) (fun s H C cl fp φ => (e_call (ms := [.v, .v, .v]) takesW0 (ok_are_rivals T) (hr.mono (by decide) : Room 5 _) rfl T.m_are_rivals (T.F_are_rivals).kp T.b_are_rivals (a_cons (e_var 0 (pv 0)) (a_cons (e_var 2 (pv 2)) (a_cons (e_var 3 (pv 3)) a_nil)))))) a_nil))))))
theorem sc_stages : FnScope ["crossing", "parts", "part"] ["crossing"] (defScope s_stages) := ⟨rfl, rfl, rfl, by decide +kernel, rfl, by decide +kernel, by decide +kernel⟩
def m_stages : Ro → R EV := runF 2 (sSeq (sSet 1 (eFrz (eCall [.v] m_choices (aCons (e1 oRg1 (eLenI (eOwn1 21 m_Crossingz_lenz (eVar 0)))) aNil))))
    (sRet (eN bSortD (aCons (eLc (iAny (eVar 1)) (gNm 2) (tAnd (tOf (e2 opGt (eN bLen (aCons (eVar 2) aNil)) (eC (.int 0)))) (tOf (eCall [.v, .v] m_is_stage (aCons (eVar 0) (aCons (eVar 2) aNil))))) (eVarF 2) [2]) aNil))))
theorem ok_stages (T : Tx K mg) : FnOk P w K mg base (L2.CX P w) 7 T.f_stages T.fd_stages ["crossing"] (spM (DD T) 1 m_stages) :=
  fn_ok T.F_stages sc_stages fun cdv A outer s H E φ hr =>
    (b_cons (s_set (i := 1) sc_stages.nd rfl (by first | exact Or.inl rfl | exact Or.inr rfl) (e_frz (e_call (ms := [.v]) (takes_of rfl rfl rfl rfl) (ok_choices T) (hr.mono (by decide) : Room 1 _) rfl T.m_choices (T.F_choices).kp T.b_choices (a_cons (e_listRg1 rfl (by rfl) T.z_list (by rfl) T.z_range (e_ownLen (takes_of rfl rfl rfl rfl) ⟨T.fi_Crossing_zlenz, T.if_Crossingz_lenz⟩ (ok_Crossingz_lenz T) (hr.mono (by decide) : Room (1 + 1) _) T.b_Crossingz_lenz (by rfl) T.z_len (e_var 0 (pv 0)))) a_nil))))
    (b_one (s_ret (e_callB (cr_sortD hr.units) opN_sortD rfl T.z_sorted (by decide +kernel) (a_cons (e_lc rfl sc_stages.nd (i_any (e_var 1 (pv 1))) (own := [("part", 2)]) (show BlkOk ["crossing", "parts", "part"] (defScope s_stages) _ [("part", 2)] from ⟨rfl, by decide +kernel, by decide +kernel, by decide +kernel, by decide +kernel⟩) (ix := [2]) (by decide) (fun s H C cl fp φ => (g_nm (i := 2) (by decide) sc_stages.nd rfl (by first | exact Or.inl rfl | exact Or.inr rfl))) (fun s H C cl fp => pts_ex (fun φ => (t_w (w_and (t_cmp op_gt op2_gt (e_callB call_len opN_len rfl T.z_len (by decide +kernel) (a_cons (e_var 2 (pv 2)) a_nil)) e_int (nomark _)) (w_and1 (t_val (e_call (ms := [.v, .v]) takesW0 (ok_is_stage T) (hr.mono (by decide) : Room 6 _) rfl T.m_is_stage (T.F_is_stage).kp T.b_is_stage (a_cons (e_var 0 (pv 0)) (a_cons (e_var 2 (pv 2)) a_nil))))))))) (fun s H C cl fp φ => (e_varF 2 (pv 2)))) a_nil)))))
theorem sc__law_is_int : FnScope ["got"] ["got"] (defScope s__law_is_int) := ⟨rfl, rfl, rfl, by decide +kernel, rfl, by decide +kernel, by decide +kernel⟩
def m__law_is_int : Ro → R EV := runF 0 (sRet (eAnd (eIsi (kIs kInt []) (eVar 0)) (eNot (eIsi (kIs kBool []) (eVar 0)))))
theorem ok__law_is_int (T : Tx K mg) : FnOk P w K mg base (L2.CX P w) 1 T.f__law_is_int T.fd__law_is_int ["got"] (spM (DD T) 1 m__law_is_int) :=
  fn_ok T.F__law_is_int sc__law_is_int fun cdv A outer s H E φ hr =>
    (b_one (s_ret (e_and (e_isT (cs := []) kit_int trivial rfl T.z_isinstance rfl T.z_int (by decide +kernel) (e_var 0 (pv 0))) (e_one (e_not (e_isT (cs := []) kit_bool trivial rfl T.z_isinstance rfl T.z_bool (by decide +kernel) (e_var 0 (pv 0))))))))
theorem sc__law_same : FnScope ["got", "due", "k"] ["got", "due"] (defScope s__law_same) := ⟨rfl, rfl, rfl, by decide +kernel, rfl, by decide +kernel, by decide +kernel⟩
def m__law_same : Nat → Ro → R EV
  | 0 => fun _ => .bad
  | n + 1 => runF 1 (sSeq (sIf (tOf (e2 isNo (eVar 1) (eC .non))) (sRet (e2 isNo (eVar 0) (eC .non))) sNx)
    (sSeq (sIf (tOr (tOf (e2 (isCo true) (eVar 1) (eC (.bl true)))) (tOf (e2 (isCo false) (eVar 1) (eC (.bl false))))) (sRet (eAnd (eIsi (kIs kBool []) (eVar 0)) (e2 (eqD false) (eVar 0) (eVar 1)))) sNx)
    (sSeq (sIf (tOf (eIsi (kIs kInt []) (eVar 1))) (sRet (eAnd (eCall [.v] m__law_is_int (aCons (eVar 0) aNil)) (e2 (eqD false) (eVar 0) (eVar 1)))) sNx)
    (sSeq (sIf (tOf (eIsi (kIs kStr []) (eVar 1))) (sRet (eAnd (eIsi (kIs kStr []) (eVar 0)) (e2 (eqD false) (eVar 0) (eVar 1)))) sNx)
    (sSeq (sIf (tAnd (tOf (eIsi (kIs kTup []) (eVar 1))) (tNot (tOf (eIsi (kIs kTup []) (eVar 0))))) (sRet (eC (.bl false))) sNx)
    (sSeq (sIf (tAnd (tOf (eIsi (kIs kLst []) (eVar 1))) (tNot (tOf (eIsi (kIs kLst []) (eVar 0))))) (sRet (eC (.bl false))) sNx)
    (sSeq (sIf (tOf (e2 (eqD true) (eN bLen (aCons (eVar 0) aNil)) (eN bLen (aCons (eVar 1) aNil)))) (sRet (eC (.bl false))) sNx)
    (sSeq (sFor (iRange1 (aCons (eN bLen (aCons (eVar 1) aNil)) aNil)) (gNm 2) (sIf (tNot (tOf (eCall [.v, .v] (m__law_same n) (aCons (e2 opIx (eVar 0) (eVar 2)) (aCons (e2 opIx (eVar 1) (eVar 2)) aNil))))) (sRet (eC (.bl false))) sNx))
    (sRet (eC (.bl true)))))))))))
theorem ok__law_same (T : Tx K mg) : ∀ n : Nat, FnOk P w K mg base (L2.CX P w) (2 + n) T.f__law_same T.fd__law_same ["got", "due"] (spM (DD T) 2 (m__law_same n))
  | 0 => (fn_bad T.F__law_same sc__law_same)
  | n + 1 => have ih := ok__law_same T n
    fn_ok T.F__law_same sc__law_same fun cdv A outer s H E φ hr0 =>
    have hr : Room (2 + n) _ := hr0
    (b_cons (s_if (t_cmp op_isN op2_isN (e_var 1 (pv 1)) e_non (nomark _)) (b_one (s_ret (e_cmp op_isN op2_isN (e_var 0 (pv 0)) e_non (nomark _)))) b_nil)
    (b_cons (s_if (t_w (w_or (t_cmp (op_isC true) (op2_isC true) (e_var 1 (pv 1)) e_bl (nomark _)) (w_or1 (t_cmp (op_isC false) (op2_isC false) (e_var 1 (pv 1)) e_bl (nomark _))))) (b_one (s_ret (e_and (e_isT (cs := []) kit_bool trivial rfl T.z_isinstance rfl T.z_bool (by decide +kernel) (e_var 0 (pv 0))) (e_one (e_cmp (op_eqD hr.units) op2_eq (e_var 0 (pv 0)) (e_var 1 (pv 1)) (nomark _)))))) b_nil)
    (b_cons (s_if (t_val (e_isT (cs := []) kit_int trivial rfl T.z_isinstance rfl T.z_int (by decide +kernel) (e_var 1 (pv 1)))) (b_one (s_ret (e_and (e_call (ms := [.v]) (takes_of rfl rfl rfl rfl) (ok__law_is_int T) (hr.mono (by omega) : Room 1 _) rfl T.m__law_is_int (T.F__law_is_int).kp T.b__law_is_int (a_cons (e_var 0 (pv 0)) a_nil)) (e_one (e_cmp (op_eqD hr.units) op2_eq (e_var 0 (pv 0)) (e_var 1 (pv 1)) (nomark _)))))) b_nil)
    (b_cons (s_if (t_val (e_isT (cs := []) kit_str trivial rfl T.z_isinstance rfl T.z_str (by decide +kernel) (e_var 1 (pv 1)))) (b_one (s_ret (e_and (e_isT (cs := []) kit_str trivial rfl T.z_isinstance rfl T.z_str (by decide +kernel) (e_var 0 (pv 0))) (e_one (e_cmp (op_eqD hr.units) op2_eq (e_var 0 (pv 0)) (e_var 1 (pv 1)) (nomark _)))))) b_nil)
    (b_cons (s_if (t_w (w_and (t_val (e_isT (cs := []) kit_tup trivial rfl T.z_isinstance rfl T.z_tuple (by decide +kernel) (e_var 1 (pv 1)))) (w_and1 (t_not (t_val (e_isT (cs := []) kit_tup trivial rfl T.z_isinstance rfl T.z_tuple (by decide +kernel) (e_var 0 (pv 0)))))))) (b_one (s_ret e_bl)) b_nil)
    (b_cons (s_if (t_w (w_and (t_val (e_isT (cs := []) kit_lst trivial rfl T.z_isinstance rfl T.z_list (by decide +kernel) (e_var 1 (pv 1)))) (w_and1 (t_not (t_val (e_isT (cs := []) kit_lst trivial rfl T.z_isinstance rfl T.z_list (by decide +kernel) (e_var 0 (pv 0)))))))) (b_one (s_ret e_bl)) b_nil)
    (b_cons (s_if (t_cmp (op_neD hr.units) op2_ne (e_callB call_len opN_len rfl T.z_len (by decide +kernel) (a_cons (e_var 0 (pv 0)) a_nil)) (e_callB call_len opN_len rfl T.z_len (by decide +kernel) (a_cons (e_var 1 (pv 1)) a_nil)) (nomark _)) (b_one (s_ret e_bl)) b_nil)
    (b_cons (s_for (ix := [2]) (passes_of rfl) rfl (i_range1 rfl T.z_range (a_cons (e_callB call_len opN_len rfl T.z_len (by decide +kernel) (a_cons (e_var 1 (pv 1)) a_nil)) a_nil)) (g_nm (i := 2) (by decide) sc__law_same.nd rfl (by first | exact Or.inl rfl | exact Or.inr rfl)) (b_one (s_if (t_not (t_val (e_call (takes_of rfl rfl rfl rfl) ih (hr.mono (by omega)) rfl T.m__law_same (T.F__law_same).kp T.b__law_same (a_cons (e_ix ix_seq op2_ix (e_var 0 (pv 0)) (e_var 2 (pv 2))) (a_cons (e_ix ix_seq op2_ix (e_var 1 (pv 1)) (e_var 2 (pv 2))) a_nil))))) (b_one (s_ret e_bl)) b_nil)))
    (b_one (s_ret e_bl))))))))))
theorem sc_is_part : FnScope ["small", "great", "stream"] ["small", "great"] (defScope s_is_part) := ⟨rfl, rfl, rfl, by decide +kernel, rfl, by decide +kernel, by decide +kernel⟩
def m_is_part : Ro → R EV := runF 1 (sRet (eAnd (e2 opLt (eN bLen (aCons (eVar 0) aNil)) (eN bLen (aCons (eVar 1) aNil))) (eN bAll (aCons (eLc (iAny (eVar 0)) (gNm 2) tTrue (e2 (opIn false) (eVar 2) (eVar 1)) [2]) aNil))))
theorem ok_is_part (T : Tx K mg) : FnOk P w K mg base (L2.CX P w) 1 T.f_is_part T.fd_is_part ["small", "great"] (spM (DD T) 2 m_is_part) :=
  fn_ok T.F_is_part sc_is_part fun cdv A outer s H E φ hr =>
    (b_one (s_ret (e_and (e_cmp op_lt op2_lt (e_callB call_len opN_len rfl T.z_len (by decide +kernel) (a_cons (e_var 0 (pv 0)) a_nil)) (e_callB call_len opN_len rfl T.z_len (by decide +kernel) (a_cons (e_var 1 (pv 1)) a_nil)) (nomark _)) (e_one (e_callB (cr_all rfl) opN_all rfl T.z_all (by decide +kernel) (a_cons (e_lc rfl sc_is_part.nd (i_any (e_var 0 (pv 0))) (own := [("stream", 2)]) (show BlkOk ["small", "great", "stream"] (defScope s_is_part) _ [("stream", 2)] from ⟨rfl, by decide +kernel, by decide +kernel, by decide +kernel, by decide +kernel⟩) (ix := [2]) (by decide) (fun s H C cl fp φ => (g_nm (i := 2) (by decide) sc_is_part.nd rfl (by first | exact Or.inl rfl | exact Or.inr rfl))) (fun s H C cl fp => pts_true) (fun s H C cl fp φ => (e_cmp op_in_seq (op2_in false) (e_var 2 (pv 2)) (e_var 1 (pv 1)) (by with_unfolding_all rfl)))) a_nil))))))
theorem sc_greatest_stages : FnScope ["crossing", "known", "small", "great"] ["crossing"] (defScope s_greatest_stages) := ⟨rfl, rfl, rfl, by decide +kernel, rfl, by decide +kernel, by decide +kernel⟩
def m_greatest_stages : Ro → R EV := runF 3 (sSeq (sSet 1 (eFrz (eCall [.v] m_stages (aCons (eVar 0) aNil))))
    (sRet (eLc (iAny (eVar 1)) (gNm 2) (tNot (tOf (eN bAny (aCons (eLc (iAny (eVar 1)) (gNm 3) tTrue (eCall [.v, .v] m_is_part (aCons (eVar 2) (aCons (eVar 3) aNil))) [3]) aNil)))) (eVarF 2) [2])))
theorem ok_greatest_stages (T : Tx K mg) : FnOk P w K mg base (L2.CX P w) 8 T.f_greatest_stages T.fd_greatest_stages ["crossing"] (spM (DD T) 1 m_greatest_stages) :=
  fn_ok T.F_greatest_stages sc_greatest_stages fun cdv A outer s H E φ hr =>
    (b_cons (s_set (i := 1) sc_greatest_stages.nd rfl (by first | exact Or.inl rfl | exact Or.inr rfl) (e_frz (e_call (ms := [.v]) (takes_of rfl rfl rfl rfl) (ok_stages T) (hr.mono (by decide) : Room 7 _) rfl T.m_stages (T.F_stages).kp T.b_stages (a_cons (e_var 0 (pv 0)) a_nil))))
    (b_one (s_ret (e_lc rfl sc_greatest_stages.nd (i_any (e_var 1 (pv 1))) (own := [("small", 2)]) (show BlkOk ["crossing", "known", "small", "great"] (defScope s_greatest_stages) _ [("small", 2)] from ⟨rfl, by decide +kernel, by decide +kernel, by decide +kernel, by decide +kernel⟩) (ix := [2]) (by decide) (fun s H C cl fp φ => (g_nm (i := 2) (by decide) sc_greatest_stages.nd rfl (by first | exact Or.inl rfl | exact Or.inr rfl))) (fun s H C cl fp => pts_ex (fun φ => (t_not (t_val (e_callB (cr_any rfl) opN_any rfl T.z_any (by decide +kernel) (a_cons (e_lc rfl sc_greatest_stages.nd (i_any (e_var 1 (pv 1))) (own := [("great", 3)]) (show BlkOk ["crossing", "known", "small", "great"] { kind := .function, names := [(".0", .local), ("small", .cell), ("any", .globalImplicit), ("known", .cell)], isGenerator := false, isCoroutine := false } _ [("great", 3)] from ⟨rfl, by decide +kernel, by decide +kernel, by decide +kernel, by decide +kernel⟩) (ix := [3]) (by decide) (fun s H C cl fp φ => (g_nm (i := 3) (by decide) sc_greatest_stages.nd rfl (by first | exact Or.inl rfl | exact Or.inr rfl))) (fun s H C cl fp => pts_true) (fun s H C cl fp φ => (e_call (ms := [.v, .v]) takesW0 (ok_is_part T) (hr.mono (by decide) : Room 1 _) rfl T.m_is_part (T.F_is_part).kp T.b_is_part (a_cons (e_var 2 (pv 2)) (a_cons (e_var 3 (pv 3)) a_nil))))) a_nil)))))) (fun s H C cl fp φ => (e_varF 2 (pv 2)))))))
theorem sc_is_crowd : FnScope ["crossing", "streams", "first", "second"] ["crossing", "streams"] (defScope s_is_crowd) := ⟨rfl, rfl, rfl, by decide +kernel, rfl, by decide +kernel, by decide +kernel⟩
def m_is_crowd : Ro → R EV := runF 2 (sSeq (sIf (tOr (tOf (e2 (eqD false) (eN bLen (aCons (eVar 1) aNil)) (eC (.int 0)))) (tOf (e2 notNo (eCall [.v, .v] m_first_strange (aCons (eVar 1) (aCons (eLenI (eOwn1 21 m_Crossingz_lenz (eVar 0))) aNil))) (eC .non)))) (sRet (eC (.bl false))) sNx)
    (sRet (eN bAll (aCons (eLc (iAny (eCall [.v] m_pairs_of (aCons (eVar 1) aNil))) (gTp 2 (gsCons (gNm 2) (gsCons (gNm 3) gsNil))) tTrue (eCall [.v, .v, .v] m_are_rivals (aCons (eVar 0) (aCons (eVar 2) (aCons (eVar 3) aNil)))) [2, 3]) aNil))))
theorem ok_is_crowd (T : Tx K mg) : FnOk P w K mg base (L2.CX P w) 6 T.f_is_crowd T.fd_is_crowd ["crossing", "streams"] (spM (DD T) 2 m_is_crowd) :=
  fn_ok T.F_is_crowd sc_is_crowd fun cdv A outer s H E φ hr =>
    (b_cons (s_if (t_w (w_or (t_cmp (op_eqD hr.units) op2_eq (e_callB call_len opN_len rfl T.z_len (by decide +kernel) (a_cons (e_var 1 (pv 1)) a_nil)) e_int (nomark _)) (w_or1 (t_cmp op_notN op2_notN (e_call (ms := [.v, .v]) (takes_of rfl rfl rfl rfl) (ok_first_strange T) (hr.mono (by decide) : Room 1 _) rfl T.m_first_strange (T.F_first_strange).kp T.b_first_strange (a_cons (e_var 1 (pv 1)) (a_cons (e_ownLen (takes_of rfl rfl rfl rfl) ⟨T.fi_Crossing_zlenz, T.if_Crossingz_lenz⟩ (ok_Crossingz_lenz T) (hr.mono (by decide) : Room (1 + 1) _) T.b_Crossingz_lenz rfl T.z_len (e_var 0 (pv 0))) a_nil))) e_non (nomark _))))) (b_one (s_ret e_bl)) b_nil)
    (b_one (s_ret (e_callB (cr_all rfl) opN_all rfl T.z_all (by decide +kernel) (a_cons (e_lc rfl sc_is_crowd.nd (i_any (e_call (ms := [.v]) (takes_of rfl rfl rfl rfl) (ok_pairs_of T) (hr.mono (by decide) : Room 1 _) rfl T.m_pairs_of (T.F_pairs_of).kp T.b_pairs_of (a_cons (e_var 1 (pv 1)) a_nil))) (own := [("first", 2), ("second", 3)]) (show BlkOk ["crossing", "streams", "first", "second"] (defScope s_is_crowd) _ [("first", 2), ("second", 3)] from ⟨rfl, by decide +kernel, by decide +kernel, by decide +kernel, by decide +kernel⟩) (ix := [2, 3]) (by decide) (fun s H C cl fp φ => (g_tp rfl (gs_cons (g_nm (i := 2) (by decide) sc_is_crowd.nd rfl (by first | exact Or.inl rfl | exact Or.inr rfl)) (gs_cons (g_nm (i := 3) (by decide) sc_is_crowd.nd rfl (by first | exact Or.inl rfl | exact Or.inr rfl)) gs_nil)))) (fun s H C cl fp => pts_true) (fun s H C cl fp φ => (e_call (ms := [.v, .v, .v]) takesW0 (ok_are_rivals T) (hr.mono (by decide) : Room 5 _) rfl T.m_are_rivals (T.F_are_rivals).kp T.b_are_rivals (a_cons (e_var 0 (pv 0)) (a_cons (e_var 2 (pv 2)) (a_cons (e_var 3 (pv 3)) a_nil)))))) a_nil)))))
theorem sc_greatest_crowd : FnScope ["crossing", "crowds", "part", "most", "crowd"] ["crossing"] (defScope s_greatest_crowd) := ⟨rfl, rfl, rfl, by decide +kernel, rfl, by decide +kernel, by decide +kernel⟩
def m_greatest_crowd : Ro → R EV := runF 4 (sSeq (sFz 1 (sSet 1 (eLc (iAny (eCall [.v] m_choices (aCons (e1 oRg1 (eLenI (eOwn1 21 m_Crossingz_lenz (eVar 0)))) aNil))) (gNm 2) (tOf (eCall [.v, .v] m_is_crowd (aCons (eVar 0) (aCons (eVar 2) aNil)))) (eVarF 2) [2])))
    (sSeq (sSet 3 (eN bMaxL (aCons (eLc (iAny (eVarF 1)) (gNm 4) tTrue (eN bLen (aCons (eVar 4) aNil)) [4]) aNil)))
    (sRet (eN (bMinD PySem.W.minD) (aCons (eLc (iAny (eVarF 1)) (gNm 4) (tOf (e2 (eqD false) (eN bLen (aCons (eVar 4) aNil)) (eVar 3))) (eVarF 4) [4]) aNil)))))
theorem ok_greatest_crowd (T : Tx K mg) : FnOk P w K mg base (L2.CX P w) 7 T.f_greatest_crowd T.fd_greatest_crowd ["crossing"] (spM (DD T) 1 m_greatest_crowd) :=
  fn_ok T.F_greatest_crowd sc_greatest_crowd fun cdv A outer s H E φ hr =>
    (b_cons (s_fz 1 (s_setLc (i := 1) rfl sc_greatest_crowd.nd rfl rfl (i_any (e_call (ms := [.v]) (takes_of rfl rfl rfl rfl) (ok_choices T) (hr.mono (by decide) : Room 1 _) rfl T.m_choices (T.F_choices).kp T.b_choices (a_cons (e_listRg1 rfl (by rfl) T.z_list (by rfl) T.z_range (e_ownLen (takes_of rfl rfl rfl rfl) ⟨T.fi_Crossing_zlenz, T.if_Crossingz_lenz⟩ (ok_Crossingz_lenz T) (hr.mono (by decide) : Room (1 + 1) _) T.b_Crossingz_lenz (by rfl) T.z_len (e_var 0 (pv 0)))) a_nil))) (own := [("part", 2)]) (show BlkOk ["crossing", "crowds", "part", "most", "crowd"] (defScope s_greatest_crowd) _ [("part", 2)] from ⟨rfl, by decide +kernel, by decide +kernel, by decide +kernel, by decide +kernel⟩) (ix := [2]) (by decide) (fun s H C cl fp φ => (g_nm (i := 2) (by decide) sc_greatest_crowd.nd rfl (by first | exact Or.inl rfl | exact Or.inr rfl))) (fun s H C cl fp => pts_ex (fun φ => (t_val (e_call (ms := [.v, .v]) takesW0 (ok_is_crowd T) (hr.mono (by decide) : Room 6 _) rfl T.m_is_crowd (T.F_is_crowd).kp T.b_is_crowd (a_cons (e_var 0 (pv 0)) (a_cons (e_var 2 (pv 2)) a_nil)))))) (fun s H C cl fp φ => (e_varF 2 (pv 2)))))
    (b_cons (s_set (i := 3) sc_greatest_crowd.nd rfl (by first | exact Or.inl rfl | exact Or.inr rfl) (e_callB (cr_max rfl) opN_maxL rfl T.z_max (by decide +kernel) (a_cons (e_lc rfl sc_greatest_crowd.nd (i_any (e_varF 1 (pv 1))) (own := [("crowd", 4)]) (show BlkOk ["crossing", "crowds", "part", "most", "crowd"] (defScope s_greatest_crowd) _ [("crowd", 4)] from ⟨rfl, by decide +kernel, by decide +kernel, by decide +kernel, by decide +kernel⟩) (ix := [4]) (by decide) (fun s H C cl fp φ => (g_nm (i := 4) (by decide) sc_greatest_crowd.nd rfl (by first | exact Or.inl rfl | exact Or.inr rfl))) (fun s H C cl fp => pts_true) (fun s H C cl fp φ => (e_callB call_len opN_len rfl T.z_len (by decide +kernel) (a_cons (e_var 4 (pv 4)) a_nil)))) a_nil)))
    (b_one (s_ret (e_callB (cr_minD rfl hr.units) opN_minD rfl T.z_min (by decide +kernel) (a_cons (e_lc rfl sc_greatest_crowd.nd (i_any (e_varF 1 (pv 1))) (own := [("crowd", 4)]) (show BlkOk ["crossing", "crowds", "part", "most", "crowd"] (defScope s_greatest_crowd) _ [("crowd", 4)] from ⟨rfl, by decide +kernel, by decide +kernel, by decide +kernel, by decide +kernel⟩) (ix := [4]) (by decide) (fun s H C cl fp φ => (g_nm (i := 4) (by decide) sc_greatest_crowd.nd rfl (by first | exact Or.inl rfl | exact Or.inr rfl))) (fun s H C cl fp => pts_ex (fun φ => (t_cmp (op_eqD hr.units) op2_eq (e_callB call_len opN_len rfl T.z_len (by decide +kernel) (a_cons (e_var 4 (pv 4)) a_nil)) (e_var 3 (pv 3)) (nomark _)))) (fun s H C cl fp φ => (e_varF 4 (pv 4)))) a_nil))))))
theorem sc__law_listed : FnScope ["crossing", "rivals", "count", "groups", "free", "g", "full", "s", "told", "crowds", "size"] ["crossing", "rivals", "count"] (defScope s__law_listed) := ⟨rfl, rfl, rfl, by decide +kernel, rfl, by decide +kernel, by decide +kernel⟩
def m__law_listed : Ro → R EV := runF 8 (sSeq (sSet 3 (eFrz (eCall [.v] m__law_groups (aCons (eVar 2) aNil))))
    (sSeq (sSet 4 (eFrz (eN bSortD (aCons (eLc (iAny (eVar 3)) (gNm 5) (tAnd (tOf (e2 opGt (eN bLen (aCons (eVar 5) aNil)) (eC (.int 0)))) (tOf (e2 (eqD false) (eCall [.v, .v] m__law_inside (aCons (eVar 1) (aCons (eVar 5) aNil))) (eC (.int 0))))) (eVarF 5) [5]) aNil))))
    (sSeq (sSet 6 (eLst aNil))
    (sSeq (sFor (iAny (eVar 4)) (gNm 5) (sIf (tOf (e2 (eqD false) (eN bLen (aCons (eLc (iRange1 (aCons (eVar 2) aNil)) (gNm 7) (tAnd (tOf (e2 (opIn true) (eVar 7) (eVar 5))) (tOf (e2 (eqD false) (eCall [.v, .v] m__law_inside (aCons (eVar 1) (aCons (e2 opAdd (eVar 5) (eTup (aCons (eVarF 7) aNil))) aNil))) (eC (.int 0))))) (eVarF 7) [7]) aNil)) (eC (.int 0)))) (sExpr (eBmM 6 mAppend (aCons (eVarF 5) aNil))) sNx))
    (sSeq (sSet 8 (eCall [.v] m_stages (aCons (eVar 0) aNil)))
    (sSeq (sIf (tNot (tOf (eCall [.v, .v] (m__law_same 4) (aCons (eVar 8) (aCons (eVar 4) aNil))))) (sRet (eC (.bl false))) sNx)
    (sSeq (sExpr (eBmM 8 mReverse aNil))
    (sSeq (sExpr (eBmM 8 mAppend (aCons (eTup (aCons (eC (.int 0)) (aCons (eC (.int 0)) aNil))) aNil)))
    (sSeq (sSet 8 (eCall [.v] m_greatest_stages (aCons (eVar 0) aNil)))
    (sSeq (sIf (tNot (tOf (eCall [.v, .v] (m__law_same 4) (aCons (eVar 8) (aCons (eVar 6) aNil))))) (sRet (eC (.bl false))) sNx)
    (sSeq (sExpr (eBmM 8 mClear aNil))
    (sSeq (sIf (tOr (tNot (tOf (eCall [.v, .v] (m__law_same 4) (aCons (eCall [.v] m_stages (aCons (eVar 0) aNil)) (aCons (eVar 4) aNil))))) (tNot (tOf (eCall [.v, .v] (m__law_same 4) (aCons (eCall [.v] m_greatest_stages (aCons (eVar 0) aNil)) (aCons (eVar 6) aNil)))))) (sRet (eC (.bl false))) sNx)
    (sSeq (sFz 9 (sSet 9 (eLc (iAny (eVar 3)) (gNm 5) (tAnd (tOf (e2 opGt (eN bLen (aCons (eVar 5) aNil)) (eC (.int 0)))) (tOf (e2 (eqD false) (e2 opMul (eC (.int 2)) (eCall [.v, .v] m__law_inside (aCons (eVar 1) (aCons (eVar 5) aNil)))) (e2 opMul (eN bLen (aCons (eVar 5) aNil)) (e2 opSub (eN bLen (aCons (eVar 5) aNil)) (eC (.int 1))))))) (eVarF 5) [5])))
    (sSeq (sSet 10 (eN bMaxL (aCons (eLc (iAny (eVarF 9)) (gNm 5) tTrue (eN bLen (aCons (eVar 5) aNil)) [5]) aNil)))
    (sRet (eCall [.v, .v] (m__law_same 4) (aCons (eCall [.v] m_greatest_crowd (aCons (eVar 0) aNil)) (aCons (eN (bMinD PySem.W.minD) (aCons (eLc (iAny (eVarF 9)) (gNm 5) (tOf (e2 (eqD false) (eN bLen (aCons (eVar 5) aNil)) (eVar 10))) (eVarF 5) [5]) aNil)) aNil))))))))))))))))))
theorem ok__law_listed (T : Tx K mg) : FnOk P w K mg base (L2.CX P w) 9 T.f__law_listed T.fd__law_listed ["crossing", "rivals", "count"] (spM (DD T) 3 m__law_listed) :=
  fn_ok T.F__law_listed sc__law_listed fun cdv A outer s H E φ hr =>
    (b_cons (s_set (i := 3) sc__law_listed.nd rfl (by first | exact Or.inl rfl | exact Or.inr rfl) (e_frz (e_call (ms := [.v]) (takes_of rfl rfl rfl rfl) (ok__law_groups T) (hr.mono (by decide) : Room 1 _) rfl T.m__law_groups (T.F__law_groups).kp T.b__law_groups (a_cons (e_var 2 (pv 2)) a_nil))))
    (b_cons (s_set (i := 4) sc__law_listed.nd rfl (by first | exact Or.inl rfl | exact Or.inr rfl) (e_frz (e_callB (cr_sortD hr.units) opN_sortD rfl T.z_sorted (by decide +kernel) (a_cons (e_lc rfl sc__law_listed.nd (i_any (e_var 3 (pv 3))) (own := [("g", 5)]) (show BlkOk ["crossing", "rivals", "count", "groups", "free", "g", "full", "s", "told", "crowds", "size"] (defScope s__law_listed) _ [("g", 5)] from ⟨rfl, by decide +kernel, by decide +kernel, by decide +kernel, by decide +kernel⟩) (ix := [5]) (by decide) (fun s H C cl fp φ => (g_nm (i := 5) (by decide) sc__law_listed.nd rfl (by first | exact Or.inl rfl | exact Or.inr rfl))) (fun s H C cl fp => pts_ex (fun φ => (t_w (w_and (t_cmp op_gt op2_gt (e_callB call_len opN_len rfl T.z_len (by decide +kernel) (a_cons (e_var 5 (pv 5)) a_nil)) e_int (nomark _)) (w_and1 (t_cmp (op_eqD hr.units) op2_eq (e_call (ms := [.v, .v]) takesW0 (ok__law_inside T) (hr.mono (by decide) : Room 1 _) rfl T.m__law_inside (T.F__law_inside).kp T.b__law_inside (a_cons (e_var 1 (pv 1)) (a_cons (e_var 5 (pv 5)) a_nil))) e_int (nomark _))))))) (fun s H C cl fp φ => (e_varF 5 (pv 5)))) a_nil))))
    (b_cons (s_set (i := 6) sc__law_listed.nd rfl (by first | exact Or.inl rfl | exact Or.inr rfl) (e_lst a_nil))
    (b_cons (s_for (ix := [5]) (passes_of rfl) rfl (i_any (e_var 4 (pv 4))) (g_nm (i := 5) (by decide) sc__law_listed.nd rfl (by first | exact Or.inl rfl | exact Or.inr rfl)) (b_one (s_if (t_cmp (op_eqD hr.units) op2_eq (e_callB call_len opN_len rfl T.z_len (by decide +kernel) (a_cons (e_lc rfl sc__law_listed.nd (i_range1 rfl T.z_range (a_cons (e_var 2 (pv 2)) a_nil)) (own := [("s", 7)]) (show BlkOk ["crossing", "rivals", "count", "groups", "free", "g", "full", "s", "told", "crowds", "size"] (defScope s__law_listed) _ [("s", 7)] from ⟨rfl, by decide +kernel, by decide +kernel, by decide +kernel, by decide +kernel⟩) (ix := [7]) (by decide) (fun s H C cl fp φ => (g_nm (i := 7) (by decide) sc__law_listed.nd rfl (by first | exact Or.inl rfl | exact Or.inr rfl))) (fun s H C cl fp => pts_ex (fun φ => (t_w (w_and (t_cmp op_notIn_seq (op2_in true) (e_var 7 (pv 7)) (e_var 5 (pv 5)) (by with_unfolding_all rfl)) (w_and1 (t_cmp (op_eqD hr.units) op2_eq (e_call (ms := [.v, .v]) takesW0 (ok__law_inside T) (hr.mono (by decide) : Room 1 _) rfl T.m__law_inside (T.F__law_inside).kp T.b__law_inside (a_cons (e_var 1 (pv 1)) (a_cons (e_bin op_addA op2_add (e_var 5 (pv 5)) (e_tup (a_cons (e_varF 7 (pv 7)) a_nil))) a_nil))) e_int (nomark _))))))) (fun s H C cl fp φ => (e_varF 7 (pv 7)))) a_nil)) e_int (nomark _)) (b_one (s_expr (e_append (pv 6) (a_cons (e_varF 5 (pv 5)) a_nil)))) b_nil)))
    (b_cons (s_set (i := 8) sc__law_listed.nd rfl (by first | exact Or.inl rfl | exact Or.inr rfl) (e_call (ms := [.v]) (takes_of rfl rfl rfl rfl) (ok_stages T) (hr.mono (by decide) : Room 7 _) rfl T.m_stages (T.F_stages).kp T.b_stages (a_cons (e_var 0 (pv 0)) a_nil)))
    (b_cons (s_if (t_not (t_val (e_call (ms := [.v, .v]) (takes_of rfl rfl rfl rfl) (ok__law_same T 4) (hr.mono (by decide) : Room 6 _) rfl T.m__law_same (T.F__law_same).kp T.b__law_same (a_cons (e_var 8 (pv 8)) (a_cons (e_var 4 (pv 4)) a_nil))))) (b_one (s_ret e_bl)) b_nil)
    (b_cons (s_expr (e_reverse (pv 8)))
    (b_cons (s_expr (e_append (pv 8) (a_cons (e_tup (a_cons e_int (a_cons e_int a_nil))) a_nil)))
    (b_cons (s_set (i := 8) sc__law_listed.nd rfl (by first | exact Or.inl rfl | exact Or.inr rfl) (e_call (ms := [.v]) (takes_of rfl rfl rfl rfl) (ok_greatest_stages T) (hr.mono (by decide) : Room 8 _) rfl T.m_greatest_stages (T.F_greatest_stages).kp T.b_greatest_stages (a_cons (e_var 0 (pv 0)) a_nil)))
    (b_cons (s_if (t_not (t_val (e_call (ms := [.v, .v]) (takes_of rfl rfl rfl rfl) (ok__law_same T 4) (hr.mono (by decide) : Room 6 _) rfl T.m__law_same (T.F__law_same).kp T.b__law_same (a_cons (e_var 8 (pv 8)) (a_cons (e_var 6 (pv 6)) a_nil))))) (b_one (s_ret e_bl)) b_nil)
    (b_cons (s_expr (e_clear (pv 8)))
    (b_cons (s_if (t_w (w_or (t_not (t_val (e_call (ms := [.v, .v]) (takes_of rfl rfl rfl rfl) (ok__law_same T 4) (hr.mono (by decide) : Room 6 _) rfl T.m__law_same (T.F__law_same).kp T.b__law_same (a_cons (e_call (ms := [.v]) (takes_of rfl rfl rfl rfl) (ok_stages T) (hr.mono (by decide) : Room 7 _) rfl T.m_stages (T.F_stages).kp T.b_stages (a_cons (e_var 0 (pv 0)) a_nil)) (a_cons (e_var 4 (pv 4)) a_nil))))) (w_or1 (t_not (t_val (e_call (ms := [.v, .v]) (takes_of rfl rfl rfl rfl) (ok__law_same T 4) (hr.mono (by decide) : Room 6 _) rfl T.m__law_same (T.F__law_same).kp T.b__law_same (a_cons (e_call (ms := [.v]) (takes_of rfl rfl rfl rfl) (ok_greatest_stages T) (hr.mono (by decide) : Room 8 _) rfl T.m_greatest_stages (T.F_greatest_stages).kp T.b_greatest_stages (a_cons (e_var 0 (pv 0)) a_nil)) (a_cons (e_var 6 (pv 6)) a_nil)))))))) (b_one (s_ret e_bl)) b_nil)
    (b_cons (s_fz 9 (s_setLc (i := 9) rfl sc__law_listed.nd rfl rfl (i_any (e_var 3 (pv 3))) (own := [("g", 5)]) (show BlkOk ["crossing", "rivals", "count", "groups", "free", "g", "full", "s", "told", "crowds", "size"] (defScope s__law_listed) _ [("g", 5)] from ⟨rfl, by decide +kernel, by decide +kernel, by decide +kernel, by decide +kernel⟩) (ix := [5]) (by decide) (fun s H C cl fp φ => (g_nm (i := 5) (by decide) sc__law_listed.nd rfl (by first | exact Or.inl rfl | exact Or.inr rfl))) (fun s H C cl fp => pts_ex (fun φ => (t_w (w_and (t_cmp op_gt op2_gt (e_callB call_len opN_len rfl T.z_len (by decide +kernel) (a_cons (e_var 5 (pv 5)) a_nil)) e_int (nomark _)) (w_and1 (t_cmp (op_eqD hr.units) op2_eq (e_bin op_mulA op2_mul e_int (e_call (ms := [.v, .v]) takesW0 (ok__law_inside T) (hr.mono (by decide) : Room 1 _) rfl T.m__law_inside (T.F__law_inside).kp T.b__law_inside (a_cons (e_var 1 (pv 1)) (a_cons (e_var 5 (pv 5)) a_nil)))) (e_bin op_mulA op2_mul (e_callB call_len opN_len rfl T.z_len (by decide +kernel) (a_cons (e_var 5 (pv 5)) a_nil)) (e_bin op_sub op2_sub (e_callB call_len opN_len rfl T.z_len (by decide +kernel) (a_cons (e_var 5 (pv 5)) a_nil)) e_int)) (nomark _))))))) (fun s H C cl fp φ => (e_varF 5 (pv 5)))))
    (b_cons (s_set (i := 10) sc__law_listed.nd rfl (by first | exact Or.inl rfl | exact Or.inr rfl) (e_callB (cr_max rfl) opN_maxL rfl T.z_max (by decide +kernel) (a_cons (e_lc rfl sc__law_listed.nd (i_any (e_varF 9 (pv 9))) (own := [("g", 5)]) (show BlkOk ["crossing", "rivals", "count", "groups", "free", "g", "full", "s", "told", "crowds", "size"] (defScope s__law_listed) _ [("g", 5)] from ⟨rfl, by decide +kernel, by decide +kernel, by decide +kernel, by decide +kernel⟩) (ix := [5]) (by decide) (fun s H C cl fp φ => (g_nm (i := 5) (by decide) sc__law_listed.nd rfl (by first | exact Or.inl rfl | exact Or.inr rfl))) (fun s H C cl fp => pts_true) (fun s H C cl fp φ => (e_callB call_len opN_len rfl T.z_len (by decide +kernel) (a_cons (e_var 5 (pv 5)) a_nil)))) a_nil)))
    (b_one (s_ret (e_call (ms := [.v, .v]) (takes_of rfl rfl rfl rfl) (ok__law_same T 4) (hr.mono (by decide) : Room 6 _) rfl T.m__law_same (T.F__law_same).kp T.b__law_same (a_cons (e_call (ms := [.v]) (takes_of rfl rfl rfl rfl) (ok_greatest_crowd T) (hr.mono (by decide) : Room 7 _) rfl T.m_greatest_crowd (T.F_greatest_crowd).kp T.b_greatest_crowd (a_cons (e_var 0 (pv 0)) a_nil)) (a_cons (e_callB (cr_minD rfl hr.units) opN_minD rfl T.z_min (by decide +kernel) (a_cons (e_lc rfl sc__law_listed.nd (i_any (e_varF 9 (pv 9))) (own := [("g", 5)]) (show BlkOk ["crossing", "rivals", "count", "groups", "free", "g", "full", "s", "told", "crowds", "size"] (defScope s__law_listed) _ [("g", 5)] from ⟨rfl, by decide +kernel, by decide +kernel, by decide +kernel, by decide +kernel⟩) (ix := [5]) (by decide) (fun s H C cl fp φ => (g_nm (i := 5) (by decide) sc__law_listed.nd rfl (by first | exact Or.inl rfl | exact Or.inr rfl))) (fun s H C cl fp => pts_ex (fun φ => (t_cmp (op_eqD hr.units) op2_eq (e_callB call_len opN_len rfl T.z_len (by decide +kernel) (a_cons (e_var 5 (pv 5)) a_nil)) (e_var 10 (pv 10)) (nomark _)))) (fun s H C cl fp φ => (e_varF 5 (pv 5)))) a_nil)) a_nil)))))))))))))))))))
theorem sc__law_is_free : FnScope ["rivals", "count", "streams", "s"] ["rivals", "count", "streams"] (defScope s__law_is_free) := ⟨rfl, rfl, rfl, by decide +kernel, rfl, by decide +kernel, by decide +kernel⟩
def m__law_is_free : Ro → R EV := runF 1 (sSeq (sFor (iAny (eVar 2)) (gNm 3) (sIf (tOr (tNot (tOf (eChain opLe opLt (eC (.int 0)) (eVar 3) (eVar 1)))) (tOf (e2 (eqD true) (eCnt (eVar 2) (aCons (eVarF 3) aNil)) (eC (.int 1))))) (sRet (eC (.bl false))) sNx))
    (sRet (e2 (eqD false) (eCall [.v, .v] m__law_inside (aCons (eVar 0) (aCons (eVar 2) aNil))) (eC (.int 0)))))
theorem ok__law_is_free (T : Tx K mg) : FnOk P w K mg base (L2.CX P w) 2 T.f__law_is_free T.fd__law_is_free ["rivals", "count", "streams"] (spM (DD T) 3 m__law_is_free) :=
  fn_ok T.F__law_is_free sc__law_is_free fun cdv A outer s H E φ hr =>
    (b_cons (s_for (ix := [3]) (passes_of rfl) rfl (i_any (e_var 2 (pv 2))) (g_nm (i := 3) (by decide) sc__law_is_free.nd rfl (by first | exact Or.inl rfl | exact Or.inr rfl)) (b_one (s_if (t_w (w_or (t_not (t_chain op_le op_lt op2_le op2_lt e_int (e_var 3 (pv 3)) (e_var 1 (pv 1)))) (w_or1 (t_cmp (op_neD hr.units) op2_ne (e_cnt (e_var 2 (pv 2)) (a_cons (e_varF 3 (pv 3)) a_nil)) e_int (nomark _))))) (b_one (s_ret e_bl)) b_nil)))
    (b_one (s_ret (e_cmp (op_eqD hr.units) op2_eq (e_call (ms := [.v, .v]) (takes_of rfl rfl rfl rfl) (ok__law_inside T) (hr.mono (by decide) : Room 1 _) rfl T.m__law_inside (T.F__law_inside).kp T.b__law_inside (a_cons (e_var 0 (pv 0)) (a_cons (e_var 2 (pv 2)) a_nil))) e_int (nomark _)))))
theorem sc__law_decides : FnScope ["crossing", "rivals", "count", "streams", "due", "passed"] ["crossing", "rivals", "count", "streams"] (defScope s__law_decides) := ⟨rfl, rfl, rfl, by decide +kernel, rfl, by decide +kernel, by decide +kernel⟩
def m__law_decides : Ro → R EV := runF 2 (sSeq (sSet 4 (eCall [.v, .v, .v] m__law_is_free (aCons (eVar 1) (aCons (eVar 2) (aCons (eVar 3) aNil)))))
    (sSeq (sSet 5 (eFrz (eN bList (aCons (eVar 3) aNil))))
    (sSeq (sIf (tOr (tNot (tOf (eCall [.v, .v] (m__law_same 4) (aCons (eCall [.v, .v] m_is_stage (aCons (eVar 0) (aCons (eVar 5) aNil))) (aCons (eVar 4) aNil))))) (tOf (e2 (eqD true) (eVar 5) (eVar 3)))) (sRet (eC (.bl false))) sNx)
    (sRet (eCall [.v, .v] (m__law_same 4) (aCons (eCall [.v, .v] m_is_stage (aCons (eVar 0) (aCons (eN bTuple (aCons (eVar 3) aNil)) aNil))) (aCons (eVar 4) aNil)))))))
theorem ok__law_decides (T : Tx K mg) : FnOk P w K mg base (L2.CX P w) 7 T.f__law_decides T.fd__law_decides ["crossing", "rivals", "count", "streams"] (spM (DD T) 4 m__law_decides) :=
  fn_ok T.F__law_decides sc__law_decides fun cdv A outer s H E φ hr =>
    (b_cons (s_set (i := 4) sc__law_decides.nd rfl (by first | exact Or.inl rfl | exact Or.inr rfl) (e_call (ms := [.v, .v, .v]) (takes_of rfl rfl rfl rfl) (ok__law_is_free T) (hr.mono (by decide) : Room 2 _) rfl T.m__law_is_free (T.F__law_is_free).kp T.b__law_is_free (a_cons (e_var 1 (pv 1)) (a_cons (e_var 2 (pv 2)) (a_cons (e_var 3 (pv 3)) a_nil)))))
    (b_cons (s_set (i := 5) sc__law_decides.nd rfl (by first | exact Or.inl rfl | exact Or.inr rfl) (e_frz (e_callTy call_list_of opN_list rfl T.z_list (by decide +kernel) (a_cons (e_var 3 (pv 3)) a_nil))))
    (b_cons (s_if (t_w (w_or (t_not (t_val (e_call (ms := [.v, .v]) (takes_of rfl rfl rfl rfl) (ok__law_same T 4) (hr.mono (by decide) : Room 6 _) rfl T.m__law_same (T.F__law_same).kp T.b__law_same (a_cons (e_call (ms := [.v, .v]) (takes_of rfl rfl rfl rfl) (ok_is_stage T) (hr.mono (by decide) : Room 6 _) rfl T.m_is_stage (T.F_is_stage).kp T.b_is_stage (a_cons (e_var 0 (pv 0)) (a_cons (e_var 5 (pv 5)) a_nil))) (a_cons (e_var 4 (pv 4)) a_nil))))) (w_or1 (t_cmp (op_neD hr.units) op2_ne (e_var 5 (pv 5)) (e_var 3 (pv 3)) (nomark _))))) (b_one (s_ret e_bl)) b_nil)
    (b_one (s_ret (e_call (ms := [.v, .v]) (takes_of rfl rfl rfl rfl) (ok__law_same T 4) (hr.mono (by decide) : Room 6 _) rfl T.m__law_same (T.F__law_same).kp T.b__law_same (a_cons (e_call (ms := [.v, .v]) (takes_of rfl rfl rfl rfl) (ok_is_stage T) (hr.mono (by decide) : Room 6 _) rfl T.m_is_stage (T.F_is_stage).kp T.b_is_stage (a_cons (e_var 0 (pv 0)) (a_cons (e_callTy call_tuple_of opN_tuple rfl T.z_tuple (by decide +kernel) (a_cons (e_var 3 (pv 3)) a_nil)) a_nil))) (a_cons (e_var 4 (pv 4)) a_nil))))))))
theorem sc__law_lists : FnScope ["hand", "count", "stage", "shuffled", "s", "far", "spot", "rows", "k"] ["hand", "count", "stage"] (defScope s__law_lists) := ⟨rfl, rfl, rfl, by decide +kernel, rfl, by decide +kernel, by decide +kernel⟩
def m__law_lists : Ro → R EV := runF 6 (sSeq (sSet 3 (eLst aNil))
    (sSeq (sFor (iAny (eVar 2)) (gNm 4) (sExpr (eBmM 3 mInsert (aCons (eCall [.io, .v] m__law_take (aCons (eVar 0) (aCons (e2 opAdd (eN bLen (aCons (eVar 3) aNil)) (eC (.int 1))) aNil))) (aCons (eVarF 4) aNil)))))
    (sSeq (sSet 5 (e2 opSub (eCall [.io, .v] m__law_take (aCons (eVar 0) (aCons (e2 opAdd (e2 opMul (eC (.int 2)) (e2 opPow (eC (.int 10)) (eC (.int 9)))) (eC (.int 1))) aNil))) (e2 opPow (eC (.int 10)) (eC (.int 9)))))
    (sSeq (sSet 6 (eCall [.io, .v] m__law_take (aCons (eVar 0) (aCons (e2 opAdd (eN bLen (aCons (eVar 3) aNil)) (eC (.int 1))) aNil))))
    (sSeq (sSet 7 (eLst (aCons (eN bList (aCons (eVar 3) aNil)) (aCons (eLst aNil) aNil))))
    (sSeq (sFor (iAny (eLst (aCons (e2 opSub (eC (.int 0)) (eC (.int 1))) (aCons (eVarF 1) (aCons (eVarF 5) (aCons (eCall [.io, .v] m__law_take (aCons (eVar 0) (aCons (eVar 1) aNil))) (aCons (eCall [.io, .v] m__law_take (aCons (eVar 0) (aCons (eVar 1) aNil))) aNil))))))) (gNm 4) (sExpr (eBmM 7 mAppend (aCons (e2 opAdd (e2 opAdd (eSl (eVar 3) oNone (oSome (eVar 6))) (eLst (aCons (eVarF 4) aNil))) (eSl (eVar 3) (oSome (eVar 6)) oNone)) aNil))))
    (sSeq (sExpr (eBmM 7 mAppend (aCons (e2 opAdd (eVar 3) (eVar 3)) aNil)))
    (sSeq (sExpr (eBmM 7 mAppend (aCons (eLc (iRange1 (aCons (eCall [.io, .v] m__law_take (aCons (eVar 0) (aCons (eC (.int 5)) aNil))) aNil)) (gNm 8) tTrue (e2 opSub (eCall [.io, .v] m__law_take (aCons (eVar 0) (aCons (e2 opAdd (eVar 1) (eC (.int 2))) aNil))) (eC (.int 1))) [8]) aNil)))
    (sSeq (sExpr (eBmM 7 mAppend (aCons (eLc (iRange1 (aCons (eCall [.io, .v] m__law_take (aCons (eVar 0) (aCons (eC (.int 8)) aNil))) aNil)) (gNm 8) tTrue (eCall [.io, .v] m__law_take (aCons (eVar 0) (aCons (eVar 1) aNil))) [8]) aNil)))
    (sRet (eVar 7)))))))))))
theorem ok__law_lists (T : Tx K mg) : FnOk P w K mg base (L2.CX P w) 2 T.f__law_lists T.fd__law_lists ["hand", "count", "stage"] (spM (DD T) 3 m__law_lists) :=
  fn_ok T.F__law_lists sc__law_lists fun cdv A outer s H E φ hr =>
    (b_cons (s_set (i := 3) sc__law_lists.nd rfl (by first | exact Or.inl rfl | exact Or.inr rfl) (e_lst a_nil))
    (b_cons (s_for (ix := [4]) (passes_of rfl) rfl (i_any (e_var 2 (pv 2))) (g_nm (i := 4) (by decide) sc__law_lists.nd rfl (by first | exact Or.inl rfl | exact Or.inr rfl)) (b_one (s_expr (e_insert (pv 3) (a_cons (e_call (ms := [.io, .v]) (takes_of rfl rfl rfl rfl) (ok__law_take T) (hr.mono (by decide) : Room 1 _) rfl T.m__law_take (T.F__law_take).kp T.b__law_take (a_cons (e_var 0 (pv 0)) (a_cons (e_bin op_addA op2_add (e_callB call_len opN_len rfl T.z_len (by decide +kernel) (a_cons (e_var 3 (pv 3)) a_nil)) e_int) a_nil))) (a_cons (e_varF 4 (pv 4)) a_nil))))))
    (b_cons (s_set (i := 5) sc__law_lists.nd rfl (by first | exact Or.inl rfl | exact Or.inr rfl) (e_bin op_sub op2_sub (e_call (ms := [.io, .v]) (takes_of rfl rfl rfl rfl) (ok__law_take T) (hr.mono (by decide) : Room 1 _) rfl T.m__law_take (T.F__law_take).kp T.b__law_take (a_cons (e_var 0 (pv 0)) (a_cons (e_bin op_addA op2_add (e_bin op_mulA op2_mul e_int (e_bin op_pow op2_pow e_int e_int)) e_int) a_nil))) (e_bin op_pow op2_pow e_int e_int)))
    (b_cons (s_set (i := 6) sc__law_lists.nd rfl (by first | exact Or.inl rfl | exact Or.inr rfl) (e_call (ms := [.io, .v]) (takes_of rfl rfl rfl rfl) (ok__law_take T) (hr.mono (by decide) : Room 1 _) rfl T.m__law_take (T.F__law_take).kp T.b__law_take (a_cons (e_var 0 (pv 0)) (a_cons (e_bin op_addA op2_add (e_callB call_len opN_len rfl T.z_len (by decide +kernel) (a_cons (e_var 3 (pv 3)) a_nil)) e_int) a_nil))))
    (b_cons (s_set (i := 7) sc__law_lists.nd rfl (by first | exact Or.inl rfl | exact Or.inr rfl) (e_lst (a_cons (e_callTy call_list_of opN_list rfl T.z_list (by decide +kernel) (a_cons (e_var 3 (pv 3)) a_nil)) (a_cons (e_lst a_nil) a_nil))))
    (b_cons (s_for (ix := [4]) (passes_of rfl) rfl (i_any (e_lst (a_cons (e_bin op_sub op2_sub e_int e_int) (a_cons (e_varF 1 (pv 1)) (a_cons (e_varF 5 (pv 5)) (a_cons (e_call (ms := [.io, .v]) (takes_of rfl rfl rfl rfl) (ok__law_take T) (hr.mono (by decide) : Room 1 _) rfl T.m__law_take (T.F__law_take).kp T.b__law_take (a_cons (e_var 0 (pv 0)) (a_cons (e_var 1 (pv 1)) a_nil))) (a_cons (e_call (ms := [.io, .v]) (takes_of rfl rfl rfl rfl) (ok__law_take T) (hr.mono (by decide) : Room 1 _) rfl T.m__law_take (T.F__law_take).kp T.b__law_take (a_cons (e_var 0 (pv 0)) (a_cons (e_var 1 (pv 1)) a_nil))) a_nil))))))) (g_nm (i := 4) (by decide) sc__law_lists.nd rfl (by first | exact Or.inl rfl | exact Or.inr rfl)) (b_one (s_expr (e_append (pv 7) (a_cons (e_bin op_addA op2_add (e_bin op_addA op2_add (e_slice (e_var 3 (pv 3)) o_none (o_some (e_var 6 (pv 6)))) (e_lst (a_cons (e_varF 4 (pv 4)) a_nil))) (e_slice (e_var 3 (pv 3)) (o_some (e_var 6 (pv 6))) o_none)) a_nil)))))
    (b_cons (s_expr (e_append (pv 7) (a_cons (e_bin op_addA op2_add (e_var 3 (pv 3)) (e_var 3 (pv 3))) a_nil)))
    (b_cons (s_expr (e_append (pv 7) (a_cons (e_lc rfl sc__law_lists.nd (i_range1 rfl T.z_range (a_cons (e_call (ms := [.io, .v]) (takes_of rfl rfl rfl rfl) (ok__law_take T) (hr.mono (by decide) : Room 1 _) rfl T.m__law_take (T.F__law_take).kp T.b__law_take (a_cons (e_var 0 (pv 0)) (a_cons e_int a_nil))) a_nil)) (own := [("k", 8)]) (show BlkOk ["hand", "count", "stage", "shuffled", "s", "far", "spot", "rows", "k"] (defScope s__law_lists) _ [("k", 8)] from ⟨rfl, by decide +kernel, by decide +kernel, by decide +kernel, by decide +kernel⟩) (ix := [8]) (by decide) (fun s H C cl fp φ => (g_nm (i := 8) (by decide) sc__law_lists.nd rfl (by first | exact Or.inl rfl | exact Or.inr rfl))) (fun s H C cl fp => pts_true) (fun s H C cl fp φ => (e_bin op_sub op2_sub (e_call (ms := [.io, .v]) takesW0 (ok__law_take T) (hr.mono (by decide) : Room 1 _) rfl T.m__law_take (T.F__law_take).kp T.b__law_take (a_cons (e_var 0 (pv 0)) (a_cons (e_bin op_addA op2_add (e_var 1 (pv 1)) e_int) a_nil))) e_int))) a_nil)))
    (b_cons (s_expr (e_append (pv 7) (a_cons (e_lc rfl sc__law_lists.nd (i_range1 rfl T.z_range (a_cons (e_call (ms := [.io, .v]) (takes_of rfl rfl rfl rfl) (ok__law_take T) (hr.mono (by decide) : Room 1 _) rfl T.m__law_take (T.F__law_take).kp T.b__law_take (a_cons (e_var 0 (pv 0)) (a_cons e_int a_nil))) a_nil)) (own := [("k", 8)]) (show BlkOk ["hand", "count", "stage", "shuffled", "s", "far", "spot", "rows", "k"] (defScope s__law_lists) _ [("k", 8)] from ⟨rfl, by decide +kernel, by decide +kernel, by decide +kernel, by decide +kernel⟩) (ix := [8]) (by decide) (fun s H C cl fp φ => (g_nm (i := 8) (by decide) sc__law_lists.nd rfl (by first | exact Or.inl rfl | exact Or.inr rfl))) (fun s H C cl fp => pts_true) (fun s H C cl fp φ => (e_call (ms := [.io, .v]) takesW0 (ok__law_take T) (hr.mono (by decide) : Room 1 _) rfl T.m__law_take (T.F__law_take).kp T.b__law_take (a_cons (e_var 0 (pv 0)) (a_cons (e_var 1 (pv 1)) a_nil))))) a_nil)))
    (b_one (s_ret (e_var 7 (pv 7)))))))))))))
theorem sc_law : FnScope ["script", "hand", "count", "rivals", "crossing", "g", "second", "free", "streams", "third", "others", "twin"] ["script"] (defScope s_law) := ⟨rfl, rfl, rfl, by decide +kernel, rfl, by decide +kernel, by decide +kernel⟩
def m_law : Ro → R EV := runF 11 (sSeq (sSet 1 (eCall [.v, .v] m__law_hand (aCons (eVar 0) (aCons (eC (.int 0)) aNil))))
    (sSeq (sSet 2 (e2 opAdd (eC (.int 1)) (eCall [.io, .v] m__law_take (aCons (eVar 1) (aCons (eC (.int 6)) aNil)))))
    (sSeq (sSet 3 (eFrz (eCall [.io, .v] m__law_drawn_rivals (aCons (eVar 1) (aCons (eVar 2) aNil)))))
    (sSeq (sSet 4 (eMake 21 [.v, .v] m_Crossingz_initz (aCons (eCall [.v] m__law_names (aCons (eVar 2) aNil)) (aCons (eN bList (aCons (eVar 3) aNil)) aNil))))
    (sSeq (sIf (tNot (tOf (eCall [.v, .v, .v] m__law_listed (aCons (eVar 4) (aCons (eVar 3) (aCons (eVar 2) aNil)))))) (sRet (eC (.bl false))) sNx)
    (sSeq (sFor (iAny (eCall [.v] m__law_groups (aCons (eVar 2) aNil))) (gNm 5) (sIf (tNot (tOf (eCall [.v, .v, .v, .v] m__law_decides (aCons (eVar 4) (aCons (eVar 3) (aCons (eVar 2) (aCons (eN bList (aCons (e1 oRevT (eVar 5)) aNil)) aNil))))))) (sRet (eC (.bl false))) sNx))
    (sSeq (sSet 6 (eCall [.v, .v] m__law_hand (aCons (eVar 0) (aCons (eC (.int 1)) aNil))))
    (sSeq (sSet 7 (eLc (iAny (eCall [.v] m__law_groups (aCons (eVar 2) aNil))) (gNm 5) (tOf (e2 (eqD false) (eCall [.v, .v] m__law_inside (aCons (eVar 3) (aCons (eVar 5) aNil))) (eC (.int 0)))) (eVarF 5) [5]))
    (sSeq (sFor (iAny (eCall [.io, .v, .v] m__law_lists (aCons (eVar 6) (aCons (eVar 2) (aCons (e2 opIx (eVar 7) (eCall [.io, .v] m__law_take (aCons (eVar 6) (aCons (eN bLen (aCons (eVar 7) aNil)) aNil)))) aNil))))) (gNm 8) (sIf (tNot (tOf (eCall [.v, .v, .v, .v] m__law_decides (aCons (eVar 4) (aCons (eVar 3) (aCons (eVar 2) (aCons (eVar 8) aNil))))))) (sRet (eC (.bl false))) sNx))
    (sSeq (sSet 9 (eCall [.v, .v] m__law_hand (aCons (eVar 0) (aCons (eC (.int 2)) aNil))))
    (sSeq (sSet 10 (eFrz (eCall [.io, .v] m__law_drawn_rivals (aCons (eVar 9) (aCons (eVar 2) aNil)))))
    (sSeq (sSet 11 (eMake 21 [.v, .v] m_Crossingz_initz (aCons (eCall [.v] m__law_names (aCons (eVar 2) aNil)) (aCons (eN bList (aCons (eVar 10) aNil)) aNil))))
    (sSeq (sIf (tOr (tNot (tOf (eCall [.v, .v, .v] m__law_listed (aCons (eVar 11) (aCons (eVar 10) (aCons (eVar 2) aNil)))))) (tNot (tOf (eCall [.v, .v, .v] m__law_listed (aCons (eVar 4) (aCons (eVar 3) (aCons (eVar 2) aNil))))))) (sRet (eC (.bl false))) sNx)
    (sRet (eAnd (eCall [.v, .v] (m__law_same 4) (aCons (eFld [21] 23 (eVar 4)) (aCons (eN bTuple (aCons (eVar 3) aNil)) aNil))) (eCall [.v, .v] (m__law_same 4) (aCons (eLenI (eOwn1 21 m_Crossingz_lenz (eVar 4))) (aCons (eVar 2) aNil))))))))))))))))))
theorem ok_law (T : Tx K mg) : FnOk P w K mg base (L2.CX P w) 10 T.f_law T.fd_law ["script"] (spM (DD T) 1 m_law) :=
  fn_ok T.F_law sc_law fun cdv A outer s H E φ hr =>
    (b_cons (s_set (i := 1) sc_law.nd rfl (by first | exact Or.inl rfl | exact Or.inr rfl) (e_call (ms := [.v, .v]) (takes_of rfl rfl rfl rfl) (ok__law_hand T) (hr.mono (by decide) : Room 2 _) rfl T.m__law_hand (T.F__law_hand).kp T.b__law_hand (a_cons (e_var 0 (pv 0)) (a_cons e_int a_nil))))
    (b_cons (s_set (i := 2) sc_law.nd rfl (by first | exact Or.inl rfl | exact Or.inr rfl) (e_bin op_addA op2_add e_int (e_call (ms := [.io, .v]) (takes_of rfl rfl rfl rfl) (ok__law_take T) (hr.mono (by decide) : Room 1 _) rfl T.m__law_take (T.F__law_take).kp T.b__law_take (a_cons (e_var 1 (pv 1)) (a_cons e_int a_nil)))))
    (b_cons (s_set (i := 3) sc_law.nd rfl (by first | exact Or.inl rfl | exact Or.inr rfl) (e_frz (e_call (ms := [.io, .v]) (takes_of rfl rfl rfl rfl) (ok__law_drawn_rivals T) (hr.mono (by decide) : Room 2 _) rfl T.m__law_drawn_rivals (T.F__law_drawn_rivals).kp T.b__law_drawn_rivals (a_cons (e_var 1 (pv 1)) (a_cons (e_var 2 (pv 2)) a_nil)))))
    (b_cons (s_set (i := 4) sc_law.nd rfl (by first | exact Or.inl rfl | exact Or.inr rfl) (e_make 21 (ms := [.v, .v]) (takes_of rfl rfl rfl rfl) ⟨T.mk_Crossing, T.fi_Crossing_zinitz, T.if_Crossingz_initz, T.kc_Crossing⟩ (ok_Crossingz_initz T) (hr.mono (by decide) : Room (4 + 1) _) rfl T.mC_Crossing T.b_Crossingz_initz (a_cons (e_call (ms := [.v]) (takes_of rfl rfl rfl rfl) (ok__law_names T) (hr.mono (by decide) : Room 1 _) rfl T.m__law_names (T.F__law_names).kp T.b__law_names (a_cons (e_var 2 (pv 2)) a_nil)) (a_cons (e_callTy call_list_of opN_list rfl T.z_list (by decide +kernel) (a_cons (e_var 3 (pv 3)) a_nil)) a_nil))))
    (b_cons (s_if (t_not (t_val (e_call (ms := [.v, .v, .v]) (takes_of rfl rfl rfl rfl) (ok__law_listed T) (hr.mono (by decide) : Room 9 _) rfl T.m__law_listed (T.F__law_listed).kp T.b__law_listed (a_cons (e_var 4 (pv 4)) (a_cons (e_var 3 (pv 3)) (a_cons (e_var 2 (pv 2)) a_nil)))))) (b_one (s_ret e_bl)) b_nil)
    (b_cons (s_for (ix := [5]) (passes_of rfl) rfl (i_any (e_call (ms := [.v]) (takes_of rfl rfl rfl rfl) (ok__law_groups T) (hr.mono (by decide) : Room 1 _) rfl T.m__law_groups (T.F__law_groups).kp T.b__law_groups (a_cons (e_var 2 (pv 2)) a_nil))) (g_nm (i := 5) (by decide) sc_law.nd rfl (by first | exact Or.inl rfl | exact Or.inr rfl)) (b_one (s_if (t_not (t_val (e_call (ms := [.v, .v, .v, .v]) (takes_of rfl rfl rfl rfl) (ok__law_decides T) (hr.mono (by decide) : Room 7 _) rfl T.m__law_decides (T.F__law_decides).kp T.b__law_decides (a_cons (e_var 4 (pv 4)) (a_cons (e_var 3 (pv 3)) (a_cons (e_var 2 (pv 2)) (a_cons (e_callTy call_list_of opN_list rfl T.z_list (by decide +kernel) (a_cons (e_revT (e_var 5 (pv 5))) a_nil)) a_nil))))))) (b_one (s_ret e_bl)) b_nil)))
    (b_cons (s_set (i := 6) sc_law.nd rfl (by first | exact Or.inl rfl | exact Or.inr rfl) (e_call (ms := [.v, .v]) (takes_of rfl rfl rfl rfl) (ok__law_hand T) (hr.mono (by decide) : Room 2 _) rfl T.m__law_hand (T.F__law_hand).kp T.b__law_hand (a_cons (e_var 0 (pv 0)) (a_cons e_int a_nil))))
    (b_cons (s_setLc (i := 7) rfl sc_law.nd rfl rfl (i_any (e_call (ms := [.v]) (takes_of rfl rfl rfl rfl) (ok__law_groups T) (hr.mono (by decide) : Room 1 _) rfl T.m__law_groups (T.F__law_groups).kp T.b__law_groups (a_cons (e_var 2 (pv 2)) a_nil))) (own := [("g", 5)]) (show BlkOk ["script", "hand", "count", "rivals", "crossing", "g", "second", "free", "streams", "third", "others", "twin"] (defScope s_law) _ [("g", 5)] from ⟨rfl, by decide +kernel, by decide +kernel, by decide +kernel, by decide +kernel⟩) (ix := [5]) (by decide) (fun s H C cl fp φ => (g_nm (i := 5) (by decide) sc_law.nd rfl (by first | exact Or.inl rfl | exact Or.inr rfl))) (fun s H C cl fp => pts_ex (fun φ => (t_cmp (op_eqD hr.units) op2_eq (e_call (ms := [.v, .v]) takesW0 (ok__law_inside T) (hr.mono (by decide) : Room 1 _) rfl T.m__law_inside (T.F__law_inside).kp T.b__law_inside (a_cons (e_var 3 (pv 3)) (a_cons (e_var 5 (pv 5)) a_nil))) e_int (nomark _)))) (fun s H C cl fp φ => (e_varF 5 (pv 5))))
    (b_cons (s_for (ix := [8]) (passes_of rfl) rfl (i_any (e_call (ms := [.io, .v, .v]) (takes_of rfl rfl rfl rfl) (ok__law_lists T) (hr.mono (by decide) : Room 2 _) rfl T.m__law_lists (T.F__law_lists).kp T.b__law_lists (a_cons (e_var 6 (pv 6)) (a_cons (e_var 2 (pv 2)) (a_cons (e_ix ix_seq op2_ix (e_var 7 (pv 7)) (e_call (ms := [.io, .v]) (takes_of rfl rfl rfl rfl) (ok__law_take T) (hr.mono (by decide) : Room 1 _) rfl T.m__law_take (T.F__law_take).kp T.b__law_take (a_cons (e_var 6 (pv 6)) (a_cons (e_callB call_len opN_len rfl T.z_len (by decide +kernel) (a_cons (e_var 7 (pv 7)) a_nil)) a_nil)))) a_nil))))) (g_nm (i := 8) (by decide) sc_law.nd rfl (by first | exact Or.inl rfl | exact Or.inr rfl)) (b_one (s_if (t_not (t_val (e_call (ms := [.v, .v, .v, .v]) (takes_of rfl rfl rfl rfl) (ok__law_decides T) (hr.mono (by decide) : Room 7 _) rfl T.m__law_decides (T.F__law_decides).kp T.b__law_decides (a_cons (e_var 4 (pv 4)) (a_cons (e_var 3 (pv 3)) (a_cons (e_var 2 (pv 2)) (a_cons (e_var 8 (pv 8)) a_nil))))))) (b_one (s_ret e_bl)) b_nil)))
    (b_cons (s_set (i := 9) sc_law.nd rfl (by first | exact Or.inl rfl | exact Or.inr rfl) (e_call (ms := [.v, .v]) (takes_of rfl rfl rfl rfl) (ok__law_hand T) (hr.mono (by decide) : Room 2 _) rfl T.m__law_hand (T.F__law_hand).kp T.b__law_hand (a_cons (e_var 0 (pv 0)) (a_cons e_int a_nil))))
    (b_cons (s_set (i := 10) sc_law.nd rfl (by first | exact Or.inl rfl | exact Or.inr rfl) (e_frz (e_call (ms := [.io, .v]) (takes_of rfl rfl rfl rfl) (ok__law_drawn_rivals T) (hr.mono (by decide) : Room 2 _) rfl T.m__law_drawn_rivals (T.F__law_drawn_rivals).kp T.b__law_drawn_rivals (a_cons (e_var 9 (pv 9)) (a_cons (e_var 2 (pv 2)) a_nil)))))
    (b_cons (s_set (i := 11) sc_law.nd rfl (by first | exact Or.inl rfl | exact Or.inr rfl) (e_make 21 (ms := [.v, .v]) (takes_of rfl rfl rfl rfl) ⟨T.mk_Crossing, T.fi_Crossing_zinitz, T.if_Crossingz_initz, T.kc_Crossing⟩ (ok_Crossingz_initz T) (hr.mono (by decide) : Room (4 + 1) _) rfl T.mC_Crossing T.b_Crossingz_initz (a_cons (e_call (ms := [.v]) (takes_of rfl rfl rfl rfl) (ok__law_names T) (hr.mono (by decide) : Room 1 _) rfl T.m__law_names (T.F__law_names).kp T.b__law_names (a_cons (e_var 2 (pv 2)) a_nil)) (a_cons (e_callTy call_list_of opN_list rfl T.z_list (by decide +kernel) (a_cons (e_var 10 (pv 10)) a_nil)) a_nil))))
    (b_cons (s_if (t_w (w_or (t_not (t_val (e_call (ms := [.v, .v, .v]) (takes_of rfl rfl rfl rfl) (ok__law_listed T) (hr.mono (by decide) : Room 9 _) rfl T.m__law_listed (T.F__law_listed).kp T.b__law_listed (a_cons (e_var 11 (pv 11)) (a_cons (e_var 10 (pv 10)) (a_cons (e_var 2 (pv 2)) a_nil)))))) (w_or1 (t_not (t_val (e_call (ms := [.v, .v, .v]) (takes_of rfl rfl rfl rfl) (ok__law_listed T) (hr.mono (by decide) : Room 9 _) rfl T.m__law_listed (T.F__law_listed).kp T.b__law_listed (a_cons (e_var 4 (pv 4)) (a_cons (e_var 3 (pv 3)) (a_cons (e_var 2 (pv 2)) a_nil))))))))) (b_one (s_ret e_bl)) b_nil)
    (b_one (s_ret (e_and (e_call (ms := [.v, .v]) (takes_of rfl rfl rfl rfl) (ok__law_same T 4) (hr.mono (by decide) : Room 6 _) rfl T.m__law_same (T.F__law_same).kp T.b__law_same (a_cons (e_fld [21] 23 rfl ⟨⟨T.cl_Crossing, T.na_Crossing_rivals⟩, trivial⟩ (e_var 4 (pv 4))) (a_cons (e_callTy call_tuple_of opN_tuple rfl T.z_tuple (by decide +kernel) (a_cons (e_var 3 (pv 3)) a_nil)) a_nil))) (e_one (e_call (ms := [.v, .v]) (takes_of rfl rfl rfl rfl) (ok__law_same T 4) (hr.mono (by decide) : Room 6 _) rfl T.m__law_same (T.F__law_same).kp T.b__law_same (a_cons (e_ownLen (takes_of rfl rfl rfl rfl) ⟨T.fi_Crossing_zlenz, T.if_Crossingz_lenz⟩ (ok_Crossingz_lenz T) (hr.mono (by decide) : Room (1 + 1) _) T.b_Crossingz_lenz rfl T.z_len (e_var 4 (pv 4))) (a_cons (e_var 2 (pv 2)) a_nil))))))))))))))))))))
end
/-! the end -/
theorem all_mk {K : PySem.W.Frag} {h : Heap} {mg : Str → Option Value} {fa : Addr} (X : K.In h) (G : h.Ns mainGlobals mg) (hfa : mg "law" = some (.ref fa))
    {C_BadCrossing C_Crossing C_UnknownStream f__law_cell f__law_hand f__law_take f__law_drawn_rivals f_BadCrossingz_initz f_is_name f_check_streams f_is_rival f_spans_of f_Crossingz_initz f__law_names f__law_groups f__law_inside f_choices f_Crossingz_lenz f_first_strange f_pairs_of f_UnknownStreamz_initz f_Crossingzcheck f_Crossing_span f_are_rivals f_is_stage f_stages f__law_is_int f__law_same f_is_part f_greatest_stages f_is_crowd f_greatest_crowd f__law_listed f__law_is_free f__law_decides f__law_lists f_law : Addr}
    {t_MOST_STREAMS t_MOST_LETTERS t_LETTERS t_MOST_SPAN : Tok}
    {od0 an0 od1 an1 od2 an2 od3 an3 od4 an4 od5 an5 od6 an6 od7 an7 od8 an8 od9 an9 od10 an10 od11 an11 od12 an12 od13 an13 od14 an14 od15 an15 od16 an16 od17 an17 od18 an18 od19 an19 od20 an20 od21 an21 od22 an22 od23 an23 od24 an24 od25 an25 od26 an26 od27 an27 od28 an28 od29 an29 od30 an30 od31 an31 od32 an32 od33 an33 : Option Addr} {sl0 sl1 sl2 sl3 sl4 sl5 sl6 sl7 sl8 sl9 sl10 sl11 sl12 sl13 sl14 sl15 sl16 sl17 sl18 sl19 sl20 sl21 sl22 sl23 sl24 sl25 sl26 sl27 sl28 sl29 sl30 sl31 sl32 sl33 : Array (Option Value)} {oc0 kV0 dc0 pm0 cd0 ct0 oc1 kV1 dc1 pm1 cd1 ct1 oc2 kV2 dc2 pm2 cd2 ct2 oc3 kV3 dc3 pm3 cd3 ct3 oc4 kV4 dc4 pm4 cd4 ct4 oc5 kV5 dc5 pm5 cd5 ct5 oc6 kV6 dc6 pm6 cd6 ct6 oc7 kV7 dc7 pm7 cd7 ct7 oc8 kV8 dc8 pm8 cd8 ct8 oc9 kV9 dc9 pm9 cd9 ct9 oc10 kV10 dc10 pm10 cd10 ct10 oc11 kV11 dc11 pm11 cd11 ct11 oc12 kV12 dc12 pm12 cd12 ct12 oc13 kV13 dc13 pm13 cd13 ct13 oc14 kV14 dc14 pm14 cd14 ct14 oc15 kV15 dc15 pm15 cd15 ct15 oc16 kV16 dc16 pm16 cd16 ct16 oc17 kV17 dc17 pm17 cd17 ct17 oc18 kV18 dc18 pm18 cd18 ct18 oc19 kV19 dc19 pm19 cd19 ct19 oc20 kV20 dc20 pm20 cd20 ct20 oc21 kV21 dc21 pm21 cd21 ct21 oc22 kV22 dc22 pm22 cd22 ct22 oc23 kV23 dc23 pm23 cd23 ct23 oc24 kV24 dc24 pm24 cd24 ct24 oc25 kV25 dc25 pm25 cd25 ct25 oc26 kV26 dc26 pm26 cd26 ct26 oc27 kV27 dc27 pm27 cd27 ct27 oc28 kV28 dc28 pm28 cd28 ct28 oc29 kV29 dc29 pm29 cd29 ct29 oc30 kV30 dc30 pm30 cd30 ct30 oc31 kV31 dc31 pm31 cd31 ct31 oc32 kV32 dc32 pm32 cd32 ct32 oc33 kV33 dc33 pm33 cd33 ct33 : Value}
    (l0 : K.lookup f__law_cell = some ⟨oc0, od0, .func (PySem.W.fnOf "_law_cell" "_law_cell" (defArgs s__law_cell) (defBody s__law_cell) (defScope s__law_cell) .none kV0 dc0 pm0 an0 cd0 ct0), sl0⟩) (c0 : PySem.W.codeIn K cd0 "_law_cell" = true) (k0 : PySem.W.keepIn K (.ref f__law_cell) = true)
    (a0 : PySem.W.nsIn K mainGlobals "_law_cell" = some (some (.ref f__law_cell)))
    (l1 : K.lookup f__law_hand = some ⟨oc1, od1, .func (PySem.W.fnOf "_law_hand" "_law_hand" (defArgs s__law_hand) (defBody s__law_hand) (defScope s__law_hand) .none kV1 dc1 pm1 an1 cd1 ct1), sl1⟩) (c1 : PySem.W.codeIn K cd1 "_law_hand" = true) (k1 : PySem.W.keepIn K (.ref f__law_hand) = true)
    (a1 : PySem.W.nsIn K mainGlobals "_law_hand" = some (some (.ref f__law_hand)))
    (l2 : K.lookup f__law_take = some ⟨oc2, od2, .func (PySem.W.fnOf "_law_take" "_law_take" (defArgs s__law_take) (defBody s__law_take) (defScope s__law_take) .none kV2 dc2 pm2 an2 cd2 ct2), sl2⟩) (c2 : PySem.W.codeIn K cd2 "_law_take" = true) (k2 : PySem.W.keepIn K (.ref f__law_take) = true)
    (a2 : PySem.W.nsIn K mainGlobals "_law_take" = some (some (.ref f__law_take)))
    (l3 : K.lookup f__law_drawn_rivals = some ⟨oc3, od3, .func (PySem.W.fnOf "_law_drawn_rivals" "_law_drawn_rivals" (defArgs s__law_drawn_rivals) (defBody s__law_drawn_rivals) (defScope s__law_drawn_rivals) .none kV3 dc3 pm3 an3 cd3 ct3), sl3⟩) (c3 : PySem.W.codeIn K cd3 "_law_drawn_rivals" = true) (k3 : PySem.W.keepIn K (.ref f__law_drawn_rivals) = true)
    (a3 : PySem.W.nsIn K mainGlobals "_law_drawn_rivals" = some (some (.ref f__law_drawn_rivals)))
    (l4 : K.lookup f_BadCrossingz_initz = some ⟨oc4, od4, .func (PySem.W.fnOf "__init__" "BadCrossing.__init__" (defArgs s_BadCrossingz_initz) (defBody s_BadCrossingz_initz) (defScope s_BadCrossingz_initz) .none kV4 dc4 pm4 an4 cd4 ct4), sl4⟩) (c4 : PySem.W.codeIn K cd4 "BadCrossing.__init__" = true) (k4 : PySem.W.keepIn K (.ref f_BadCrossingz_initz) = true)
    (l5 : K.lookup f_is_name = some ⟨oc5, od5, .func (PySem.W.fnOf "is_name" "is_name" (defArgs s_is_name) (defBody s_is_name) (defScope s_is_name) .none kV5 dc5 pm5 an5 cd5 ct5), sl5⟩) (c5 : PySem.W.codeIn K cd5 "is_name" = true) (k5 : PySem.W.keepIn K (.ref f_is_name) = true)
    (a5 : PySem.W.nsIn K mainGlobals "is_name" = some (some (.ref f_is_name)))
    (l6 : K.lookup f_check_streams = some ⟨oc6, od6, .func (PySem.W.fnOf "check_streams" "check_streams" (defArgs s_check_streams) (defBody s_check_streams) (defScope s_check_streams) .none kV6 dc6 pm6 an6 cd6 ct6), sl6⟩) (c6 : PySem.W.codeIn K cd6 "check_streams" = true) (k6 : PySem.W.keepIn K (.ref f_check_streams) = true)
    (a6 : PySem.W.nsIn K mainGlobals "check_streams" = some (some (.ref f_check_streams)))
    (l7 : K.lookup f_is_rival = some ⟨oc7, od7, .func (PySem.W.fnOf "is_rival" "is_rival" (defArgs s_is_rival) (defBody s_is_rival) (defScope s_is_rival) .none kV7 dc7 pm7 an7 cd7 ct7), sl7⟩) (c7 : PySem.W.codeIn K cd7 "is_rival" = true) (k7 : PySem.W.keepIn K (.ref f_is_rival) = true)
    (a7 : PySem.W.nsIn K mainGlobals "is_rival" = some (some (.ref f_is_rival)))
    (l8 : K.lookup f_spans_of = some ⟨oc8, od8, .func (PySem.W.fnOf "spans_of" "spans_of" (defArgs s_spans_of) (defBody s_spans_of) (defScope s_spans_of) .none kV8 dc8 pm8 an8 cd8 ct8), sl8⟩) (c8 : PySem.W.codeIn K cd8 "spans_of" = true) (k8 : PySem.W.keepIn K (.ref f_spans_of) = true)
    (a8 : PySem.W.nsIn K mainGlobals "spans_of" = some (some (.ref f_spans_of)))
    (l9 : K.lookup f_Crossingz_initz = some ⟨oc9, od9, .func (PySem.W.fnOf "__init__" "Crossing.__init__" (defArgs s_Crossingz_initz) (defBody s_Crossingz_initz) (defScope s_Crossingz_initz) .none kV9 dc9 pm9 an9 cd9 ct9), sl9⟩) (c9 : PySem.W.codeIn K cd9 "Crossing.__init__" = true) (k9 : PySem.W.keepIn K (.ref f_Crossingz_initz) = true)
    (l10 : K.lookup f__law_names = some ⟨oc10, od10, .func (PySem.W.fnOf "_law_names" "_law_names" (defArgs s__law_names) (defBody s__law_names) (defScope s__law_names) .none kV10 dc10 pm10 an10 cd10 ct10), sl10⟩) (c10 : PySem.W.codeIn K cd10 "_law_names" = true) (k10 : PySem.W.keepIn K (.ref f__law_names) = true)
    (a10 : PySem.W.nsIn K mainGlobals "_law_names" = some (some (.ref f__law_names)))
    (l11 : K.lookup f__law_groups = some ⟨oc11, od11, .func (PySem.W.fnOf "_law_groups" "_law_groups" (defArgs s__law_groups) (defBody s__law_groups) (defScope s__law_groups) .none kV11 dc11 pm11 an11 cd11 ct11), sl11⟩) (c11 : PySem.W.codeIn K cd11 "_law_groups" = true) (k11 : PySem.W.keepIn K (.ref f__law_groups) = true)
    (a11 : PySem.W.nsIn K mainGlobals "_law_groups" = some (some (.ref f__law_groups)))
    (l12 : K.lookup f__law_inside = some ⟨oc12, od12, .func (PySem.W.fnOf "_law_inside" "_law_inside" (defArgs s__law_inside) (defBody s__law_inside) (defScope s__law_inside) .none kV12 dc12 pm12 an12 cd12 ct12), sl12⟩) (c12 : PySem.W.codeIn K cd12 "_law_inside" = true) (k12 : PySem.W.keepIn K (.ref f__law_inside) = true)
    (a12 : PySem.W.nsIn K mainGlobals "_law_inside" = some (some (.ref f__law_inside)))
    (l13 : K.lookup f_choices = some ⟨oc13, od13, .func (PySem.W.fnOf "choices" "choices" (defArgs s_choices) (defBody s_choices) (defScope s_choices) .none kV13 dc13 pm13 an13 cd13 ct13), sl13⟩) (c13 : PySem.W.codeIn K cd13 "choices" = true) (k13 : PySem.W.keepIn K (.ref f_choices) = true)
    (a13 : PySem.W.nsIn K mainGlobals "choices" = some (some (.ref f_choices)))
    (l14 : K.lookup f_Crossingz_lenz = some ⟨oc14, od14, .func (PySem.W.fnOf "__len__" "Crossing.__len__" (defArgs s_Crossingz_lenz) (defBody s_Crossingz_lenz) (defScope s_Crossingz_lenz) .none kV14 dc14 pm14 an14 cd14 ct14), sl14⟩) (c14 : PySem.W.codeIn K cd14 "Crossing.__len__" = true) (k14 : PySem.W.keepIn K (.ref f_Crossingz_lenz) = true)
    (l15 : K.lookup f_first_strange = some ⟨oc15, od15, .func (PySem.W.fnOf "first_strange" "first_strange" (defArgs s_first_strange) (defBody s_first_strange) (defScope s_first_strange) .none kV15 dc15 pm15 an15 cd15 ct15), sl15⟩) (c15 : PySem.W.codeIn K cd15 "first_strange" = true) (k15 : PySem.W.keepIn K (.ref f_first_strange) = true)
    (a15 : PySem.W.nsIn K mainGlobals "first_strange" = some (some (.ref f_first_strange)))
    (l16 : K.lookup f_pairs_of = some ⟨oc16, od16, .func (PySem.W.fnOf "pairs_of" "pairs_of" (defArgs s_pairs_of) (defBody s_pairs_of) (defScope s_pairs_of) .none kV16 dc16 pm16 an16 cd16 ct16), sl16⟩) (c16 : PySem.W.codeIn K cd16 "pairs_of" = true) (k16 : PySem.W.keepIn K (.ref f_pairs_of) = true)
    (a16 : PySem.W.nsIn K mainGlobals "pairs_of" = some (some (.ref f_pairs_of)))
    (l17 : K.lookup f_UnknownStreamz_initz = some ⟨oc17, od17, .func (PySem.W.fnOf "__init__" "UnknownStream.__init__" (defArgs s_UnknownStreamz_initz) (defBody s_UnknownStreamz_initz) (defScope s_UnknownStreamz_initz) .none kV17 dc17 pm17 an17 cd17 ct17), sl17⟩) (c17 : PySem.W.codeIn K cd17 "UnknownStream.__init__" = true) (k17 : PySem.W.keepIn K (.ref f_UnknownStreamz_initz) = true)
    (l18 : K.lookup f_Crossingzcheck = some ⟨oc18, od18, .func (PySem.W.fnOf "_check" "Crossing._check" (defArgs s_Crossingzcheck) (defBody s_Crossingzcheck) (defScope s_Crossingzcheck) .none kV18 dc18 pm18 an18 cd18 ct18), sl18⟩) (c18 : PySem.W.codeIn K cd18 "Crossing._check" = true) (k18 : PySem.W.keepIn K (.ref f_Crossingzcheck) = true)
    (l19 : K.lookup f_Crossing_span = some ⟨oc19, od19, .func (PySem.W.fnOf "span" "Crossing.span" (defArgs s_Crossing_span) (defBody s_Crossing_span) (defScope s_Crossing_span) .none kV19 dc19 pm19 an19 cd19 ct19), sl19⟩) (c19 : PySem.W.codeIn K cd19 "Crossing.span" = true) (k19 : PySem.W.keepIn K (.ref f_Crossing_span) = true)
    (l20 : K.lookup f_are_rivals = some ⟨oc20, od20, .func (PySem.W.fnOf "are_rivals" "are_rivals" (defArgs s_are_rivals) (defBody s_are_rivals) (defScope s_are_rivals) .none kV20 dc20 pm20 an20 cd20 ct20), sl20⟩) (c20 : PySem.W.codeIn K cd20 "are_rivals" = true) (k20 : PySem.W.keepIn K (.ref f_are_rivals) = true)
    (a20 : PySem.W.nsIn K mainGlobals "are_rivals" = some (some (.ref f_are_rivals)))
    (l21 : K.lookup f_is_stage = some ⟨oc21, od21, .func (PySem.W.fnOf "is_stage" "is_stage" (defArgs s_is_stage) (defBody s_is_stage) (defScope s_is_stage) .none kV21 dc21 pm21 an21 cd21 ct21), sl21⟩) (c21 : PySem.W.codeIn K cd21 "is_stage" = true) (k21 : PySem.W.keepIn K (.ref f_is_stage) = true)
    (a21 : PySem.W.nsIn K mainGlobals "is_stage" = some (some (.ref f_is_stage)))
    (l22 : K.lookup f_stages = some ⟨oc22, od22, .func (PySem.W.fnOf "stages" "stages" (defArgs s_stages) (defBody s_stages) (defScope s_stages) .none kV22 dc22 pm22 an22 cd22 ct22), sl22⟩) (c22 : PySem.W.codeIn K cd22 "stages" = true) (k22 : PySem.W.keepIn K (.ref f_stages) = true)
    (a22 : PySem.W.nsIn K mainGlobals "stages" = some (some (.ref f_stages)))
    (l23 : K.lookup f__law_is_int = some ⟨oc23, od23, .func (PySem.W.fnOf "_law_is_int" "_law_is_int" (defArgs s__law_is_int) (defBody s__law_is_int) (defScope s__law_is_int) .none kV23 dc23 pm23 an23 cd23 ct23), sl23⟩) (c23 : PySem.W.codeIn K cd23 "_law_is_int" = true) (k23 : PySem.W.keepIn K (.ref f__law_is_int) = true)
    (a23 : PySem.W.nsIn K mainGlobals "_law_is_int" = some (some (.ref f__law_is_int)))
    (l24 : K.lookup f__law_same = some ⟨oc24, od24, .func (PySem.W.fnOf "_law_same" "_law_same" (defArgs s__law_same) (defBody s__law_same) (defScope s__law_same) .none kV24 dc24 pm24 an24 cd24 ct24), sl24⟩) (c24 : PySem.W.codeIn K cd24 "_law_same" = true) (k24 : PySem.W.keepIn K (.ref f__law_same) = true)
    (a24 : PySem.W.nsIn K mainGlobals "_law_same" = some (some (.ref f__law_same)))
    (l25 : K.lookup f_is_part = some ⟨oc25, od25, .func (PySem.W.fnOf "is_part" "is_part" (defArgs s_is_part) (defBody s_is_part) (defScope s_is_part) .none kV25 dc25 pm25 an25 cd25 ct25), sl25⟩) (c25 : PySem.W.codeIn K cd25 "is_part" = true) (k25 : PySem.W.keepIn K (.ref f_is_part) = true)
    (a25 : PySem.W.nsIn K mainGlobals "is_part" = some (some (.ref f_is_part)))
    (l26 : K.lookup f_greatest_stages = some ⟨oc26, od26, .func (PySem.W.fnOf "greatest_stages" "greatest_stages" (defArgs s_greatest_stages) (defBody s_greatest_stages) (defScope s_greatest_stages) .none kV26 dc26 pm26 an26 cd26 ct26), sl26⟩) (c26 : PySem.W.codeIn K cd26 "greatest_stages" = true) (k26 : PySem.W.keepIn K (.ref f_greatest_stages) = true)
    (a26 : PySem.W.nsIn K mainGlobals "greatest_stages" = some (some (.ref f_greatest_stages)))
    (l27 : K.lookup f_is_crowd = some ⟨oc27, od27, .func (PySem.W.fnOf "is_crowd" "is_crowd" (defArgs s_is_crowd) (defBody s_is_crowd) (defScope s_is_crowd) .none kV27 dc27 pm27 an27 cd27 ct27), sl27⟩) (c27 : PySem.W.codeIn K cd27 "is_crowd" = true) (k27 : PySem.W.keepIn K (.ref f_is_crowd) = true)
    (a27 : PySem.W.nsIn K mainGlobals "is_crowd" = some (some (.ref f_is_crowd)))
    (l28 : K.lookup f_greatest_crowd = some ⟨oc28, od28, .func (PySem.W.fnOf "greatest_crowd" "greatest_crowd" (defArgs s_greatest_crowd) (defBody s_greatest_crowd) (defScope s_greatest_crowd) .none kV28 dc28 pm28 an28 cd28 ct28), sl28⟩) (c28 : PySem.W.codeIn K cd28 "greatest_crowd" = true) (k28 : PySem.W.keepIn K (.ref f_greatest_crowd) = true)
    (a28 : PySem.W.nsIn K mainGlobals "greatest_crowd" = some (some (.ref f_greatest_crowd)))
    (l29 : K.lookup f__law_listed = some ⟨oc29, od29, .func (PySem.W.fnOf "_law_listed" "_law_listed" (defArgs s__law_listed) (defBody s__law_listed) (defScope s__law_listed) .none kV29 dc29 pm29 an29 cd29 ct29), sl29⟩) (c29 : PySem.W.codeIn K cd29 "_law_listed" = true) (k29 : PySem.W.keepIn K (.ref f__law_listed) = true)
    (a29 : PySem.W.nsIn K mainGlobals "_law_listed" = some (some (.ref f__law_listed)))
    (l30 : K.lookup f__law_is_free = some ⟨oc30, od30, .func (PySem.W.fnOf "_law_is_free" "_law_is_free" (defArgs s__law_is_free) (defBody s__law_is_free) (defScope s__law_is_free) .none kV30 dc30 pm30 an30 cd30 ct30), sl30⟩) (c30 : PySem.W.codeIn K cd30 "_law_is_free" = true) (k30 : PySem.W.keepIn K (.ref f__law_is_free) = true)
    (a30 : PySem.W.nsIn K mainGlobals "_law_is_free" = some (some (.ref f__law_is_free)))
    (l31 : K.lookup f__law_decides = some ⟨oc31, od31, .func (PySem.W.fnOf "_law_decides" "_law_decides" (defArgs s__law_decides) (defBody s__law_decides) (defScope s__law_decides) .none kV31 dc31 pm31 an31 cd31 ct31), sl31⟩) (c31 : PySem.W.codeIn K cd31 "_law_decides" = true) (k31 : PySem.W.keepIn K (.ref f__law_decides) = true)
    (a31 : PySem.W.nsIn K mainGlobals "_law_decides" = some (some (.ref f__law_decides)))
    (l32 : K.lookup f__law_lists = some ⟨oc32, od32, .func (PySem.W.fnOf "_law_lists" "_law_lists" (defArgs s__law_lists) (defBody s__law_lists) (defScope s__law_lists) .none kV32 dc32 pm32 an32 cd32 ct32), sl32⟩) (c32 : PySem.W.codeIn K cd32 "_law_lists" = true) (k32 : PySem.W.keepIn K (.ref f__law_lists) = true)
    (a32 : PySem.W.nsIn K mainGlobals "_law_lists" = some (some (.ref f__law_lists)))
    (l33 : K.lookup f_law = some ⟨oc33, od33, .func (PySem.W.fnOf "law" "law" (defArgs s_law) (defBody s_law) (defScope s_law) .none kV33 dc33 pm33 an33 cd33 ct33), sl33⟩) (c33 : PySem.W.codeIn K cd33 "law" = true) (k33 : PySem.W.keepIn K (.ref f_law) = true)
    (a33 : PySem.W.nsIn K mainGlobals "law" = some (some (.ref f_law)))
    (z_len : PySem.W.nsIn K mainGlobals "len" = some none)
    (z_abs : PySem.W.nsIn K mainGlobals "abs" = some none)
    (z_int : PySem.W.nsIn K mainGlobals "int" = some none)
    (z_range : PySem.W.nsIn K mainGlobals "range" = some none)
    (g_MOST_STREAMS : PySem.W.nsIn K mainGlobals "MOST_STREAMS" = some (some (.int 6 t_MOST_STREAMS)))
    (sb_BadCrossing : PySem.W.subIn K (.ref C_BadCrossing) (.type "BaseException") = some true)
    (ty_BadCrossing : PySem.W.typeIn K (.ref C_BadCrossing) = some (.type "type"))
    (kc_BadCrossing : PySem.W.keepIn K (.ref C_BadCrossing) = true)
    {nm_ox_BadCrossing q_ox_BadCrossing : Str} {N_ox_BadCrossing : Addr} {bs_ox_BadCrossing bm_ox_BadCrossing sn_ox_BadCrossing sub_ox_BadCrossing ab_ox_BadCrossing col_ox_BadCrossing dd_ox_BadCrossing k0_ox_BadCrossing k1_ox_BadCrossing k2_ox_BadCrossing k3_ox_BadCrossing k5_ox_BadCrossing : _} (ox_BadCrossing_l : K.lookup C_BadCrossing = some (excClassObj nm_ox_BadCrossing q_ox_BadCrossing C_BadCrossing N_ox_BadCrossing bs_ox_BadCrossing bm_ox_BadCrossing true sn_ox_BadCrossing sub_ox_BadCrossing ab_ox_BadCrossing col_ox_BadCrossing dd_ox_BadCrossing k0_ox_BadCrossing k1_ox_BadCrossing k2_ox_BadCrossing k3_ox_BadCrossing k5_ox_BadCrossing "ValueError.__new__")) (ox_BadCrossing_r : PySem.HandSPX.refsVE bm_ox_BadCrossing = true) (ox_BadCrossing_sa : PySem.W.findIn K (.ref C_BadCrossing) "__setattr__" = some (some (.builtin "object.__setattr__")))
    (na_BadCrossing_part : PySem.W.findIn K (.ref C_BadCrossing) "part" = some none)
    (na_BadCrossing_place : PySem.W.findIn K (.ref C_BadCrossing) "place" = some none)
    (fi_BadCrossing_zinitz : PySem.W.findIn K (.ref C_BadCrossing) "__init__" = some (some (.ref f_BadCrossingz_initz)))
    (tf_BadCrossingz_initz : PySem.W.typeIn K (.ref f_BadCrossingz_initz) = some (.type "function"))
    (mC_BadCrossing : PySem.W.nsIn K mainGlobals "BadCrossing" = some (some (.ref C_BadCrossing)))
    (z_enumerate : PySem.W.nsIn K mainGlobals "enumerate" = some none)
    (g_MOST_LETTERS : PySem.W.nsIn K mainGlobals "MOST_LETTERS" = some (some (.int 8 t_MOST_LETTERS)))
    (g_LETTERS : PySem.W.nsIn K mainGlobals "LETTERS" = some (some (.str "abcdefghijklmnopqrstuvwxyz" t_LETTERS)))
    (z_all : PySem.W.nsIn K mainGlobals "all" = some none)
    (g_MOST_SPAN : PySem.W.nsIn K mainGlobals "MOST_SPAN" = some (some (.int 9 t_MOST_SPAN)))
    (cl_Crossing_pg : PySem.W.plainGet K C_Crossing Str.empty = true) (cl_Crossing_hd : PySem.W.hasDictIn K C_Crossing = true) (cl_Crossing_po : PySem.W.plainOver K C_Crossing = true) (cl_Crossing_sa : PySem.W.findIn K (.ref C_Crossing) "__setattr__" = some (some (.builtin "object.__setattr__")))
    (na_Crossing__spans : PySem.W.findIn K (.ref C_Crossing) "_spans" = some none)
    (z_tuple : PySem.W.nsIn K mainGlobals "tuple" = some none)
    (na_Crossing_streams : PySem.W.findIn K (.ref C_Crossing) "streams" = some none)
    (na_Crossing_rivals : PySem.W.findIn K (.ref C_Crossing) "rivals" = some none)
    (z_list : PySem.W.nsIn K mainGlobals "list" = some none)
    (mk_Crossing : PySem.W.makesIn K C_Crossing = true)
    (fi_Crossing_zinitz : PySem.W.findIn K (.ref C_Crossing) "__init__" = some (some (.ref f_Crossingz_initz)))
    (if_Crossingz_initz : PySem.W.isFn K (.ref f_Crossingz_initz) = true)
    (kc_Crossing : PySem.W.keepIn K (.ref C_Crossing) = true)
    (mC_Crossing : PySem.W.nsIn K mainGlobals "Crossing" = some (some (.ref C_Crossing)))
    (z_sorted : PySem.W.nsIn K mainGlobals "sorted" = some none)
    (fi_Crossing_zlenz : PySem.W.findIn K (.ref C_Crossing) "__len__" = some (some (.ref f_Crossingz_lenz)))
    (if_Crossingz_lenz : PySem.W.isFn K (.ref f_Crossingz_lenz) = true)
    (sb_UnknownStream : PySem.W.subIn K (.ref C_UnknownStream) (.type "BaseException") = some true)
    (ty_UnknownStream : PySem.W.typeIn K (.ref C_UnknownStream) = some (.type "type"))
    (kc_UnknownStream : PySem.W.keepIn K (.ref C_UnknownStream) = true)
    {nm_ox_UnknownStream q_ox_UnknownStream : Str} {N_ox_UnknownStream : Addr} {bs_ox_UnknownStream bm_ox_UnknownStream sn_ox_UnknownStream sub_ox_UnknownStream ab_ox_UnknownStream col_ox_UnknownStream dd_ox_UnknownStream k0_ox_UnknownStream k1_ox_UnknownStream k2_ox_UnknownStream k3_ox_UnknownStream k5_ox_UnknownStream : _} (ox_UnknownStream_l : K.lookup C_UnknownStream = some (excClassObj nm_ox_UnknownStream q_ox_UnknownStream C_UnknownStream N_ox_UnknownStream bs_ox_UnknownStream bm_ox_UnknownStream true sn_ox_UnknownStream sub_ox_UnknownStream ab_ox_UnknownStream col_ox_UnknownStream dd_ox_UnknownStream k0_ox_UnknownStream k1_ox_UnknownStream k2_ox_UnknownStream k3_ox_UnknownStream k5_ox_UnknownStream "ValueError.__new__")) (ox_UnknownStream_r : PySem.HandSPX.refsVE bm_ox_UnknownStream = true) (ox_UnknownStream_sa : PySem.W.findIn K (.ref C_UnknownStream) "__setattr__" = some (some (.builtin "object.__setattr__")))
    (na_UnknownStream_number : PySem.W.findIn K (.ref C_UnknownStream) "number" = some none)
    (fi_UnknownStream_zinitz : PySem.W.findIn K (.ref C_UnknownStream) "__init__" = some (some (.ref f_UnknownStreamz_initz)))
    (tf_UnknownStreamz_initz : PySem.W.typeIn K (.ref f_UnknownStreamz_initz) = some (.type "function"))
    (mC_UnknownStream : PySem.W.nsIn K mainGlobals "UnknownStream" = some (some (.ref C_UnknownStream)))
    (fi_Crossing__check : PySem.W.findIn K (.ref C_Crossing) "_check" = some (some (.ref f_Crossingzcheck)))
    (if_Crossingzcheck : PySem.W.isFn K (.ref f_Crossingzcheck) = true)
    (fi_Crossing_span : PySem.W.findIn K (.ref C_Crossing) "span" = some (some (.ref f_Crossing_span)))
    (if_Crossing_span : PySem.W.isFn K (.ref f_Crossing_span) = true)
    (z_any : PySem.W.nsIn K mainGlobals "any" = some none)
    (z_isinstance : PySem.W.nsIn K mainGlobals "isinstance" = some none)
    (z_bool : PySem.W.nsIn K mainGlobals "bool" = some none)
    (z_str : PySem.W.nsIn K mainGlobals "str" = some none)
    (z_max : PySem.W.nsIn K mainGlobals "max" = some none)
    (z_min : PySem.W.nsIn K mainGlobals "min" = some none)
    : ∃ fd : FuncData, (∀ (s : Shared) (v : Value), BindsTo s fd ⟨[v], []⟩ [("script", v)]) ∧ ∃ T : Tx K mg, T.f_law = fa ∧ T.fd_law = fd := by
  have e := hfa.symm.trans (PySem.W.mg_of X G a33)
  obtain rfl : f_law = fa := by cases e; rfl
  have F0 := fun_mk (st := s__law_cell) l0 c0 k0
  have b0 := F0.binds (ps := ["script", "k"]) fun _ _ _ _ _ _ us hl => match us, hl with | [_, _], _ => rfl
  have F1 := fun_mk (st := s__law_hand) l1 c1 k1
  have b1 := F1.binds (ps := ["script", "k"]) fun _ _ _ _ _ _ us hl => match us, hl with | [_, _], _ => rfl
  have F2 := fun_mk (st := s__law_take) l2 c2 k2
  have b2 := F2.binds (ps := ["hand", "many"]) fun _ _ _ _ _ _ us hl => match us, hl with | [_, _], _ => rfl
  have F3 := fun_mk (st := s__law_drawn_rivals) l3 c3 k3
  have b3 := F3.binds (ps := ["hand", "count"]) fun _ _ _ _ _ _ us hl => match us, hl with | [_, _], _ => rfl
  have F4 := fun_mk (st := s_BadCrossingz_initz) l4 c4 k4
  have b4 := F4.binds (ps := ["self", "part", "place"]) fun _ _ _ _ _ _ us hl => match us, hl with | [_, _, _], _ => rfl
  have F5 := fun_mk (st := s_is_name) l5 c5 k5
  have b5 := F5.binds (ps := ["text"]) fun _ _ _ _ _ _ us hl => match us, hl with | [_], _ => rfl
  have F6 := fun_mk (st := s_check_streams) l6 c6 k6
  have b6 := F6.binds (ps := ["streams"]) fun _ _ _ _ _ _ us hl => match us, hl with | [_], _ => rfl
  have F7 := fun_mk (st := s_is_rival) l7 c7 k7
  have b7 := F7.binds (ps := ["rival", "count"]) fun _ _ _ _ _ _ us hl => match us, hl with | [_, _], _ => rfl
  have F8 := fun_mk (st := s_spans_of) l8 c8 k8
  have b8 := F8.binds (ps := ["rivals", "count"]) fun _ _ _ _ _ _ us hl => match us, hl with | [_, _], _ => rfl
  have F9 := fun_mk (st := s_Crossingz_initz) l9 c9 k9
  have b9 := F9.binds (ps := ["self", "streams", "rivals"]) fun _ _ _ _ _ _ us hl => match us, hl with | [_, _, _], _ => rfl
  have F10 := fun_mk (st := s__law_names) l10 c10 k10
  have b10 := F10.binds (ps := ["count"]) fun _ _ _ _ _ _ us hl => match us, hl with | [_], _ => rfl
  have F11 := fun_mk (st := s__law_groups) l11 c11 k11
  have b11 := F11.binds (ps := ["count"]) fun _ _ _ _ _ _ us hl => match us, hl with | [_], _ => rfl
  have F12 := fun_mk (st := s__law_inside) l12 c12 k12
  have b12 := F12.binds (ps := ["rivals", "streams"]) fun _ _ _ _ _ _ us hl => match us, hl with | [_, _], _ => rfl
  have F13 := fun_mk (st := s_choices) l13 c13 k13
  have b13 := F13.binds (ps := ["items"]) fun _ _ _ _ _ _ us hl => match us, hl with | [_], _ => rfl
  have F14 := fun_mk (st := s_Crossingz_lenz) l14 c14 k14
  have b14 := F14.binds (ps := ["self"]) fun _ _ _ _ _ _ us hl => match us, hl with | [_], _ => rfl
  have F15 := fun_mk (st := s_first_strange) l15 c15 k15
  have b15 := F15.binds (ps := ["entries", "count"]) fun _ _ _ _ _ _ us hl => match us, hl with | [_, _], _ => rfl
  have F16 := fun_mk (st := s_pairs_of) l16 c16 k16
  have b16 := F16.binds (ps := ["streams"]) fun _ _ _ _ _ _ us hl => match us, hl with | [_], _ => rfl
  have F17 := fun_mk (st := s_UnknownStreamz_initz) l17 c17 k17
  have b17 := F17.binds (ps := ["self", "number"]) fun _ _ _ _ _ _ us hl => match us, hl with | [_, _], _ => rfl
  have F18 := fun_mk (st := s_Crossingzcheck) l18 c18 k18
  have b18 := F18.binds (ps := ["self", "stream"]) fun _ _ _ _ _ _ us hl => match us, hl with | [_, _], _ => rfl
  have F19 := fun_mk (st := s_Crossing_span) l19 c19 k19
  have b19 := F19.binds (ps := ["self", "first", "second"]) fun _ _ _ _ _ _ us hl => match us, hl with | [_, _, _], _ => rfl
  have F20 := fun_mk (st := s_are_rivals) l20 c20 k20
  have b20 := F20.binds (ps := ["crossing", "first", "second"]) fun _ _ _ _ _ _ us hl => match us, hl with | [_, _, _], _ => rfl
  have F21 := fun_mk (st := s_is_stage) l21 c21 k21
  have b21 := F21.binds (ps := ["crossing", "streams"]) fun _ _ _ _ _ _ us hl => match us, hl with | [_, _], _ => rfl
  have F22 := fun_mk (st := s_stages) l22 c22 k22
  have b22 := F22.binds (ps := ["crossing"]) fun _ _ _ _ _ _ us hl => match us, hl with | [_], _ => rfl
  have F23 := fun_mk (st := s__law_is_int) l23 c23 k23
  have b23 := F23.binds (ps := ["got"]) fun _ _ _ _ _ _ us hl => match us, hl with | [_], _ => rfl
  have F24 := fun_mk (st := s__law_same) l24 c24 k24
  have b24 := F24.binds (ps := ["got", "due"]) fun _ _ _ _ _ _ us hl => match us, hl with | [_, _], _ => rfl
  have F25 := fun_mk (st := s_is_part) l25 c25 k25
  have b25 := F25.binds (ps := ["small", "great"]) fun _ _ _ _ _ _ us hl => match us, hl with | [_, _], _ => rfl
  have F26 := fun_mk (st := s_greatest_stages) l26 c26 k26
  have b26 := F26.binds (ps := ["crossing"]) fun _ _ _ _ _ _ us hl => match us, hl with | [_], _ => rfl
  have F27 := fun_mk (st := s_is_crowd) l27 c27 k27
  have b27 := F27.binds (ps := ["crossing", "streams"]) fun _ _ _ _ _ _ us hl => match us, hl with | [_, _], _ => rfl
  have F28 := fun_mk (st := s_greatest_crowd) l28 c28 k28
  have b28 := F28.binds (ps := ["crossing"]) fun _ _ _ _ _ _ us hl => match us, hl with | [_], _ => rfl
  have F29 := fun_mk (st := s__law_listed) l29 c29 k29
  have b29 := F29.binds (ps := ["crossing", "rivals", "count"]) fun _ _ _ _ _ _ us hl => match us, hl with | [_, _, _], _ => rfl
  have F30 := fun_mk (st := s__law_is_free) l30 c30 k30
  have b30 := F30.binds (ps := ["rivals", "count", "streams"]) fun _ _ _ _ _ _ us hl => match us, hl with | [_, _, _], _ => rfl
  have F31 := fun_mk (st := s__law_decides) l31 c31 k31
  have b31 := F31.binds (ps := ["crossing", "rivals", "count", "streams"]) fun _ _ _ _ _ _ us hl => match us, hl with | [_, _, _, _], _ => rfl
  have F32 := fun_mk (st := s__law_lists) l32 c32 k32
  have b32 := F32.binds (ps := ["hand", "count", "stage"]) fun _ _ _ _ _ _ us hl => match us, hl with | [_, _, _], _ => rfl
  have F33 := fun_mk (st := s_law) l33 c33 k33
  have b33 := F33.binds (ps := ["script"]) fun _ _ _ _ _ _ us hl => match us, hl with | [_], _ => rfl
  refine ⟨_, fun s v => ?_, { C_BadCrossing := C_BadCrossing, C_Crossing := C_Crossing, C_UnknownStream := C_UnknownStream, f__law_cell := f__law_cell, fd__law_cell := _, f__law_hand := f__law_hand, fd__law_hand := _, f__law_take := f__law_take, fd__law_take := _, f__law_drawn_rivals := f__law_drawn_rivals, fd__law_drawn_rivals := _, f_BadCrossingz_initz := f_BadCrossingz_initz, fd_BadCrossingz_initz := _, f_is_name := f_is_name, fd_is_name := _, f_check_streams := f_check_streams, fd_check_streams := _, f_is_rival := f_is_rival, fd_is_rival := _, f_spans_of := f_spans_of, fd_spans_of := _, f_Crossingz_initz := f_Crossingz_initz, fd_Crossingz_initz := _, f__law_names := f__law_names, fd__law_names := _, f__law_groups := f__law_groups, fd__law_groups := _, f__law_inside := f__law_inside, fd__law_inside := _, f_choices := f_choices, fd_choices := _, f_Crossingz_lenz := f_Crossingz_lenz, fd_Crossingz_lenz := _, f_first_strange := f_first_strange, fd_first_strange := _, f_pairs_of := f_pairs_of, fd_pairs_of := _, f_UnknownStreamz_initz := f_UnknownStreamz_initz, fd_UnknownStreamz_initz := _, f_Crossingzcheck := f_Crossingzcheck, fd_Crossingzcheck := _, f_Crossing_span := f_Crossing_span, fd_Crossing_span := _, f_are_rivals := f_are_rivals, fd_are_rivals := _, f_is_stage := f_is_stage, fd_is_stage := _, f_stages := f_stages, fd_stages := _, f__law_is_int := f__law_is_int, fd__law_is_int := _, f__law_same := f__law_same, fd__law_same := _, f_is_part := f_is_part, fd_is_part := _, f_greatest_stages := f_greatest_stages, fd_greatest_stages := _, f_is_crowd := f_is_crowd, fd_is_crowd := _, f_greatest_crowd := f_greatest_crowd, fd_greatest_crowd := _, f__law_listed := f__law_listed, fd__law_listed := _, f__law_is_free := f__law_is_free, fd__law_is_free := _, f__law_decides := f__law_decides, fd__law_decides := _, f__law_lists := f__law_lists, fd__law_lists := _, f_law := f_law, fd_law := _, t_MOST_STREAMS := t_MOST_STREAMS, t_MOST_LETTERS := t_MOST_LETTERS, t_LETTERS := t_LETTERS, t_MOST_SPAN := t_MOST_SPAN, F__law_cell := F0, b__law_cell := b0, F__law_hand := F1, b__law_hand := b1, F__law_take := F2, b__law_take := b2, F__law_drawn_rivals := F3, b__law_drawn_rivals := b3, F_BadCrossingz_initz := F4, b_BadCrossingz_initz := b4, F_is_name := F5, b_is_name := b5, F_check_streams := F6, b_check_streams := b6, F_is_rival := F7, b_is_rival := b7, F_spans_of := F8, b_spans_of := b8, F_Crossingz_initz := F9, b_Crossingz_initz := b9, F__law_names := F10, b__law_names := b10, F__law_groups := F11, b__law_groups := b11, F__law_inside := F12, b__law_inside := b12, F_choices := F13, b_choices := b13, F_Crossingz_lenz := F14, b_Crossingz_lenz := b14, F_first_strange := F15, b_first_strange := b15, F_pairs_of := F16, b_pairs_of := b16, F_UnknownStreamz_initz := F17, b_UnknownStreamz_initz := b17, F_Crossingzcheck := F18, b_Crossingzcheck := b18, F_Crossing_span := F19, b_Crossing_span := b19, F_are_rivals := F20, b_are_rivals := b20, F_is_stage := F21, b_is_stage := b21, F_stages := F22, b_stages := b22, F__law_is_int := F23, b__law_is_int := b23, F__law_same := F24, b__law_same := b24, F_is_part := F25, b_is_part := b25, F_greatest_stages := F26, b_greatest_stages := b26, F_is_crowd := F27, b_is_crowd := b27, F_greatest_crowd := F28, b_greatest_crowd := b28, F__law_listed := F29, b__law_listed := b29, F__law_is_free := F30, b__law_is_free := b30, F__law_decides := F31, b__law_decides := b31, F__law_lists := F32, b__law_lists := b32, F_law := F33, b_law := b33, z_len := PySem.W.mg_none_of X G z_len, z_abs := PySem.W.mg_none_of X G z_abs, m__law_cell := PySem.W.mg_of X G a0, z_int := PySem.W.mg_none_of X G z_int, m__law_hand := PySem.W.mg_of X G a1, m__law_take := PySem.W.mg_of X G a2, z_range := PySem.W.mg_none_of X G z_range, m__law_drawn_rivals := PySem.W.mg_of X G a3, g_MOST_STREAMS := PySem.W.mg_of X G g_MOST_STREAMS, sb_BadCrossing := sb_BadCrossing, ty_BadCrossing := ty_BadCrossing, kc_BadCrossing := kc_BadCrossing, ox_BadCrossing := ⟨⟨_, _, _, _, _, _, _, _, _, _, _, _, _, _, _, ox_BadCrossing_l, ox_BadCrossing_r⟩, ox_BadCrossing_sa, sb_BadCrossing, ty_BadCrossing, kc_BadCrossing⟩, na_BadCrossing_part := na_BadCrossing_part, na_BadCrossing_place := na_BadCrossing_place, fi_BadCrossing_zinitz := fi_BadCrossing_zinitz, tf_BadCrossingz_initz := tf_BadCrossingz_initz, mC_BadCrossing := PySem.W.mg_of X G mC_BadCrossing, z_enumerate := PySem.W.mg_none_of X G z_enumerate, g_MOST_LETTERS := PySem.W.mg_of X G g_MOST_LETTERS, g_LETTERS := PySem.W.mg_of X G g_LETTERS, z_all := PySem.W.mg_none_of X G z_all, m_is_name := PySem.W.mg_of X G a5, m_check_streams := PySem.W.mg_of X G a6, g_MOST_SPAN := PySem.W.mg_of X G g_MOST_SPAN, m_is_rival := PySem.W.mg_of X G a7, m_spans_of := PySem.W.mg_of X G a8, cl_Crossing := ⟨cl_Crossing_pg, cl_Crossing_hd, cl_Crossing_po, cl_Crossing_sa⟩, na_Crossing__spans := na_Crossing__spans, z_tuple := PySem.W.mg_none_of X G z_tuple, na_Crossing_streams := na_Crossing_streams, na_Crossing_rivals := na_Crossing_rivals, z_list := PySem.W.mg_none_of X G z_list, m__law_names := PySem.W.mg_of X G a10, mk_Crossing := mk_Crossing, fi_Crossing_zinitz := fi_Crossing_zinitz, if_Crossingz_initz := if_Crossingz_initz, kc_Crossing := kc_Crossing, mC_Crossing := PySem.W.mg_of X G mC_Crossing, m__law_groups := PySem.W.mg_of X G a11, m__law_inside := PySem.W.mg_of X G a12, z_sorted := PySem.W.mg_none_of X G z_sorted, fi_Crossing_zlenz := fi_Crossing_zlenz, if_Crossingz_lenz := if_Crossingz_lenz, m_choices := PySem.W.mg_of X G a13, m_first_strange := PySem.W.mg_of X G a15, m_pairs_of := PySem.W.mg_of X G a16, sb_UnknownStream := sb_UnknownStream, ty_UnknownStream := ty_UnknownStream, kc_UnknownStream := kc_UnknownStream, ox_UnknownStream := ⟨⟨_, _, _, _, _, _, _, _, _, _, _, _, _, _, _, ox_UnknownStream_l, ox_UnknownStream_r⟩, ox_UnknownStream_sa, sb_UnknownStream, ty_UnknownStream, kc_UnknownStream⟩, na_UnknownStream_number := na_UnknownStream_number, fi_UnknownStream_zinitz := fi_UnknownStream_zinitz, tf_UnknownStreamz_initz := tf_UnknownStreamz_initz, mC_UnknownStream := PySem.W.mg_of X G mC_UnknownStream, fi_Crossing__check := fi_Crossing__check, if_Crossingzcheck := if_Crossingzcheck, fi_Crossing_span := fi_Crossing_span, if_Crossing_span := if_Crossing_span, m_are_rivals := PySem.W.mg_of X G a20, z_any := PySem.W.mg_none_of X G z_any, m_is_stage := PySem.W.mg_of X G a21, m_stages := PySem.W.mg_of X G a22, z_isinstance := PySem.W.mg_none_of X G z_isinstance, z_bool := PySem.W.mg_none_of X G z_bool, m__law_is_int := PySem.W.mg_of X G a23, z_str := PySem.W.mg_none_of X G z_str, m__law_same := PySem.W.mg_of X G a24, m_is_part := PySem.W.mg_of X G a25, m_greatest_stages := PySem.W.mg_of X G a26, z_max := PySem.W.mg_none_of X G z_max, z_min := PySem.W.mg_none_of X G z_min, m_is_crowd := PySem.W.mg_of X G a27, m_greatest_crowd := PySem.W.mg_of X G a28, m__law_listed := PySem.W.mg_of X G a29, m__law_is_free := PySem.W.mg_of X G a30, m__law_decides := PySem.W.mg_of X G a31, m__law_lists := PySem.W.mg_of X G a32 }, rfl, rfl⟩
  exact .of_eq rfl
def lawLevel : Nat := 10
/-- the law as a function of the script -/
def lawV (ns : List Int) : R EV := m_law [.val (.sq (ns.map T.int))]
theorem law_fn {P : Program} {w : World} {K : PySem.W.Frag} {mg : Str → Option Value} {base : Heap} (T : Tx K mg) : FnOk P w K mg base (L2.CX P w) 10 T.f_law T.fd_law ["script"] (spM (DD T) 1 m_law) := ok_law T
theorem walk {l : PySem.W.OpenLaw} {q : Program} {loose : List Str} {XP : (Str → Option Value) → Heap → Prop} {YP : World → Heap → Prop} {d : DefRec} {K : Params → PySem.W.Frag} (hm : LawT m_law 63) (hn : l.most = some 63) (hdf : d.params.defaults = [])
    (hY : ∀ (w : World) (h : Heap), YP w h → (K w.params).In h)
    (F : ∀ (w : World) (mg : Str → Option Value) (fa : Addr) (h : Heap), (K w.params).In h → h.Ns mainGlobals mg → mg d.name = some (.ref fa) →
      ∃ fd : FuncData, (∀ (s : Shared) (v : Value), BindsTo s fd ⟨[v], []⟩ [("script", v)]) ∧ ∃ T : Tx (K w.params) mg, T.f_law = fa ∧ T.fd_law = fd) :
    PySem.W.WalkO q loose XP YP l.row.toRowW d [] (fun f vs => PySem.call f vs) :=
  walk_vi (n := 63) (k := 10) hn (by decide) hdf ⟨rfl, by decide, by decide⟩ hY fun w mg fa h a b c => by
    obtain ⟨fd, h1, T, h2, h3⟩ := F w mg fa h a b c
    subst h2 h3
    exact ⟨_, h1, fun base => (law_fn T).imp (sp_scr (D := DD T) hm)⟩
end Q

set_option Elab.async false
set_option linter.all false
set_option maxRecDepth 100000
set_option maxHeartbeats 4000000
namespace Q
open PySem L2 PySem.Spec VI
set_option hygiene false
local macro_rules | `(tactic| walk_at "go") => `(tactic| repeat (first | with_reducible refine seqW fun Kz kz1 kz2 kz3 kz4 => ?_ | (with_reducible refine kz1 _ ?_; clear kz1 kz2 kz3 kz4 Kz) | (with_reducible refine kz2 _ _ ?_; clear kz1 kz2 kz3 kz4 Kz) | (with_reducible refine kz3 _ ?_; clear kz1 kz2 kz3 kz4 Kz) | (with_reducible refine kz4 _ ?_; clear kz1 kz2 kz3 kz4 Kz) | walk_at "vw"))
set_option hygiene true
local macro_rules | `(tactic| walk_at "vw") => `(tactic| simp (disch := first | assumption | omega | (simp only [List.length_cons, List.length_nil, List.length_map, List.length_append, List.length_take, List.length_drop, List.length_set, List.length_replicate, List.length_range, len_rangeT, len_rng]; omega) | decide) only [↓Wp_cong, ↓Wp_ok, ↓Wp_ex, ↓Wp_bad, ↓Wp_bind, ↓Wp_tt, ↓Wp_ff, ↓Wp_dec, ↓Wp_notb, ↓Wp_not, ↓Wp_out, ↓Wp_e1, ↓Wp_e2, ↓Wp_eN, ↓Wp_eC, ↓Wp_aNil, ↓Wp_aCons, ↓Wp_aStar, ↓Wp_eTup, ↓Wp_eLst, ↓Wp_tOf, ↓Wp_tTrue, ↓Wp_tNot, ↓Wp_tAnd, ↓Wp_tOr, ↓Wp_eAnd, ↓Wp_eOr, ↓Wp_eNot, ↓Wp_eIf, ↓Wp_eFrz, ↓Wp_eChain, ↓Wp_sNx, ↓Wp_sBk, ↓Wp_sExpr, ↓Wp_sIf, ↓Wp_sRet, ↓Wp_sSet, ↓Wp_sAsg, ↓Wp_sFor, ↓Wp_sRaise, ↓Wp_sRaiseN, ↓Wp_sRaiseT, ↓Wp_sSub, ↓Wp_sAug, ↓Wp_runF, ↓Wp_eBmM, ↓Wp_eCall, ↓Wp_eOwn2, ↓Wp_eOwnI, ↓Wp_eOwn1, ↓Wp_eOwnIn, ↓Wp_eMeth, ↓Wp_eLenI, ↓Wp_eBlI, ↓Wp_eMake, ↓Wp_eCallO, ↓Wp_eCallO1, ↓Wp_eListOwn, ↓Wp_iAny, ↓Wp_iOwn, ↓Wp_iRange1, ↓Wp_iRange2, ↓Wp_iEnumL, ↓Wp_eLc, ↓Wp_eLc2, ↓Wp_vSc, ↓Wp_eSortedV, ↓Wp_vSet, ↓Wp_eSl, ↓Wp_oNone, ↓Wp_oSome, ↓Wp_eFld, ↓Wp_eIsi, ↓Wp_sFld, ↓Wp_eIsx, ↓Wp_sTryOnly, ↓Wp_sTryAs, ↓Wp_noX, ↓Wp_eIsq, ↓Wp_eXf, ↓Wp_eChain3, ↓Wp_sDcNew, ↓Wp_tDcIn, ↓Wp_sDcSet, ↓Wp_eDcGet, ↓Wp_sFz, ↓Wp_aDfl, ↓Wp_eWk, ↓Wp_eTf, ↓Wp_idxT, ↓Wp_cntT, ↓Wp_eCnt, ↓Wp_eIdx, ↓Wp_iSg, ↓Wp_iEnA, ↓Wp_hndNil, ↓Wp_hndAs, ↓Wp_hndOnly, ↓Wp_sTryH, ↓Wp_eOwnR, ↓Wp_pos, ↓Wp_neg, outK_v, outK_l, outK_u, e1K_some, e2K_some, eNK_some, optTK_some, derefs_nil, consO_some, derefs_cons, deref_val, deref_own, grounds_nil, grounds_val, grounds_own, grounds_vals, ground1_val, ground1_own, tupK_t, tupK_l, tK_bl, blK_bl, frzK_own, frzK_val, chB_some, chK_some, blOf_v, sqK_nx, sqK_rt, sqK_bk, sqK_ct, retK_val, retK_own, asgK_some, asgG_some, rsK_some, rtK_tup, ltK_some, subK_some, augK_some, augS_some, runK_rt, runK_nx, bmK_append, bmK_clear, bmK_reverse, er_map, bmK_index, bmK_popAt, bmK_insert, kE_val, kE_own, kF_some, kR_ev, kX_ev, callA_some, argSl_nil, consS_some, argSl_cons, argS_val, argS_own, backs_nil, backs_v, backs_ioV, backs_ioO, ownK_some, own2K_some, ownIK_some, inK_bl, inK_nb, methK_ins, methK_01, lenK_int, bliK_bl, rawK_some, mkK_non, mkX_ev, tkK_val, tkK_own, coK_own, co1K_own, co0K_val, lnK_int, heldK_some, itK_some, still_val, still_own, itemsT_lst, itemsT_tup, itemsT_sq, rgK_1, rgK_2, isR1_ok, isR2_ok, enK_some, plK_ok, plK_tt, lnP_ok, svK_ok, vsK_some, cutK_some, oiK_int, fldK_some, tryX_ev, trK_t, trK_f, isyK_ok, isxK_exn, isqK_exn, optK_some, xfK_exn, ch3K_some, fzK_nx, fzK_rt, frzSl_own, frzSl_val, frzSl_odc, dcInK_some, dcSetK_some, dcPutK_some, dcGetK_some, dcKeyK_some, keyOf_two, wkV_lst, wkV_tup, wkV_tf, wkV_sq, wkV_own, wkV_pk, tfK_lst, tfK_sq, ixB_ok, ctB_ok, ctA_ok, ixA_tf, ixA_lst, ixA_sq, idxL_ints, idxF_ints, sgK_some, enA_l, enA_t, hdK_t, hdK_f, hndX_ev, ownRK_some, ↓Wp_eVar, k_varV, k_varO, k_varI, k_varR, k_varP, ↓Wp_eVarF, k_vafV, k_vafO, k_setV, k_setO, k_der, k_derV, k_derO, k_derI, k_derR, k_derP, k_argV, k_argI, k_agvO, k_agvI, k_agvR, k_agvP, k_agvV, k_agiO, k_agiI, k_agiR, k_lat, k_lsO, k_lsI, k_put, k_ptO, k_ptI, k_stl, k_stP, k_bk, k_bkO, k_bkI, k_bkR, k_gNm, o_addI, o_addL, o_addT, o_pow6, o_pow5, o_sub, o_mul, o_mulL, o_fdiv, o_mod, o_neg, o_lt, o_le, o_gt, o_ge, o_abs, o_int, o_intB, o_min, o_max, o_lenL, o_lenT, o_lenQ, o_lenS, o_inS, o_notInS, o_listL, o_listT, o_listQ, o_tupL, o_tupQ, o_tupT, o_boolT, o_boolL, o_rev, o_revT, o_rg1, o_rg2, o_sum, o_maxL, o_minL, o_any, o_all, o_minT3, o_sortedP, o_sorted, o_gcd, o_cutLo, o_cutHi, o_cutHiT, o_cutLoT, o_tkMap, o_drMap, o_inLs, o_inTs, o_ixL, o_ixT, o_ixQ, o_ixLn, o_ixTn, o_ixL0, o_ixL1, o_ixL2, o_ixL3, o_ixT0, o_ixT1, o_ixT2, o_ixT3, o_ixR, o_ixRT, eqD_int, neD_int, eqD_bl, neD_bl, eqD_li, neD_li, eqD_tu, opIn_li, opIn_tu, opNotIn_li, opNotIn_tu, neD_lb, pow_10_18, pow_10_9, blOf_v, plain_no, mark1, mark1', plain_val, q_tf, q_ft, nth_0, nth_1, nth_2, nth_3, nth_map, nth_rng, mk_set, mk_zero, eqD_str, neD_str, rangeT_rng, T.isD, okIx, ioIx, pnIx, bIsi, kIs, kindOf, kInt, kBool, kStr, VI.kTup, VI.kLst, kNo, isNo, notNo, isCo, notCo, opIsN, isN, isB, gnd, ground1, putKs, putTs, fget, fldG, heldT, wipeR, backR, plainAt, gTp, gsCons, gsNil, clsO, Nat.reduceBEq, beq_self_eq_true, Nat.reduceEqDiff, Int.reduceAdd, Int.reduceSub, Int.reduceMul, Int.reduceEq, Int.reduceNe, decide_true, decide_false, decide_not, decide_eq_true_eq, Option.bind_some, Option.bind_none, implies_true, forall_const, Option.map_some, Option.map_none, List.cons_append, List.nil_append, List.replicate_succ, List.replicate_zero, List.getElem?_cons_zero, List.getElem?_cons_succ, List.getElem?_nil, List.set_cons_zero, List.set_cons_succ, List.length_cons, List.length_nil, List.map_cons, List.map_nil, List.take_succ_cons, List.take_zero, List.length_map, List.getD_cons_zero, List.getD_cons_succ, List.nodup_nil, List.nodup_cons, List.not_mem_nil, not_false_eq_true, not_true_eq_false, and_self, and_true, true_and, and_false, false_and, List.all_nil, List.all_cons, List.contains_nil, List.contains_cons, Bool.and_true, Bool.true_and, Bool.and_false, Bool.false_and, Bool.and_self, Bool.or_false, Bool.false_or, Bool.or_true, Bool.true_or, Bool.false_eq_true, Bool.true_eq_false, if_true, if_false, ite_true, ite_false, Bool.not_true, Bool.not_false, Bool.not_not, reduceIte, reduceCtorEq, Nat.reduceAdd, Nat.reduceLT, Nat.reduceLeDiff, Int.reduceLT, Int.reduceLE, Int.reduceToNat, Int.reduceNeg, Int.cast_ofNat_Int, Bool.decide_eq_true, List.reverse_cons, List.reverse_nil, List.append_assoc, List.lookup_cons, List.lookup_nil])
/-! ### the hand -/
def HandOk (N : Int) (h : List T) : Prop := ∃ c f n s : Int, h = [.int c, .int f, .int n, .int s] ∧ (f = 0 ∨ f = 1) ∧ 0 ≤ n ∧ n ≤ N ∧ 0 ≤ s ∧ s ≤ 10000000000
theorem HandOk.mono {N M : Int} {h : List T} (hk : HandOk N h) (hm : N ≤ M) : HandOk M h := by
  obtain ⟨c, f, n, s, rfl, hf, hn, hn2, hs⟩ := hk
  exact ⟨c, f, n, s, rfl, hf, hn, by omega, hs⟩
theorem ite01 (c : Prop) [Decidable c] : (if c then (1 : Int) else 0) = 0 ∨ (if c then (1 : Int) else 0) = 1 := by by_cases h : c <;> simp [h]
theorem take_s {N many : Int} {h : List T} {Q : EV → Ro → Prop} {X : EQ} (hk : HandOk N h) (hN : N ≤ 1000000000) (h1 : 0 < many) (h2 : many < 18446744073709551616)
    (k : ∀ d h' s r, HandOk (N + 1) h' → 0 ≤ d → d < many → Q (.val (.int d)) (.io h' :: s :: r)) : Wp (m__law_take [.io h, .val (.int many)]) Q X := by
  obtain ⟨c, f, n, s, rfl, hf, hn, hn2, hs, hs2⟩ := hk
  have fin : ∀ (a : Int) (s' : Sl) (r : Ro), Q (.val (.int (a % many))) (.io [.int c, .int f, .int (n + 1), .int s] :: s' :: r) := fun a s' r => k _ _ _ _ ⟨c, f, n + 1, s, rfl, hf, by omega, by omega, hs, hs2⟩ (Int.emod_nonneg _ (by omega)) (Int.emod_lt_of_pos _ h1)
  unfold m__law_take
  rcases hf with rfl | rfl
  · walk_at "go"; exact fin _ _ _
  · by_cases hc : 0 < c
    · walk_at "go"
      exact k _ _ _ _ ⟨c / many, 1, n, s, rfl, .inr rfl, hn, by omega, hs, hs2⟩ (Int.emod_nonneg _ (by omega)) (Int.emod_lt_of_pos _ h1)
    · walk_at "go"; exact fin _ _ _
theorem hand_s {ns : List Int} {j : Int} {Q : EV → Ro → Prop} {X : EQ} (h0 : 0 ≤ j) (h1 : j ≤ 1000)
    (k : ∀ h s s' r, HandOk 0 h → Q (.own h) (s :: s' :: r)) : Wp (m__law_hand [.val (.sq (ns.map T.int)), .val (.int j)]) Q X := by
  have fin : ∀ (c f : Int) (s s' : Sl) (r : Ro), (f = 0 ∨ f = 1) → Q (.own [.int c, .int f, .int 0, .int (c % 2147483629 + 7 * j)]) (s :: s' :: r) := fun c f s s' r hf => k _ _ _ _ ⟨c, f, 0, _, rfl, hf, by omega, by omega, by omega, by omega⟩
  unfold m__law_hand
  walk_at "go"
  unfold m__law_cell
  walk_at "go"
  refine Wp_split (fun h => ?_) fun h => ?_
  · walk_at "go"
    exact fin _ _ _ _ _ (ite01 _)
  · walk_at "go"
    exact fin _ _ _ _ _ (.inl rfl)
/-! ### _law_same says True of a thing and itself -/
inductive Plain : Nat → T → Prop where
  | int {n : Nat} {i : Int} : Plain (n + 1) (.int i)
  | bl {n : Nat} {i : Bool} : Plain (n + 1) (.bl i)
  | non {n : Nat} : Plain (n + 1) .non
  | str {n : Nat} {x : Str} (h : PyData.canLay0 (.str x) = true) : Plain (n + 1) (.str x)
  | lst {n : Nat} {ts : List T} (h : ts.length ≤ 100000) (k : ∀ t ∈ ts, Plain n t) : Plain (n + 1) (.lst ts)
  | tup {n : Nat} {ts : List T} (h : ts.length ≤ 100000) (k : ∀ t ∈ ts, Plain n t) : Plain (n + 1) (.tup ts)
theorem plain_0 {n : Nat} : ∀ t ∈ ([] : List T), Plain n t := fun t h => by simp at h
theorem plain_c {n : Nat} {t : T} {ts : List T} (h : Plain n t) (k : ∀ u ∈ ts, Plain n u) : ∀ u ∈ t :: ts, Plain n u := fun u hu => by
  rcases List.mem_cons.mp hu with rfl | hu
  · exact h
  · exact k u hu
def SlI (s : Sl) (t : T) : Prop := s = .val t ∨ s = .pin t
theorem plain_ints {n : Nat} {xs : List Int} (h : xs.length ≤ 100000) : Plain (n + 2) (.lst (xs.map T.int)) := .lst (by simpa using h) fun t ht => by
  obtain ⟨x, _, rfl⟩ := List.mem_map.mp ht; exact .int
def SameAt (n : Nat) : Prop := ∀ {t : T} {s0 s1 : Sl} {Q : EV → Ro → Prop} {X : EQ}, Plain n t → SlI s0 t → SlI s1 t → (∀ s s' r, Q (.val (.bl true)) (s :: s' :: r)) → Wp (m__law_same n [s0, s1]) Q X
theorem same_loop {n : Nat} (ih : SameAt n) {ts : List T} {s0 s1 : Sl} {Q : Fl → Ro → Prop} {X : EQ} (m : Int) (hm : m = ts.length) (hp : ∀ t ∈ ts, Plain n t) (hs : SlI s0 (.lst ts) ∧ SlI s1 (.lst ts) ∨ SlI s0 (.tup ts) ∧ SlI s1 (.tup ts)) (k : ∀ s2, Q .nx [s0, s1, s2]) :
    Wp (loopS (gNm 2) (sIf (tNot (tOf (eCall [.v, .v] (m__law_same n) (aCons (e2 opIx (eVar 0) (eVar 2)) (aCons (e2 opIx (eVar 1) (eVar 2)) aNil))))) (sRet (eC (.bl false))) sNx) ((rng m).map T.int) [s0, s1, .no]) Q X := by
  refine wp_for T.int (rng m) (fun _ _ ρ => ∃ s2, ρ = [s0, s1, s2]) ⟨_, rfl⟩ ?_ ?_
  · rintro done x rest _ e ⟨s2, rfl⟩
    obtain ⟨x0, x1⟩ := mem_rng.mp (show x ∈ rng m by rw [e]; simp)
    rw [hm] at x1
    refine ⟨_, rfl, ?_⟩
    have hx := hp _ (nth_mem x0 x1)
    rcases hs with ⟨hs0, hs1⟩ | ⟨hs0, hs1⟩ <;> rcases hs0 with rfl | rfl <;> rcases hs1 with rfl | rfl <;>
    · walk_at "go"
      refine ih hx (.inl rfl) (.inl rfl) fun s s' r => ?_
      walk_at "go"
      exact ⟨_, rfl⟩
  · rintro _ ⟨s2, rfl⟩
    exact k _
theorem same_lst {n : Nat} (ih : SameAt n) {ts : List T} {s0 s1 : Sl} {Q : EV → Ro → Prop} {X : EQ} (hl : ts.length ≤ 100000) (hp : ∀ t ∈ ts, Plain n t) (h0 : SlI s0 (.lst ts)) (h1 : SlI s1 (.lst ts)) (k : ∀ s s' r, Q (.val (.bl true)) (s :: s' :: r)) : Wp (m__law_same (n + 1) [s0, s1]) Q X := by
  unfold m__law_same
  obtain ⟨m, hm⟩ : ∃ m : Int, m = ts.length := ⟨_, rfl⟩
  have hm' : 0 ≤ m ∧ m ≤ 100000 := by omega
  rcases h0 with rfl | rfl <;> rcases h1 with rfl | rfl <;>
  · walk_at "go"
    simp only [← hm]
    refine same_loop ih m hm hp (.inl ⟨by first | exact .inl rfl | exact .inr rfl, by first | exact .inl rfl | exact .inr rfl⟩) fun s2 => ?_
    walk_at "go"
    exact k _ _ _
theorem same_tup {n : Nat} (ih : SameAt n) {ts : List T} {s0 s1 : Sl} {Q : EV → Ro → Prop} {X : EQ} (hl : ts.length ≤ 100000) (hp : ∀ t ∈ ts, Plain n t) (h0 : SlI s0 (.tup ts)) (h1 : SlI s1 (.tup ts)) (k : ∀ s s' r, Q (.val (.bl true)) (s :: s' :: r)) : Wp (m__law_same (n + 1) [s0, s1]) Q X := by
  unfold m__law_same
  obtain ⟨m, hm⟩ : ∃ m : Int, m = ts.length := ⟨_, rfl⟩
  have hm' : 0 ≤ m ∧ m ≤ 100000 := by omega
  rcases h0 with rfl | rfl <;> rcases h1 with rfl | rfl <;>
  · walk_at "go"
    simp only [← hm]
    refine same_loop ih m hm hp (.inr ⟨by first | exact .inl rfl | exact .inr rfl, by first | exact .inl rfl | exact .inr rfl⟩) fun s2 => ?_
    walk_at "go"
    exact k _ _ _
theorem same_s (n : Nat) : SameAt n := by
  induction n with
  | zero => intro t _ _ _ _ h; cases h
  | succ n ih =>
    intro t s0 s1 Q X h h0 h1 k
    cases h with
    | int => unfold m__law_same; rcases h0 with rfl | rfl <;> rcases h1 with rfl | rfl <;> (walk_at "go"; unfold m__law_is_int; walk_at "go"; exact k _ _ _)
    | @bl _ b => unfold m__law_same; cases b <;> rcases h0 with rfl | rfl <;> rcases h1 with rfl | rfl <;> (walk_at "go"; exact k _ _ _)
    | str h' => unfold m__law_same; rcases h0 with rfl | rfl <;> rcases h1 with rfl | rfl <;> (walk_at "go"; exact k _ _ _)
    | non => unfold m__law_same; rcases h0 with rfl | rfl <;> rcases h1 with rfl | rfl <;> (walk_at "go"; exact k _ _ _)
    | lst hl hp => exact same_lst ih hl hp h0 h1 k
    | tup hl hp => exact same_tup ih hl hp h0 h1 k
theorem same_ok (n : Nat) {t : T} {s0 s1 : Sl} {Q : EV → Ro → Prop} {X : EQ} (h : Plain n t) (h0 : SlI s0 t) (h1 : SlI s1 t) (k : ∀ s s' r, Q (.val (.bl true)) (s :: s' :: r)) : Wp (m__law_same n [s0, s1]) Q X := same_s n h h0 h1 k
theorem slv {t : T} : SlI (.val t) t := .inl rfl
theorem slp {t : T} : SlI (.pin t) t := .inr rfl
theorem same_vv {n : Nat} {t : T} {Q : EV → Ro → Prop} {X : EQ} (h : Plain n t) (k : ∀ s s' r, Q (.val (.bl true)) (s :: s' :: r)) : Wp (m__law_same n [.val t, .val t]) Q X := same_s n h slv slv k
theorem same_vp {n : Nat} {t : T} {Q : EV → Ro → Prop} {X : EQ} (h : Plain n t) (k : ∀ s s' r, Q (.val (.bl true)) (s :: s' :: r)) : Wp (m__law_same n [.val t, .pin t]) Q X := same_s n h slv slp k
theorem same_pv {n : Nat} {t : T} {Q : EV → Ro → Prop} {X : EQ} (h : Plain n t) (k : ∀ s s' r, Q (.val (.bl true)) (s :: s' :: r)) : Wp (m__law_same n [.pin t, .val t]) Q X := same_s n h slp slv k
theorem same_pp {n : Nat} {t : T} {Q : EV → Ro → Prop} {X : EQ} (h : Plain n t) (k : ∀ s s' r, Q (.val (.bl true)) (s :: s' :: r)) : Wp (m__law_same n [.pin t, .pin t]) Q X := same_s n h slp slp k
end Q

set_option Elab.async false
set_option linter.all false
set_option maxRecDepth 100000
set_option maxHeartbeats 4000000
namespace Q
open PySem L2 PySem.Spec VI
set_option hygiene false
local macro_rules | `(tactic| walk_at "go") => `(tactic| repeat (first | with_reducible refine seqW fun Kz kz1 kz2 kz3 kz4 => ?_ | (with_reducible refine kz1 _ ?_; clear kz1 kz2 kz3 kz4 Kz) | (with_reducible refine kz2 _ _ ?_; clear kz1 kz2 kz3 kz4 Kz) | (with_reducible refine kz3 _ ?_; clear kz1 kz2 kz3 kz4 Kz) | (with_reducible refine kz4 _ ?_; clear kz1 kz2 kz3 kz4 Kz) | walk_at "vw"))
set_option hygiene true
local macro_rules | `(tactic| walk_at "vw") => `(tactic| simp (disch := first | assumption | omega | (simp only [List.length_cons, List.length_nil, List.length_map, List.length_append, List.length_take, List.length_drop, List.length_set, List.length_replicate, List.length_range, len_rangeT, len_rng]; omega) | decide) only [↓Wp_cong, ↓Wp_ok, ↓Wp_ex, ↓Wp_bad, ↓Wp_bind, ↓Wp_tt, ↓Wp_ff, ↓Wp_dec, ↓Wp_notb, ↓Wp_not, ↓Wp_out, ↓Wp_e1, ↓Wp_e2, ↓Wp_eN, ↓Wp_eC, ↓Wp_aNil, ↓Wp_aCons, ↓Wp_aStar, ↓Wp_eTup, ↓Wp_eLst, ↓Wp_tOf, ↓Wp_tTrue, ↓Wp_tNot, ↓Wp_tAnd, ↓Wp_tOr, ↓Wp_eAnd, ↓Wp_eOr, ↓Wp_eNot, ↓Wp_eIf, ↓Wp_eFrz, ↓Wp_eChain, ↓Wp_sNx, ↓Wp_sBk, ↓Wp_sExpr, ↓Wp_sIf, ↓Wp_sRet, ↓Wp_sSet, ↓Wp_sAsg, ↓Wp_sFor, ↓Wp_sRaise, ↓Wp_sRaiseN, ↓Wp_sRaiseT, ↓Wp_sSub, ↓Wp_sAug, ↓Wp_runF, ↓Wp_eBmM, ↓Wp_eCall, ↓Wp_eOwn2, ↓Wp_eOwnI, ↓Wp_eOwn1, ↓Wp_eOwnIn, ↓Wp_eMeth, ↓Wp_eLenI, ↓Wp_eBlI, ↓Wp_eMake, ↓Wp_eCallO, ↓Wp_eCallO1, ↓Wp_eListOwn, ↓Wp_iAny, ↓Wp_iOwn, ↓Wp_iRange1, ↓Wp_iRange2, ↓Wp_iEnumL, ↓Wp_eLc, ↓Wp_eLc2, ↓Wp_vSc, ↓Wp_eSortedV, ↓Wp_vSet, ↓Wp_eSl, ↓Wp_oNone, ↓Wp_oSome, ↓Wp_eFld, ↓Wp_eIsi, ↓Wp_sFld, ↓Wp_eIsx, ↓Wp_sTryOnly, ↓Wp_sTryAs, ↓Wp_noX, ↓Wp_eIsq, ↓Wp_eXf, ↓Wp_eChain3, ↓Wp_sDcNew, ↓Wp_tDcIn, ↓Wp_sDcSet, ↓Wp_eDcGet, ↓Wp_sFz, ↓Wp_aDfl, ↓Wp_eWk, ↓Wp_eTf, ↓Wp_idxT, ↓Wp_cntT, ↓Wp_eCnt, ↓Wp_eIdx, ↓Wp_iSg, ↓Wp_iEnA, ↓Wp_hndNil, ↓Wp_hndAs, ↓Wp_hndOnly, ↓Wp_sTryH, ↓Wp_eOwnR, ↓Wp_pos, ↓Wp_neg, outK_v, outK_l, outK_u, e1K_some, e2K_some, eNK_some, optTK_some, derefs_nil, consO_some, derefs_cons, deref_val, deref_own, grounds_nil, grounds_val, grounds_own, grounds_vals, ground1_val, ground1_own, tupK_t, tupK_l, tK_bl, blK_bl, frzK_own, frzK_val, chB_some, chK_some, blOf_v, sqK_nx, sqK_rt, sqK_bk, sqK_ct, retK_val, retK_own, asgK_some, asgG_some, rsK_some, rtK_tup, ltK_some, subK_some, augK_some, augS_some, runK_rt, runK_nx, bmK_append, bmK_clear, bmK_reverse, er_map, bmK_index, bmK_popAt, bmK_insert, kE_val, kE_own, kF_some, kR_ev, kX_ev, callA_some, argSl_nil, consS_some, argSl_cons, argS_val, argS_own, backs_nil, backs_v, backs_ioV, backs_ioO, ownK_some, own2K_some, ownIK_some, inK_bl, inK_nb, methK_ins, methK_01, lenK_int, bliK_bl, rawK_some, mkK_non, mkX_ev, tkK_val, tkK_own, coK_own, co1K_own, co0K_val, lnK_int, heldK_some, itK_some, still_val, still_own, itemsT_lst, itemsT_tup, itemsT_sq, rgK_1, rgK_2, isR1_ok, isR2_ok, enK_some, plK_ok, plK_tt, lnP_ok, svK_ok, vsK_some, cutK_some, oiK_int, fldK_some, tryX_ev, trK_t, trK_f, isyK_ok, isxK_exn, isqK_exn, optK_some, xfK_exn, ch3K_some, fzK_nx, fzK_rt, frzSl_own, frzSl_val, frzSl_odc, dcInK_some, dcSetK_some, dcPutK_some, dcGetK_some, dcKeyK_some, keyOf_two, wkV_lst, wkV_tup, wkV_tf, wkV_sq, wkV_own, wkV_pk, tfK_lst, tfK_sq, ixB_ok, ctB_ok, ctA_ok, ixA_tf, ixA_lst, ixA_sq, idxL_ints, idxF_ints, sgK_some, enA_l, enA_t, hdK_t, hdK_f, hndX_ev, ownRK_some, ↓Wp_eVar, k_varV, k_varO, k_varI, k_varR, k_varP, ↓Wp_eVarF, k_vafV, k_vafO, k_setV, k_setO, k_der, k_derV, k_derO, k_derI, k_derR, k_derP, k_argV, k_argI, k_agvO, k_agvI, k_agvR, k_agvP, k_agvV, k_agiO, k_agiI, k_agiR, k_lat, k_lsO, k_lsI, k_put, k_ptO, k_ptI, k_stl, k_stP, k_bk, k_bkO, k_bkI, k_bkR, k_gNm, o_addI, o_addL, o_addT, o_pow6, o_pow5, o_sub, o_mul, o_mulL, o_fdiv, o_mod, o_neg, o_lt, o_le, o_gt, o_ge, o_abs, o_int, o_intB, o_min, o_max, o_lenL, o_lenT, o_lenQ, o_lenS, o_inS, o_notInS, o_listL, o_listT, o_listQ, o_tupL, o_tupQ, o_tupT, o_boolT, o_boolL, o_rev, o_revT, o_rg1, o_rg2, o_sum, o_maxL, o_minL, o_any, o_all, o_minT3, o_sortedP, o_sorted, o_gcd, o_cutLo, o_cutHi, o_cutHiT, o_cutLoT, o_tkMap, o_drMap, o_inLs, o_inTs, o_ixL, o_ixT, o_ixQ, o_ixLn, o_ixTn, o_ixL0, o_ixL1, o_ixL2, o_ixL3, o_ixT0, o_ixT1, o_ixT2, o_ixT3, o_ixR, o_ixRT, eqD_int, neD_int, eqD_bl, neD_bl, eqD_li, neD_li, eqD_tu, opIn_li, opIn_tu, opNotIn_li, opNotIn_tu, neD_lb, pow_10_18, pow_10_9, blOf_v, plain_no, mark1, mark1', plain_val, q_tf, q_ft, nth_0, nth_1, nth_2, nth_3, nth_map, nth_rng, mk_set, mk_zero, eqD_str, neD_str, rangeT_rng, T.isD, okIx, ioIx, pnIx, bIsi, kIs, kindOf, kInt, kBool, kStr, VI.kTup, VI.kLst, kNo, isNo, notNo, isCo, notCo, opIsN, isN, isB, gnd, ground1, putKs, putTs, fget, fldG, heldT, wipeR, backR, plainAt, gTp, gsCons, gsNil, clsO, Nat.reduceBEq, beq_self_eq_true, Nat.reduceEqDiff, Int.reduceAdd, Int.reduceSub, Int.reduceMul, Int.reduceEq, Int.reduceNe, decide_true, decide_false, decide_not, decide_eq_true_eq, Option.bind_some, Option.bind_none, implies_true, forall_const, Option.map_some, Option.map_none, List.cons_append, List.nil_append, List.replicate_succ, List.replicate_zero, List.getElem?_cons_zero, List.getElem?_cons_succ, List.getElem?_nil, List.set_cons_zero, List.set_cons_succ, List.length_cons, List.length_nil, List.map_cons, List.map_nil, List.take_succ_cons, List.take_zero, List.length_map, List.getD_cons_zero, List.getD_cons_succ, List.nodup_nil, List.nodup_cons, List.not_mem_nil, not_false_eq_true, not_true_eq_false, and_self, and_true, true_and, and_false, false_and, List.all_nil, List.all_cons, List.contains_nil, List.contains_cons, Bool.and_true, Bool.true_and, Bool.and_false, Bool.false_and, Bool.and_self, Bool.or_false, Bool.false_or, Bool.or_true, Bool.true_or, Bool.false_eq_true, Bool.true_eq_false, if_true, if_false, ite_true, ite_false, Bool.not_true, Bool.not_false, Bool.not_not, reduceIte, reduceCtorEq, Nat.reduceAdd, Nat.reduceLT, Nat.reduceLeDiff, Int.reduceLT, Int.reduceLE, Int.reduceToNat, Int.reduceNeg, Int.cast_ofNat_Int, Bool.decide_eq_true, List.reverse_cons, List.reverse_nil, List.append_assoc, List.lookup_cons, List.lookup_nil])
theorem rng_at {L : Int} {done rest : List Int} {x : Int} (e : rng L = done ++ x :: rest) : x = done.length := by
  have h1 : (rng L)[done.length]? = some x := by rw [e]; simp
  have h2 : done.length < L.toNat := by
    have := congrArg List.length e
    rw [len_rng] at this; simp at this; omega
  simp only [rng, List.getElem?_map, List.getElem?_range h2] at h1
  cases h1; rfl
theorem range_at {n : Nat} {done rest : List Nat} {x : Nat} (e : List.range n = done ++ x :: rest) : x = done.length := by
  have h1 : (List.range n)[done.length]? = some x := by rw [e]; simp
  have h2 : done.length < n := by
    have := congrArg List.length e
    simp at this; omega
  rw [List.getElem?_range h2] at h1
  cases h1; rfl
theorem snoc_ind {α : Type} {P : List α → Prop} (h0 : P []) (hs : ∀ xs x, P xs → P (xs ++ [x])) : ∀ xs, P xs := fun xs => by
  have go : ∀ ys : List α, P ys.reverse := fun ys => by
    induction ys with
    | nil => exact h0
    | cons y ys ih => rw [List.reverse_cons]; exact hs _ _ ih
  have := go xs.reverse
  rwa [List.reverse_reverse] at this
theorem enum_zip {α : Type} (f : α → T) : ∀ (k : Nat) (xs : List α), enumT k (xs.map f) = (xs.zipIdx k).map fun p : α × Nat => T.tup [.int (p.2 : Int), f p.1]
  | _, [] => rfl
  | k, x :: xs => by rw [List.map_cons, enumT, enum_zip f (k + 1) xs, List.zipIdx_cons, List.map_cons]
theorem zip_at {α : Type} {xs : List α} {done rest : List (α × Nat)} {p : α × Nat} (e : xs.zipIdx 0 = done ++ p :: rest) : p.2 = done.length ∧ xs = done.map Prod.fst ++ p.1 :: rest.map Prod.fst := by
  have h1 : (xs.zipIdx 0)[done.length]? = some p := by rw [e]; simp
  rw [List.getElem?_zipIdx] at h1
  constructor
  · cases hx : xs[done.length]? with
    | none => rw [hx] at h1; simp at h1
    | some x => rw [hx] at h1; simp at h1; rw [← h1]
  · have h2 := congrArg (List.map Prod.fst) e
    rw [List.zipIdx_map_fst, List.map_append, List.map_cons] at h2
    exact h2
theorem nodup_rng (L : Int) : (rng L).Nodup := by
  unfold rng List.Nodup
  rw [List.pairwise_map]
  exact List.pairwise_lt_range.imp fun h => by omega
end Q

set_option Elab.async false
set_option linter.all false
set_option maxRecDepth 100000
set_option maxHeartbeats 4000000
namespace Q
open PySem L2 PySem.Spec VI
set_option hygiene false
local macro_rules | `(tactic| walk_at "go") => `(tactic| repeat (first | with_reducible refine seqW fun Kz kz1 kz2 kz3 kz4 => ?_ | (with_reducible refine kz1 _ ?_; clear kz1 kz2 kz3 kz4 Kz) | (with_reducible refine kz2 _ _ ?_; clear kz1 kz2 kz3 kz4 Kz) | (with_reducible refine kz3 _ ?_; clear kz1 kz2 kz3 kz4 Kz) | (with_reducible refine kz4 _ ?_; clear kz1 kz2 kz3 kz4 Kz) | walk_at "vw"))
set_option hygiene true
local macro_rules | `(tactic| walk_at "vw") => `(tactic| simp (disch := first | assumption | omega | (simp only [List.length_cons, List.length_nil, List.length_map, List.length_append, List.length_take, List.length_drop, List.length_set, List.length_replicate, List.length_range, len_rangeT, len_rng]; omega) | decide) only [↓Wp_cong, ↓Wp_ok, ↓Wp_ex, ↓Wp_bad, ↓Wp_bind, ↓Wp_tt, ↓Wp_ff, ↓Wp_dec, ↓Wp_notb, ↓Wp_not, ↓Wp_out, ↓Wp_e1, ↓Wp_e2, ↓Wp_eN, ↓Wp_eC, ↓Wp_aNil, ↓Wp_aCons, ↓Wp_aStar, ↓Wp_eTup, ↓Wp_eLst, ↓Wp_tOf, ↓Wp_tTrue, ↓Wp_tNot, ↓Wp_tAnd, ↓Wp_tOr, ↓Wp_eAnd, ↓Wp_eOr, ↓Wp_eNot, ↓Wp_eIf, ↓Wp_eFrz, ↓Wp_eChain, ↓Wp_sNx, ↓Wp_sBk, ↓Wp_sExpr, ↓Wp_sIf, ↓Wp_sRet, ↓Wp_sSet, ↓Wp_sAsg, ↓Wp_sFor, ↓Wp_sRaise, ↓Wp_sRaiseN, ↓Wp_sRaiseT, ↓Wp_sSub, ↓Wp_sAug, ↓Wp_runF, ↓Wp_eBmM, ↓Wp_eCall, ↓Wp_eOwn2, ↓Wp_eOwnI, ↓Wp_eOwn1, ↓Wp_eOwnIn, ↓Wp_eMeth, ↓Wp_eLenI, ↓Wp_eBlI, ↓Wp_eMake, ↓Wp_eCallO, ↓Wp_eCallO1, ↓Wp_eListOwn, ↓Wp_iAny, ↓Wp_iOwn, ↓Wp_iRange1, ↓Wp_iRange2, ↓Wp_iEnumL, ↓Wp_eLc, ↓Wp_eLc2, ↓Wp_vSc, ↓Wp_eSortedV, ↓Wp_vSet, ↓Wp_eSl, ↓Wp_oNone, ↓Wp_oSome, ↓Wp_eFld, ↓Wp_eIsi, ↓Wp_sFld, ↓Wp_eIsx, ↓Wp_sTryOnly, ↓Wp_sTryAs, ↓Wp_noX, ↓Wp_eIsq, ↓Wp_eXf, ↓Wp_eChain3, ↓Wp_sDcNew, ↓Wp_tDcIn, ↓Wp_sDcSet, ↓Wp_eDcGet, ↓Wp_sFz, ↓Wp_aDfl, ↓Wp_eWk, ↓Wp_eTf, ↓Wp_idxT, ↓Wp_cntT, ↓Wp_eCnt, ↓Wp_eIdx, ↓Wp_iSg, ↓Wp_iEnA, ↓Wp_hndNil, ↓Wp_hndAs, ↓Wp_hndOnly, ↓Wp_sTryH, ↓Wp_eOwnR, ↓Wp_pos, ↓Wp_neg, outK_v, outK_l, outK_u, e1K_some, e2K_some, eNK_some, optTK_some, derefs_nil, consO_some, derefs_cons, deref_val, deref_own, grounds_nil, grounds_val, grounds_own, grounds_vals, ground1_val, ground1_own, tupK_t, tupK_l, tK_bl, blK_bl, frzK_own, frzK_val, chB_some, chK_some, blOf_v, sqK_nx, sqK_rt, sqK_bk, sqK_ct, retK_val, retK_own, asgK_some, asgG_some, rsK_some, rtK_tup, ltK_some, subK_some, augK_some, augS_some, runK_rt, runK_nx, bmK_append, bmK_clear, bmK_reverse, er_map, bmK_index, bmK_popAt, bmK_insert, kE_val, kE_own, kF_some, kR_ev, kX_ev, callA_some, argSl_nil, consS_some, argSl_cons, argS_val, argS_own, backs_nil, backs_v, backs_ioV, backs_ioO, ownK_some, own2K_some, ownIK_some, inK_bl, inK_nb, methK_ins, methK_01, lenK_int, bliK_bl, rawK_some, mkK_non, mkX_ev, tkK_val, tkK_own, coK_own, co1K_own, co0K_val, lnK_int, heldK_some, itK_some, still_val, still_own, itemsT_lst, itemsT_tup, itemsT_sq, rgK_1, rgK_2, isR1_ok, isR2_ok, enK_some, plK_ok, plK_tt, lnP_ok, svK_ok, vsK_some, cutK_some, oiK_int, fldK_some, tryX_ev, trK_t, trK_f, isyK_ok, isxK_exn, isqK_exn, optK_some, xfK_exn, ch3K_some, fzK_nx, fzK_rt, frzSl_own, frzSl_val, frzSl_odc, dcInK_some, dcSetK_some, dcPutK_some, dcGetK_some, dcKeyK_some, keyOf_two, wkV_lst, wkV_tup, wkV_tf, wkV_sq, wkV_own, wkV_pk, tfK_lst, tfK_sq, ixB_ok, ctB_ok, ctA_ok, ixA_tf, ixA_lst, ixA_sq, idxL_ints, idxF_ints, sgK_some, enA_l, enA_t, hdK_t, hdK_f, hndX_ev, ownRK_some, ↓Wp_eVar, k_varV, k_varO, k_varI, k_varR, k_varP, ↓Wp_eVarF, k_vafV, k_vafO, k_setV, k_setO, k_der, k_derV, k_derO, k_derI, k_derR, k_derP, k_argV, k_argI, k_agvO, k_agvI, k_agvR, k_agvP, k_agvV, k_agiO, k_agiI, k_agiR, k_lat, k_lsO, k_lsI, k_put, k_ptO, k_ptI, k_stl, k_stP, k_bk, k_bkO, k_bkI, k_bkR, k_gNm, o_addI, o_addL, o_addT, o_pow6, o_pow5, o_sub, o_mul, o_mulL, o_fdiv, o_mod, o_neg, o_lt, o_le, o_gt, o_ge, o_abs, o_int, o_intB, o_min, o_max, o_lenL, o_lenT, o_lenQ, o_lenS, o_inS, o_notInS, o_listL, o_listT, o_listQ, o_tupL, o_tupQ, o_tupT, o_boolT, o_boolL, o_rev, o_revT, o_rg1, o_rg2, o_sum, o_maxL, o_minL, o_any, o_all, o_minT3, o_sortedP, o_sorted, o_gcd, o_cutLo, o_cutHi, o_cutHiT, o_cutLoT, o_tkMap, o_drMap, o_inLs, o_inTs, o_ixL, o_ixT, o_ixQ, o_ixLn, o_ixTn, o_ixL0, o_ixL1, o_ixL2, o_ixL3, o_ixT0, o_ixT1, o_ixT2, o_ixT3, o_ixR, o_ixRT, eqD_int, neD_int, eqD_bl, neD_bl, eqD_li, neD_li, eqD_tu, opIn_li, opIn_tu, opNotIn_li, opNotIn_tu, neD_lb, pow_10_18, pow_10_9, blOf_v, plain_no, mark1, mark1', plain_val, q_tf, q_ft, nth_0, nth_1, nth_2, nth_3, nth_map, nth_rng, mk_set, mk_zero, eqD_str, neD_str, rangeT_rng, T.isD, okIx, ioIx, pnIx, bIsi, kIs, kindOf, kInt, kBool, kStr, VI.kTup, VI.kLst, kNo, isNo, notNo, isCo, notCo, opIsN, isN, isB, gnd, ground1, putKs, putTs, fget, fldG, heldT, wipeR, backR, plainAt, gTp, gsCons, gsNil, clsO, Nat.reduceBEq, beq_self_eq_true, Nat.reduceEqDiff, Int.reduceAdd, Int.reduceSub, Int.reduceMul, Int.reduceEq, Int.reduceNe, decide_true, decide_false, decide_not, decide_eq_true_eq, Option.bind_some, Option.bind_none, implies_true, forall_const, Option.map_some, Option.map_none, List.cons_append, List.nil_append, List.replicate_succ, List.replicate_zero, List.getElem?_cons_zero, List.getElem?_cons_succ, List.getElem?_nil, List.set_cons_zero, List.set_cons_succ, List.length_cons, List.length_nil, List.map_cons, List.map_nil, List.take_succ_cons, List.take_zero, List.length_map, List.getD_cons_zero, List.getD_cons_succ, List.nodup_nil, List.nodup_cons, List.not_mem_nil, not_false_eq_true, not_true_eq_false, and_self, and_true, true_and, and_false, false_and, List.all_nil, List.all_cons, List.contains_nil, List.contains_cons, Bool.and_true, Bool.true_and, Bool.and_false, Bool.false_and, Bool.and_self, Bool.or_false, Bool.false_or, Bool.or_true, Bool.true_or, Bool.false_eq_true, Bool.true_eq_false, if_true, if_false, ite_true, ite_false, Bool.not_true, Bool.not_false, Bool.not_not, reduceIte, reduceCtorEq, Nat.reduceAdd, Nat.reduceLT, Nat.reduceLeDiff, Int.reduceLT, Int.reduceLE, Int.reduceToNat, Int.reduceNeg, Int.cast_ofNat_Int, Bool.decide_eq_true, List.reverse_cons, List.reverse_nil, List.append_assoc, List.lookup_cons, List.lookup_nil])
/-! ### crossings: what stands -/
structure Rv where
  a : Int
  b : Int
  f : Int
  g : Int
instance : Inhabited Rv := ⟨⟨0, 0, 0, 0⟩⟩
def rvT (r : Rv) : T := .tup [.int r.a, .int r.b, .int r.f, .int r.g]
structure OkRv (n : Int) (r : Rv) : Prop where
  a0 : 0 ≤ r.a
  a1 : r.a < n
  b0 : 0 ≤ r.b
  b1 : r.b < n
  ne : r.a ≠ r.b
  f0 : 0 ≤ r.f
  f1 : r.f ≤ 9
  g0 : 0 ≤ r.g
  g1 : r.g ≤ 9
def Meets (r : Rv) (x y : Int) : Prop := r.a = x ∧ r.b = y ∨ r.b = x ∧ r.a = y
def Apart (rs : List Rv) : Prop := rs.Pairwise fun r s => ¬ Meets r s.a s.b
def spanO : List Rv → Int → Int → Option Int
  | [], _, _ => none
  | r :: rs, x, y => if r.a = x ∧ r.b = y then some r.f else if r.b = x ∧ r.a = y then some r.g else spanO rs x y
def dspan (rs : List Rv) : List (List Int × Int) := rs.foldl (fun kv r => dPut (dPut kv [r.a, r.b] r.f) [r.b, r.a] r.g) []
theorem dspan_snoc (rs : List Rv) (r : Rv) : dspan (rs ++ [r]) = dPut (dPut (dspan rs) [r.a, r.b] r.f) [r.b, r.a] r.g := by simp [dspan, List.foldl_append]
theorem dGet_put (k : List Int) (v : Int) (j : List Int) : ∀ kv : List (List Int × Int), dGet (dPut kv k v) j = if k = j then some v else dGet kv j := fun kv => by
  have rep : ∀ kv : List (List Int × Int), (kv.any fun p => decide (p.1 = k)) = true → dGet (kv.map fun p => if p.1 = k then (p.1, v) else p) j = if k = j then some v else dGet kv j := fun kv => by
    induction kv with
    | nil => intro h; simp at h
    | cons p r ih =>
      intro h
      unfold dGet at ih ⊢
      rw [List.map_cons, List.find?_cons, List.find?_cons]
      by_cases c : p.1 = k
      · rw [if_pos c]
        by_cases d : p.1 = j
        · have : k = j := c ▸ d
          simp [d, this]
        · have hkj : ¬ k = j := fun e => d (c.trans e)
          simp only [d, decide_false, if_neg hkj]
          by_cases a : (r.any fun p => decide (p.1 = k)) = true
          · rw [ih a, if_neg hkj]
          · have e : (r.map fun p => if p.1 = k then (p.1, v) else p) = r := by
              conv => rhs; rw [← List.map_id r]
              refine List.map_congr_left fun q hq => ?_
              rw [if_neg]; · rfl
              intro e
              exact a (List.any_eq_true.mpr ⟨q, hq, by simpa using e⟩)
            rw [e]
      · rw [if_neg c]
        have a : (r.any fun p => decide (p.1 = k)) = true := by rw [List.any_cons] at h; simpa [c] using h
        by_cases d : p.1 = j
        · have hkj : ¬ k = j := fun e => c (d.trans e.symm)
          simp [d, hkj]
        · simp only [d, decide_false]
          exact ih a
  unfold dPut
  split
  · rename_i h; exact rep kv h
  · rename_i h
    unfold dGet
    rw [List.find?_append]
    by_cases c : k = j
    · subst c
      have : kv.find? (fun p => decide (p.1 = k)) = none := by
        rw [List.find?_eq_none]
        intro p hp e
        exact h (List.any_eq_true.mpr ⟨p, hp, by simpa using e⟩)
      simp [this]
    · simp [c]
theorem len_put (kv : List (List Int × Int)) (k : List Int) (v : Int) : (dPut kv k v).length ≤ kv.length + 1 := by
  unfold dPut; split <;> simp
theorem len_dspan : ∀ rs : List Rv, (dspan rs).length ≤ 2 * rs.length := snoc_ind (by simp [dspan]) fun rs r ih => by
  rw [dspan_snoc]
  have h1 := len_put (dPut (dspan rs) [r.a, r.b] r.f) [r.b, r.a] r.g
  have h2 := len_put (dspan rs) [r.a, r.b] r.f
  simp only [List.length_append, List.length_cons, List.length_nil]
  omega
theorem spanO_none {x y : Int} : ∀ {rs : List Rv}, spanO rs x y = none ↔ ∀ r ∈ rs, ¬ Meets r x y
  | [] => by simp [spanO]
  | r :: rs => by
    rw [spanO]
    by_cases h1 : r.a = x ∧ r.b = y
    · rw [if_pos h1]; simp [Meets, h1]
    · rw [if_neg h1]
      by_cases h2 : r.b = x ∧ r.a = y
      · rw [if_pos h2]; simp [Meets, h2]
      · rw [if_neg h2, spanO_none]
        simp only [List.mem_cons, forall_eq_or_imp, Meets]
        exact ⟨fun h => ⟨fun z => z.elim h1 h2, h⟩, fun h => h.2⟩
theorem spanO_snoc {x y : Int} {r : Rv} : ∀ {rs : List Rv}, spanO (rs ++ [r]) x y = (spanO rs x y).or (spanO [r] x y)
  | [] => by simp [spanO]
  | q :: rs => by
    rw [List.cons_append, spanO]
    conv => rhs; rw [spanO]
    by_cases h1 : q.a = x ∧ q.b = y
    · rw [if_pos h1, if_pos h1]; rfl
    · rw [if_neg h1, if_neg h1]
      by_cases h2 : q.b = x ∧ q.a = y
      · rw [if_pos h2, if_pos h2]; rfl
      · rw [if_neg h2, if_neg h2]; exact spanO_snoc
theorem apart_snoc {rs : List Rv} {r : Rv} : Apart (rs ++ [r]) ↔ Apart rs ∧ ∀ q ∈ rs, ¬ Meets q r.a r.b := by
  unfold Apart
  rw [List.pairwise_append]
  simp
theorem dGet_dspan {n x y : Int} : ∀ rs : List Rv, Apart rs → (∀ r ∈ rs, OkRv n r) → dGet (dspan rs) [x, y] = spanO rs x y := snoc_ind (fun _ _ => by simp [dspan, dGet, spanO]) fun rs r ih ha ho => by
  obtain ⟨ha, hr⟩ := apart_snoc.mp ha
  have ih := ih ha fun q hq => ho q (by simp [hq])
  have hn := (ho r (by simp)).ne
  rw [dspan_snoc, dGet_put, dGet_put, spanO_snoc, ih]
  simp only [List.cons.injEq, and_true]
  by_cases h1 : r.b = x ∧ r.a = y
  · have e : spanO rs x y = none := spanO_none.mpr fun q hq m => hr q hq (by
      obtain ⟨rfl, rfl⟩ := h1
      rcases m with ⟨m1, m2⟩ | ⟨m1, m2⟩
      · exact .inr ⟨m2, m1⟩
      · exact .inl ⟨m2, m1⟩)
    have h2 : ¬ (r.a = x ∧ r.b = y) := fun z => hn (z.1.trans h1.1.symm)
    rw [if_pos h1, e, Option.none_or, spanO, if_neg h2, if_pos h1]
  · rw [if_neg h1]
    by_cases h2 : r.a = x ∧ r.b = y
    · have e : spanO rs x y = none := spanO_none.mpr fun q hq m => hr q hq (by
        obtain ⟨rfl, rfl⟩ := h2
        exact m)
      rw [if_pos h2, e, Option.none_or, spanO, if_pos h2]
    · rw [if_neg h2, spanO, if_neg h2, if_neg h1, spanO, Option.or_none]
theorem spanO_bd {n x y s : Int} : ∀ {rs : List Rv}, (∀ r ∈ rs, OkRv n r) → spanO rs x y = some s → 0 ≤ s ∧ s ≤ 9
  | [], _, h => by simp [spanO] at h
  | r :: rs, ho, h => by
    have o := ho r (by simp)
    rw [spanO] at h
    split at h
    · cases h; exact ⟨o.f0, o.f1⟩
    · split at h
      · cases h; exact ⟨o.g0, o.g1⟩
      · exact spanO_bd (fun q hq => ho q (by simp [hq])) h
abbrev crT (xs : List Str) (rs : List Rv) : T := .ins 21 [21, 22, 23] [.dct (dspan rs), .tup (xs.map T.str), .tup (rs.map rvT)]
/-! names -/
def nm6 : List Str := ["a", "b", "ba", "c", "abc", "zz"]
def isNm (x : Str) : Bool := decide (1 ≤ x.length ∧ x.length ≤ 8) && x.cps.toList.all fun c => decide (c ∈ ("abcdefghijklmnopqrstuvwxyz" : Str).cps.toList)
theorem isname_s {x : Str} (hx : x.length ≤ 100000) {Q : EV → Ro → Prop} {X : EQ} (k : ∀ s r, Q (.val (.bl (isNm x))) (s :: r)) : Wp (m_is_name [.val (.str x)]) Q X := by
  obtain ⟨l, hl⟩ : ∃ l : Int, l = x.length := ⟨_, rfl⟩
  unfold m_is_name
  walk_at "go"
  simp only [← hl]
  by_cases c1 : 1 ≤ l
  · by_cases c2 : l ≤ 8
    · have e : isNm x = x.cps.toList.all fun c => decide (c ∈ ("abcdefghijklmnopqrstuvwxyz" : Str).cps.toList) := by
        have : 1 ≤ x.length ∧ x.length ≤ 8 := by omega
        simp [isNm, this]
      rw [e] at k
      have hs : (signsT x).length ≤ 100000 := by
        have : (signsT x).length = x.length := by simp [signsT, Str.length]
        omega
      walk_at "go"
      unfold signsT at hs ⊢
      walk_at "go"
      refine wp_lcm (fun c : Nat => T.str (sg c)) x.cps.toList (fun c => T.bl (decide (c ∈ ("abcdefghijklmnopqrstuvwxyz" : Str).cps.toList))) (fun c hc => ⟨_, rfl, ?_⟩) ?_
      · walk_at "go"
      · rw [List.nil_append, show (x.cps.toList.map fun c => T.bl (decide (c ∈ ("abcdefghijklmnopqrstuvwxyz" : Str).cps.toList))) = (x.cps.toList.map fun c => decide (c ∈ ("abcdefghijklmnopqrstuvwxyz" : Str).cps.toList)).map T.bl by rw [List.map_map]; rfl]
        walk_at "go"
        rw [List.all_map]
        exact k _ _
    · have e : isNm x = false := by
        have : ¬ (1 ≤ x.length ∧ x.length ≤ 8) := by omega
        simp [isNm, this]
      rw [e] at k
      walk_at "go"
      exact k _ _
  · have e : isNm x = false := by
      have : ¬ (1 ≤ x.length ∧ x.length ≤ 8) := by omega
      simp [isNm, this]
    rw [e] at k
    walk_at "go"
    exact k _ _
structure OkNm (xs : List Str) : Prop where
  l1 : 1 ≤ xs.length
  l6 : xs.length ≤ 6
  nm : ∀ x ∈ xs, isNm x = true
  nd : xs.Nodup
theorem isNm_len {x : Str} (h : isNm x = true) : x.length ≤ 8 := by
  unfold isNm at h
  rw [Bool.and_eq_true] at h
  exact (of_decide_eq_true h.1).2
theorem streams_s {xs : List Str} (h : OkNm xs) {Q : EV → Ro → Prop} {X : EQ} (k : ∀ s s1 s2 r, Q (.val .non) (s :: s1 :: s2 :: r)) : Wp (m_check_streams [.val (.lst (xs.map T.str))]) Q X := by
  obtain ⟨l1, l6, hn, hd⟩ := h
  unfold m_check_streams
  walk_at "go"
  rw [enum_zip T.str 0 xs]
  refine wp_for _ (xs.zipIdx 0) (fun _ _ ρ => ∃ s1 s2, ρ = [.val (.lst (xs.map T.str)), s1, s2]) ⟨_, _, rfl⟩ ?_ ?_
  · rintro done p rest _ ep ⟨s1, s2, rfl⟩
    obtain ⟨e1, e2⟩ := zip_at ep
    have hp := hn p.1 (by rw [e2]; simp)
    have hl8 := isNm_len hp
    refine ⟨_, rfl, ?_⟩
    walk_at "go"
    refine isname_s (by omega) fun _ _ => ?_
    rw [hp]
    walk_at "go"
    have hni : ¬ p.1 ∈ xs.take p.2 := fun hm => by
      rw [e1, e2, ← List.length_map (as := done) Prod.fst, List.take_left] at hm
      rw [e2, List.nodup_append] at hd
      exact hd.2.2 _ hm _ (by simp) rfl
    have hz : ((p.2 : Int)).toNat = p.2 := by omega
    rw [hz]
    walk_at "go"
    exact ⟨_, _, rfl⟩
  · rintro _ ⟨s1, s2, rfl⟩
    walk_at "go"
    exact k _ _ _ _
theorem isrival_s {n : Int} {r : Rv} (h : OkRv n r) {Q : EV → Ro → Prop} {X : EQ} (k : ∀ s s1 r, Q (.val (.bl true)) (s :: s1 :: r)) : Wp (m_is_rival [.val (rvT r), .val (.int n)]) Q X := by
  obtain ⟨a0, a1, b0, b1, ne, f0, f1, g0, g1⟩ := h
  unfold m_is_rival
  unfold rvT
  walk_at "go"
  rw [decide_eq_true g1]
  exact k _ _ _
theorem spans_s {n : Int} {rs : List Rv} (ho : ∀ r ∈ rs, OkRv n r) (ha : Apart rs) (hl : rs.length ≤ 100) {Q : EV → Ro → Prop} {X : EQ} (k : ∀ s s1 r, Q (.val (.dct (dspan rs))) (s :: s1 :: r)) : Wp (m_spans_of [.val (.lst (rs.map rvT)), .val (.int n)]) Q X := by
  have hR : (rs.map rvT).length ≤ 100000 := by rw [List.length_map]; omega
  unfold m_spans_of
  walk_at "go"
  rw [enum_zip rvT 0 rs]
  refine wp_for _ (rs.zipIdx 0) (fun done _ ρ => ∃ s3 s4 s5 s6 s7 s8, ρ = [.val (.lst (rs.map rvT)), .val (.int n), .odc (dspan (done.map Prod.fst)), s3, s4, s5, s6, s7, s8]) ⟨_, _, _, _, _, _, rfl⟩ ?_ ?_
  · rintro done p rest _ ep ⟨s3, s4, s5, s6, s7, s8, rfl⟩
    obtain ⟨e1, e2⟩ := zip_at ep
    obtain ⟨dn, hdn⟩ : ∃ dn, dn = done.map Prod.fst := ⟨_, rfl⟩
    rw [← hdn] at e2 ⊢
    have hp := ho p.1 (by rw [e2]; simp)
    have hsub : ∀ q ∈ dn, q ∈ rs := fun q hq => by rw [e2]; simp [hq]
    have hap : Apart dn ∧ ∀ q ∈ dn, ¬ Meets q p.1.a p.1.b := by
      have h2 := ha
      rw [e2] at h2
      unfold Apart at h2 ⊢
      rw [List.pairwise_append] at h2
      exact ⟨h2.1, fun q hq => h2.2.2 q hq p.1 (by simp)⟩
    have hlen := len_dspan dn
    have hl2 : dn.length ≤ rs.length := by rw [e2]; simp
    have hg : dGet (dspan dn) [p.1.a, p.1.b] = none := by
      rw [dGet_dspan dn hap.1 fun q hq => ho q (hsub q hq)]
      exact spanO_none.mpr hap.2
    have hput := len_put (dspan dn) [p.1.a, p.1.b] p.1.f
    refine ⟨_, rfl, ?_⟩
    walk_at "go"
    refine isrival_s hp fun _ _ _ => ?_
    unfold rvT
    walk_at "go"
    rw [hg]
    walk_at "go"
    have e3 : dspan ((done ++ [p]).map Prod.fst) = dPut (dPut (dspan dn) [p.1.a, p.1.b] p.1.f) [p.1.b, p.1.a] p.1.g := by
      rw [List.map_append, ← hdn, List.map_cons, List.map_nil, dspan_snoc]
    exact ⟨_, _, _, _, _, _, by rw [e3]; rfl⟩
  · rintro _ ⟨s3, s4, s5, s6, s7, s8, rfl⟩
    rw [List.zipIdx_map_fst]
    walk_at "go"
    exact k _ _ _
theorem cinit_s {xs : List Str} {rs : List Rv} (hx : OkNm xs) (ho : ∀ r ∈ rs, OkRv (xs.length : Int) r) (ha : Apart rs) (hl : rs.length ≤ 100) {Q : EV → Ro → Prop} {X : EQ}
    (k : ∀ s1 s2 r, Q (.val .non) (.raw 21 [21, 22, 23] [.dct (dspan rs), .tup (xs.map T.str), .tup (rs.map rvT)] :: s1 :: s2 :: r)) : Wp (m_Crossingz_initz [.raw 21 [] [], .val (.lst (xs.map T.str)), .val (.lst (rs.map rvT))]) Q X := by
  have hR : (rs.map rvT).length ≤ 100000 := by rw [List.length_map]; omega
  unfold m_Crossingz_initz
  walk_at "go"
  refine streams_s hx fun _ _ _ _ => ?_
  walk_at "go"
  refine spans_s ho ha hl fun _ _ _ => ?_
  walk_at "go"
  refine wp_lcm rvT rs rvT (fun x hx => ⟨_, rfl, ?_⟩) ?_
  · unfold rvT
    walk_at "go"
  walk_at "go"
  exact k _ _ _
end Q

set_option Elab.async false
set_option linter.all false
set_option maxRecDepth 100000
set_option maxHeartbeats 4000000
namespace Q
open PySem L2 PySem.Spec VI
set_option hygiene false
local macro_rules | `(tactic| walk_at "go") => `(tactic| repeat (first | with_reducible refine seqW fun Kz kz1 kz2 kz3 kz4 => ?_ | (with_reducible refine kz1 _ ?_; clear kz1 kz2 kz3 kz4 Kz) | (with_reducible refine kz2 _ _ ?_; clear kz1 kz2 kz3 kz4 Kz) | (with_reducible refine kz3 _ ?_; clear kz1 kz2 kz3 kz4 Kz) | (with_reducible refine kz4 _ ?_; clear kz1 kz2 kz3 kz4 Kz) | walk_at "vw"))
set_option hygiene true
local macro_rules | `(tactic| walk_at "vw") => `(tactic| simp (disch := first | assumption | omega | (simp only [List.length_cons, List.length_nil, List.length_map, List.length_append, List.length_take, List.length_drop, List.length_set, List.length_replicate, List.length_range, len_rangeT, len_rng]; omega) | decide) only [↓Wp_cong, ↓Wp_ok, ↓Wp_ex, ↓Wp_bad, ↓Wp_bind, ↓Wp_tt, ↓Wp_ff, ↓Wp_dec, ↓Wp_notb, ↓Wp_not, ↓Wp_out, ↓Wp_e1, ↓Wp_e2, ↓Wp_eN, ↓Wp_eC, ↓Wp_aNil, ↓Wp_aCons, ↓Wp_aStar, ↓Wp_eTup, ↓Wp_eLst, ↓Wp_tOf, ↓Wp_tTrue, ↓Wp_tNot, ↓Wp_tAnd, ↓Wp_tOr, ↓Wp_eAnd, ↓Wp_eOr, ↓Wp_eNot, ↓Wp_eIf, ↓Wp_eFrz, ↓Wp_eChain, ↓Wp_sNx, ↓Wp_sBk, ↓Wp_sExpr, ↓Wp_sIf, ↓Wp_sRet, ↓Wp_sSet, ↓Wp_sAsg, ↓Wp_sFor, ↓Wp_sRaise, ↓Wp_sRaiseN, ↓Wp_sRaiseT, ↓Wp_sSub, ↓Wp_sAug, ↓Wp_runF, ↓Wp_eBmM, ↓Wp_eCall, ↓Wp_eOwn2, ↓Wp_eOwnI, ↓Wp_eOwn1, ↓Wp_eOwnIn, ↓Wp_eMeth, ↓Wp_eLenI, ↓Wp_eBlI, ↓Wp_eMake, ↓Wp_eCallO, ↓Wp_eCallO1, ↓Wp_eListOwn, ↓Wp_iAny, ↓Wp_iOwn, ↓Wp_iRange1, ↓Wp_iRange2, ↓Wp_iEnumL, ↓Wp_eLc, ↓Wp_eLc2, ↓Wp_vSc, ↓Wp_eSortedV, ↓Wp_vSet, ↓Wp_eSl, ↓Wp_oNone, ↓Wp_oSome, ↓Wp_eFld, ↓Wp_eIsi, ↓Wp_sFld, ↓Wp_eIsx, ↓Wp_sTryOnly, ↓Wp_sTryAs, ↓Wp_noX, ↓Wp_eIsq, ↓Wp_eXf, ↓Wp_eChain3, ↓Wp_sDcNew, ↓Wp_tDcIn, ↓Wp_sDcSet, ↓Wp_eDcGet, ↓Wp_sFz, ↓Wp_aDfl, ↓Wp_eWk, ↓Wp_eTf, ↓Wp_idxT, ↓Wp_cntT, ↓Wp_eCnt, ↓Wp_eIdx, ↓Wp_iSg, ↓Wp_iEnA, ↓Wp_hndNil, ↓Wp_hndAs, ↓Wp_hndOnly, ↓Wp_sTryH, ↓Wp_eOwnR, ↓Wp_pos, ↓Wp_neg, outK_v, outK_l, outK_u, e1K_some, e2K_some, eNK_some, optTK_some, derefs_nil, consO_some, derefs_cons, deref_val, deref_own, grounds_nil, grounds_val, grounds_own, grounds_vals, ground1_val, ground1_own, tupK_t, tupK_l, tK_bl, blK_bl, frzK_own, frzK_val, chB_some, chK_some, blOf_v, sqK_nx, sqK_rt, sqK_bk, sqK_ct, retK_val, retK_own, asgK_some, asgG_some, rsK_some, rtK_tup, ltK_some, subK_some, augK_some, augS_some, runK_rt, runK_nx, bmK_append, bmK_clear, bmK_reverse, er_map, bmK_index, bmK_popAt, bmK_insert, kE_val, kE_own, kF_some, kR_ev, kX_ev, callA_some, argSl_nil, consS_some, argSl_cons, argS_val, argS_own, backs_nil, backs_v, backs_ioV, backs_ioO, ownK_some, own2K_some, ownIK_some, inK_bl, inK_nb, methK_ins, methK_01, lenK_int, bliK_bl, rawK_some, mkK_non, mkX_ev, tkK_val, tkK_own, coK_own, co1K_own, co0K_val, lnK_int, heldK_some, itK_some, still_val, still_own, itemsT_lst, itemsT_tup, itemsT_sq, rgK_1, rgK_2, isR1_ok, isR2_ok, enK_some, plK_ok, plK_tt, lnP_ok, svK_ok, vsK_some, cutK_some, oiK_int, fldK_some, tryX_ev, trK_t, trK_f, isyK_ok, isxK_exn, isqK_exn, optK_some, xfK_exn, ch3K_some, fzK_nx, fzK_rt, frzSl_own, frzSl_val, frzSl_odc, dcInK_some, dcSetK_some, dcPutK_some, dcGetK_some, dcKeyK_some, keyOf_two, wkV_lst, wkV_tup, wkV_tf, wkV_sq, wkV_own, wkV_pk, tfK_lst, tfK_sq, ixB_ok, ctB_ok, ctA_ok, ixA_tf, ixA_lst, ixA_sq, idxL_ints, idxF_ints, sgK_some, enA_l, enA_t, hdK_t, hdK_f, hndX_ev, ownRK_some, ↓Wp_eVar, k_varV, k_varO, k_varI, k_varR, k_varP, ↓Wp_eVarF, k_vafV, k_vafO, k_setV, k_setO, k_der, k_derV, k_derO, k_derI, k_derR, k_derP, k_argV, k_argI, k_agvO, k_agvI, k_agvR, k_agvP, k_agvV, k_agiO, k_agiI, k_agiR, k_lat, k_lsO, k_lsI, k_put, k_ptO, k_ptI, k_stl, k_stP, k_bk, k_bkO, k_bkI, k_bkR, k_gNm, o_addI, o_addL, o_addT, o_pow6, o_pow5, o_sub, o_mul, o_mulL, o_fdiv, o_mod, o_neg, o_lt, o_le, o_gt, o_ge, o_abs, o_int, o_intB, o_min, o_max, o_lenL, o_lenT, o_lenQ, o_lenS, o_inS, o_notInS, o_listL, o_listT, o_listQ, o_tupL, o_tupQ, o_tupT, o_boolT, o_boolL, o_rev, o_revT, o_rg1, o_rg2, o_sum, o_maxL, o_minL, o_any, o_all, o_minT3, o_sortedP, o_sorted, o_gcd, o_cutLo, o_cutHi, o_cutHiT, o_cutLoT, o_tkMap, o_drMap, o_inLs, o_inTs, o_ixL, o_ixT, o_ixQ, o_ixLn, o_ixTn, o_ixL0, o_ixL1, o_ixL2, o_ixL3, o_ixT0, o_ixT1, o_ixT2, o_ixT3, o_ixR, o_ixRT, eqD_int, neD_int, eqD_bl, neD_bl, eqD_li, neD_li, eqD_tu, opIn_li, opIn_tu, opNotIn_li, opNotIn_tu, neD_lb, pow_10_18, pow_10_9, blOf_v, plain_no, mark1, mark1', plain_val, q_tf, q_ft, nth_0, nth_1, nth_2, nth_3, nth_map, nth_rng, mk_set, mk_zero, eqD_str, neD_str, rangeT_rng, T.isD, okIx, ioIx, pnIx, bIsi, kIs, kindOf, kInt, kBool, kStr, VI.kTup, VI.kLst, kNo, isNo, notNo, isCo, notCo, opIsN, isN, isB, gnd, ground1, putKs, putTs, fget, fldG, heldT, wipeR, backR, plainAt, gTp, gsCons, gsNil, clsO, Nat.reduceBEq, beq_self_eq_true, Nat.reduceEqDiff, Int.reduceAdd, Int.reduceSub, Int.reduceMul, Int.reduceEq, Int.reduceNe, decide_true, decide_false, decide_not, decide_eq_true_eq, Option.bind_some, Option.bind_none, implies_true, forall_const, Option.map_some, Option.map_none, List.cons_append, List.nil_append, List.replicate_succ, List.replicate_zero, List.getElem?_cons_zero, List.getElem?_cons_succ, List.getElem?_nil, List.set_cons_zero, List.set_cons_succ, List.length_cons, List.length_nil, List.map_cons, List.map_nil, List.take_succ_cons, List.take_zero, List.length_map, List.getD_cons_zero, List.getD_cons_succ, List.nodup_nil, List.nodup_cons, List.not_mem_nil, not_false_eq_true, not_true_eq_false, and_self, and_true, true_and, and_false, false_and, List.all_nil, List.all_cons, List.contains_nil, List.contains_cons, Bool.and_true, Bool.true_and, Bool.and_false, Bool.false_and, Bool.and_self, Bool.or_false, Bool.false_or, Bool.or_true, Bool.true_or, Bool.false_eq_true, Bool.true_eq_false, if_true, if_false, ite_true, ite_false, Bool.not_true, Bool.not_false, Bool.not_not, reduceIte, reduceCtorEq, Nat.reduceAdd, Nat.reduceLT, Nat.reduceLeDiff, Int.reduceLT, Int.reduceLE, Int.reduceToNat, Int.reduceNeg, Int.cast_ofNat_Int, Bool.decide_eq_true, List.reverse_cons, List.reverse_nil, List.append_assoc, List.lookup_cons, List.lookup_nil])
theorem names_s {n : Int} (n0 : 1 ≤ n) (n1 : n ≤ 6) {Q : EV → Ro → Prop} {X : EQ} (k : ∀ s r, Q (.own ((nm6.take n.toNat).map T.str)) (s :: r)) : Wp (m__law_names [.val (.int n)]) Q X := by
  unfold m__law_names
  walk_at "go"
  have q := k (.val (.int n)) []
  rw [List.map_take] at q
  exact q
theorem nm6_ok {n : Int} (n0 : 1 ≤ n) (n1 : n ≤ 6) : OkNm (nm6.take n.toNat) ∧ ((nm6.take n.toNat).length : Int) = n := by
  have h : ∀ k : Nat, k < 7 → 1 ≤ k → (nm6.take k).length = k ∧ (∀ x ∈ nm6.take k, isNm x = true) ∧ (nm6.take k).Nodup := by decide +kernel
  obtain ⟨h1, h2, h3⟩ := h n.toNat (by omega) (by omega)
  exact ⟨⟨by omega, by omega, h2, h3⟩, by omega⟩
inductive Least (B : Nat → Prop) (m : Nat) : Option Nat → Prop
  | some {k : Nat} (h : k < m) (b : B k) (g : ∀ j, j < k → ¬ B j) : Least B m (some k)
  | none (g : ∀ j, j < m → ¬ B j) : Least B m none
theorem Least.uniq {B : Nat → Prop} {m : Nat} {p q : Option Nat} (h : Least B m p) (k : Least B m q) : p = q := by
  cases h with
  | some h b g => cases k with
    | some h' b' g' =>
      rename_i a c
      congr 1
      rcases Nat.lt_trichotomy a c with z | z | z
      · exact absurd b (g' a z)
      · exact z
      · exact absurd b' (g c z)
    | none g' => exact absurd b (g' _ h)
  | none g => cases k with
    | some h' b' g' => exact absurd b' (g _ h')
    | none g' => rfl
def placeT : Option Nat → T | none => .non | some k => .int k
def badS (n : Int) (row : List Int) (j : Nat) : Prop := ¬ (0 ≤ nth row (j : Int) ∧ nth row (j : Int) < n) ∨ nth row (j : Int) ∈ row.take j
def RowS (s : Sl) (ts : List T) : Prop := s = .val (.lst ts) ∨ s = .val (.tup ts)
theorem zip_nth {row : List Int} {done rest : List (Int × Nat)} {p : Int × Nat} (ep : row.zipIdx 0 = done ++ p :: rest) : p.2 = done.length ∧ done.length < row.length ∧ nth row (done.length : Int) = p.1 := by
  obtain ⟨e1, e2⟩ := zip_at ep
  have hdl : (done.map Prod.fst).length = done.length := List.length_map ..
  have hll2 : row.length = done.length + ((rest.map Prod.fst).length + 1) := by rw [e2, List.length_append, hdl]; simp
  refine ⟨e1, by omega, ?_⟩
  have := nth_get (xs := row) (i := (done.length : Int)) (by omega) (by omega)
  have e3 : ((done.length : Int)).toNat = done.length := by omega
  rw [e3, e2, List.getElem?_append_right (by rw [hdl]; omega)] at this
  rw [e2]
  simpa using this.symm
theorem strange_s {n : Int} {row : List Int} {s0 : Sl} (h0 : RowS s0 (row.map T.int)) (hl : row.length ≤ 1000) {Q : EV → Ro → Prop} {X : EQ}
    (k : ∀ p s1 s2 s3 r, Least (badS n row) row.length p → Q (.val (placeT p)) (s1 :: s2 :: s3 :: r)) : Wp (m_first_strange [s0, .val (.int n)]) Q X := by
  have hR : (row.map T.int).length ≤ 100000 := by rw [List.length_map]; omega
  unfold m_first_strange
  rcases h0 with rfl | rfl <;>
  · walk_at "go"
    rw [enum_zip T.int 0 row]
    refine wp_for _ (row.zipIdx 0) (fun done _ ρ => (∃ s4 s5, ρ = [_, _, s4, s5]) ∧ ∀ j, j < done.length → ¬ badS n row j) ⟨⟨_, _, rfl⟩, fun j hj => by simp at hj⟩ ?_ ?_
    · rintro done p rest _ ep ⟨⟨s4, s5, rfl⟩, hg⟩
      obtain ⟨e1, e2, hv⟩ := zip_nth ep
      have hz1 : (done ++ [p]).length = done.length + 1 := by simp
      refine ⟨_, rfl, ?_⟩
      rw [e1]
      have fin : badS n row done.length → ∀ s1 s2 s3 r, Q (.val (.int done.length)) (s1 :: s2 :: s3 :: r) := fun b s1 s2 s3 r => k (some done.length) s1 s2 s3 r (.some e2 b hg)
      have hz : ((done.length : Int)).toNat = done.length := by omega
      by_cases c3 : 0 ≤ p.1
      · by_cases c4 : p.1 < n
        · walk_at "go"
          rw [hz]
          by_cases c6 : p.1 ∈ row.take done.length
          · walk_at "go"
            exact fin (.inr (by rw [hv]; exact c6)) _ _ _ _
          · walk_at "go"
            refine ⟨⟨_, _, rfl⟩, fun j hj => ?_⟩
            rw [hz1] at hj
            by_cases c5 : j = done.length
            · subst c5
              rintro (b | b)
              · rw [hv] at b; exact b ⟨c3, c4⟩
              · rw [hv] at b; exact c6 b
            · exact hg j (by omega)
        · walk_at "go"
          exact fin (.inl (by rw [hv]; exact fun z => c4 z.2)) _ _ _ _
      · walk_at "go"
        exact fin (.inl (by rw [hv]; exact fun z => c3 z.1)) _ _ _ _
    · rintro _ ⟨⟨s4, s5, rfl⟩, hg⟩
      rw [List.length_zipIdx] at hg
      walk_at "go"
      exact k none _ _ _ _ (.none hg)
theorem check_s {n : Int} {xs : List Str} {rs : List Rv} (hn : (xs.length : Int) = n) {x : Int} (hx : 0 ≤ x ∧ x < n) {Q : EV → Ro → Prop} {X : EQ} (k : ∀ s s1 r, Q (.val .non) (s :: s1 :: r)) : Wp (m_Crossingzcheck [.val (crT xs rs), .val (.int x)]) Q X := by
  obtain ⟨x0, x1⟩ := hx
  unfold m_Crossingzcheck
  walk_at "go"
  exact k _ _ _
theorem cspan_s {n : Int} {xs : List Str} {rs : List Rv} (hn : (xs.length : Int) = n) (ho : ∀ r ∈ rs, OkRv n r) (ha : Apart rs) {x y : Int} (hx : 0 ≤ x ∧ x < n) (hy : 0 ≤ y ∧ y < n) {Q : EV → Ro → Prop} {X : EQ}
    (k : ∀ s s1 s2 r, Q (.val (optI (spanO rs x y))) (s :: s1 :: s2 :: r)) : Wp (m_Crossing_span [.val (crT xs rs), .val (.int x), .val (.int y)]) Q X := by
  unfold m_Crossing_span
  walk_at "go"
  refine check_s hn hx fun _ _ _ => ?_
  walk_at "go"
  refine check_s hn hy fun _ _ _ => ?_
  walk_at "go"
  rw [dGet_dspan rs ha ho]
  cases e : spanO rs x y with
  | none =>
    rw [e] at k
    unfold optI at k ⊢
    walk_at "go"
    exact k _ _ _ _
  | some s =>
    rw [e] at k
    unfold optI at k ⊢
    walk_at "go"
    exact k _ _ _ _
theorem lenC_s {n : Int} {xs : List Str} {rs : List Rv} (hn : (xs.length : Int) = n) {Q : EV → Ro → Prop} {X : EQ} (k : ∀ s r, Q (.val (.int n)) (s :: r)) : Wp (m_Crossingz_lenz [.val (crT xs rs)]) Q X := by
  unfold m_Crossingz_lenz
  walk_at "go"
  rw [hn]
  exact k _ _
theorem nodup_take {xs : List Int} (h : ∀ j : Nat, j < xs.length → ¬ nth xs (j : Int) ∈ xs.take j) : xs.Nodup := by
  unfold List.Nodup
  rw [List.pairwise_iff_getElem]
  intro i j hi hj hij e
  refine h j hj ?_
  have h2 : nth xs (j : Int) = xs[j] := by simp [nth, List.getElem?_eq_getElem hj]
  rw [h2, ← e]
  exact List.mem_take_iff_getElem.mpr ⟨i, by omega, rfl⟩
theorem nth_of_mem {xs : List Int} {x : Int} (h : x ∈ xs) : ∃ j : Nat, j < xs.length ∧ nth xs (j : Int) = x := by
  obtain ⟨j, hj, e⟩ := List.getElem_of_mem h
  exact ⟨j, hj, by simp [nth, List.getElem?_eq_getElem hj, e]⟩
theorem good_row {n : Int} {row : List Int} (h : Least (badS n row) row.length none) : (∀ x ∈ row, 0 ≤ x ∧ x < n) ∧ row.Nodup := by
  cases h with
  | none g =>
    constructor
    · intro x hx
      obtain ⟨j, hj, e⟩ := nth_of_mem hx
      have := g j hj
      rw [← e]
      exact Classical.byContradiction fun z => this (.inl z)
    · exact nodup_take fun j hj z => g j hj (.inr z)
end Q

set_option Elab.async false
set_option linter.all false
set_option maxRecDepth 100000
set_option maxHeartbeats 4000000
namespace Q
open PySem L2 PySem.Spec VI
set_option hygiene false
local macro_rules | `(tactic| walk_at "go") => `(tactic| repeat (first | with_reducible refine seqW fun Kz kz1 kz2 kz3 kz4 => ?_ | (with_reducible refine kz1 _ ?_; clear kz1 kz2 kz3 kz4 Kz) | (with_reducible refine kz2 _ _ ?_; clear kz1 kz2 kz3 kz4 Kz) | (with_reducible refine kz3 _ ?_; clear kz1 kz2 kz3 kz4 Kz) | (with_reducible refine kz4 _ ?_; clear kz1 kz2 kz3 kz4 Kz) | walk_at "vw"))
set_option hygiene true
local macro_rules | `(tactic| walk_at "vw") => `(tactic| simp (disch := first | assumption | omega | (simp only [List.length_cons, List.length_nil, List.length_map, List.length_append, List.length_take, List.length_drop, List.length_set, List.length_replicate, List.length_range, len_rangeT, len_rng]; omega) | decide) only [↓Wp_cong, ↓Wp_ok, ↓Wp_ex, ↓Wp_bad, ↓Wp_bind, ↓Wp_tt, ↓Wp_ff, ↓Wp_dec, ↓Wp_notb, ↓Wp_not, ↓Wp_out, ↓Wp_e1, ↓Wp_e2, ↓Wp_eN, ↓Wp_eC, ↓Wp_aNil, ↓Wp_aCons, ↓Wp_aStar, ↓Wp_eTup, ↓Wp_eLst, ↓Wp_tOf, ↓Wp_tTrue, ↓Wp_tNot, ↓Wp_tAnd, ↓Wp_tOr, ↓Wp_eAnd, ↓Wp_eOr, ↓Wp_eNot, ↓Wp_eIf, ↓Wp_eFrz, ↓Wp_eChain, ↓Wp_sNx, ↓Wp_sBk, ↓Wp_sExpr, ↓Wp_sIf, ↓Wp_sRet, ↓Wp_sSet, ↓Wp_sAsg, ↓Wp_sFor, ↓Wp_sRaise, ↓Wp_sRaiseN, ↓Wp_sRaiseT, ↓Wp_sSub, ↓Wp_sAug, ↓Wp_runF, ↓Wp_eBmM, ↓Wp_eCall, ↓Wp_eOwn2, ↓Wp_eOwnI, ↓Wp_eOwn1, ↓Wp_eOwnIn, ↓Wp_eMeth, ↓Wp_eLenI, ↓Wp_eBlI, ↓Wp_eMake, ↓Wp_eCallO, ↓Wp_eCallO1, ↓Wp_eListOwn, ↓Wp_iAny, ↓Wp_iOwn, ↓Wp_iRange1, ↓Wp_iRange2, ↓Wp_iEnumL, ↓Wp_eLc, ↓Wp_eLc2, ↓Wp_vSc, ↓Wp_eSortedV, ↓Wp_vSet, ↓Wp_eSl, ↓Wp_oNone, ↓Wp_oSome, ↓Wp_eFld, ↓Wp_eIsi, ↓Wp_sFld, ↓Wp_eIsx, ↓Wp_sTryOnly, ↓Wp_sTryAs, ↓Wp_noX, ↓Wp_eIsq, ↓Wp_eXf, ↓Wp_eChain3, ↓Wp_sDcNew, ↓Wp_tDcIn, ↓Wp_sDcSet, ↓Wp_eDcGet, ↓Wp_sFz, ↓Wp_aDfl, ↓Wp_eWk, ↓Wp_eTf, ↓Wp_idxT, ↓Wp_cntT, ↓Wp_eCnt, ↓Wp_eIdx, ↓Wp_iSg, ↓Wp_iEnA, ↓Wp_hndNil, ↓Wp_hndAs, ↓Wp_hndOnly, ↓Wp_sTryH, ↓Wp_eOwnR, ↓Wp_pos, ↓Wp_neg, outK_v, outK_l, outK_u, e1K_some, e2K_some, eNK_some, optTK_some, derefs_nil, consO_some, derefs_cons, deref_val, deref_own, grounds_nil, grounds_val, grounds_own, grounds_vals, ground1_val, ground1_own, tupK_t, tupK_l, tK_bl, blK_bl, frzK_own, frzK_val, chB_some, chK_some, blOf_v, sqK_nx, sqK_rt, sqK_bk, sqK_ct, retK_val, retK_own, asgK_some, asgG_some, rsK_some, rtK_tup, ltK_some, subK_some, augK_some, augS_some, runK_rt, runK_nx, bmK_append, bmK_clear, bmK_reverse, er_map, bmK_index, bmK_popAt, bmK_insert, kE_val, kE_own, kF_some, kR_ev, kX_ev, callA_some, argSl_nil, consS_some, argSl_cons, argS_val, argS_own, backs_nil, backs_v, backs_ioV, backs_ioO, ownK_some, own2K_some, ownIK_some, inK_bl, inK_nb, methK_ins, methK_01, lenK_int, bliK_bl, rawK_some, mkK_non, mkX_ev, tkK_val, tkK_own, coK_own, co1K_own, co0K_val, lnK_int, heldK_some, itK_some, still_val, still_own, itemsT_lst, itemsT_tup, itemsT_sq, rgK_1, rgK_2, isR1_ok, isR2_ok, enK_some, plK_ok, plK_tt, lnP_ok, svK_ok, vsK_some, cutK_some, oiK_int, fldK_some, tryX_ev, trK_t, trK_f, isyK_ok, isxK_exn, isqK_exn, optK_some, xfK_exn, ch3K_some, fzK_nx, fzK_rt, frzSl_own, frzSl_val, frzSl_odc, dcInK_some, dcSetK_some, dcPutK_some, dcGetK_some, dcKeyK_some, keyOf_two, wkV_lst, wkV_tup, wkV_tf, wkV_sq, wkV_own, wkV_pk, tfK_lst, tfK_sq, ixB_ok, ctB_ok, ctA_ok, ixA_tf, ixA_lst, ixA_sq, idxL_ints, idxF_ints, sgK_some, enA_l, enA_t, hdK_t, hdK_f, hndX_ev, ownRK_some, ↓Wp_eVar, k_varV, k_varO, k_varI, k_varR, k_varP, ↓Wp_eVarF, k_vafV, k_vafO, k_setV, k_setO, k_der, k_derV, k_derO, k_derI, k_derR, k_derP, k_argV, k_argI, k_agvO, k_agvI, k_agvR, k_agvP, k_agvV, k_agiO, k_agiI, k_agiR, k_lat, k_lsO, k_lsI, k_put, k_ptO, k_ptI, k_stl, k_stP, k_bk, k_bkO, k_bkI, k_bkR, k_gNm, o_addI, o_addL, o_addT, o_pow6, o_pow5, o_sub, o_mul, o_mulL, o_fdiv, o_mod, o_neg, o_lt, o_le, o_gt, o_ge, o_abs, o_int, o_intB, o_min, o_max, o_lenL, o_lenT, o_lenQ, o_lenS, o_inS, o_notInS, o_listL, o_listT, o_listQ, o_tupL, o_tupQ, o_tupT, o_boolT, o_boolL, o_rev, o_revT, o_rg1, o_rg2, o_sum, o_maxL, o_minL, o_any, o_all, o_minT3, o_sortedP, o_sorted, o_gcd, o_cutLo, o_cutHi, o_cutHiT, o_cutLoT, o_tkMap, o_drMap, o_inLs, o_inTs, o_ixL, o_ixT, o_ixQ, o_ixLn, o_ixTn, o_ixL0, o_ixL1, o_ixL2, o_ixL3, o_ixT0, o_ixT1, o_ixT2, o_ixT3, o_ixR, o_ixRT, eqD_int, neD_int, eqD_bl, neD_bl, eqD_li, neD_li, eqD_tu, opIn_li, opIn_tu, opNotIn_li, opNotIn_tu, neD_lb, pow_10_18, pow_10_9, blOf_v, plain_no, mark1, mark1', plain_val, q_tf, q_ft, nth_0, nth_1, nth_2, nth_3, nth_map, nth_rng, mk_set, mk_zero, eqD_str, neD_str, rangeT_rng, T.isD, okIx, ioIx, pnIx, bIsi, kIs, kindOf, kInt, kBool, kStr, VI.kTup, VI.kLst, kNo, isNo, notNo, isCo, notCo, opIsN, isN, isB, gnd, ground1, putKs, putTs, fget, fldG, heldT, wipeR, backR, plainAt, gTp, gsCons, gsNil, clsO, Nat.reduceBEq, beq_self_eq_true, Nat.reduceEqDiff, Int.reduceAdd, Int.reduceSub, Int.reduceMul, Int.reduceEq, Int.reduceNe, decide_true, decide_false, decide_not, decide_eq_true_eq, Option.bind_some, Option.bind_none, implies_true, forall_const, Option.map_some, Option.map_none, List.cons_append, List.nil_append, List.replicate_succ, List.replicate_zero, List.getElem?_cons_zero, List.getElem?_cons_succ, List.getElem?_nil, List.set_cons_zero, List.set_cons_succ, List.length_cons, List.length_nil, List.map_cons, List.map_nil, List.take_succ_cons, List.take_zero, List.length_map, List.getD_cons_zero, List.getD_cons_succ, List.nodup_nil, List.nodup_cons, List.not_mem_nil, not_false_eq_true, not_true_eq_false, and_self, and_true, true_and, and_false, false_and, List.all_nil, List.all_cons, List.contains_nil, List.contains_cons, Bool.and_true, Bool.true_and, Bool.and_false, Bool.false_and, Bool.and_self, Bool.or_false, Bool.false_or, Bool.or_true, Bool.true_or, Bool.false_eq_true, Bool.true_eq_false, if_true, if_false, ite_true, ite_false, Bool.not_true, Bool.not_false, Bool.not_not, reduceIte, reduceCtorEq, Nat.reduceAdd, Nat.reduceLT, Nat.reduceLeDiff, Int.reduceLT, Int.reduceLE, Int.reduceToNat, Int.reduceNeg, Int.cast_ofNat_Int, Bool.decide_eq_true, List.reverse_cons, List.reverse_nil, List.append_assoc, List.lookup_cons, List.lookup_nil])
/-! ### all parts, all pairs -/
def tuI (x : List Int) : T := .tup (x.map T.int)
theorem addTT {a b : List T} {Q : EV → Ro → Prop} {ρ : Ro} (h : a.length + b.length ≤ 100000) : outK (opAdd (.tup a) (.tup b)) Q ρ = Q (.val (.tup (a ++ b))) ρ := by
  unfold opAdd
  simp only
  rw [if_pos h]
  cases a with
  | nil => rfl
  | cons x a => cases b with
    | nil => rw [List.append_nil]; rfl
    | cons y b => rfl
def chs (items : List Int) : List (List Int) := items.foldl (fun f x => f ++ f.map (· ++ [x])) [[]]
theorem chs_snoc (items : List Int) (x : Int) : chs (items ++ [x]) = chs items ++ (chs items).map (· ++ [x]) := by simp [chs, List.foldl_append]
theorem mem_chs : ∀ (items : List Int) (t : List Int), t ∈ chs items ↔ t.Sublist items := snoc_ind (fun t => by simp [chs]) fun items x ih t => by
  rw [chs_snoc, List.mem_append, ih, List.mem_map, List.sublist_append_iff]
  constructor
  · rintro (h | ⟨u, hu, rfl⟩)
    · exact ⟨t, [], by simp, h, List.nil_sublist _⟩
    · exact ⟨u, [x], rfl, (ih u).mp hu, List.Sublist.refl _⟩
  · rintro ⟨a, b, rfl, ha, hb⟩
    cases b with
    | nil => exact .inl (by rw [List.append_nil]; exact ha)
    | cons y b =>
      have hl := hb.length_le
      simp only [List.length_cons, List.length_nil] at hl
      have : b = [] := List.length_eq_zero_iff.mp (by omega)
      subst this
      have : y = x := by have := hb.subset (List.mem_singleton.mpr rfl); simpa using this
      subst this
      exact .inr ⟨a, (ih a).mpr ha, rfl⟩
theorem chs_len : ∀ items : List Int, (chs items).length = 2 ^ items.length := snoc_ind (by simp [chs]) fun items x ih => by
  rw [chs_snoc, List.length_append, List.length_map, ih, List.length_append]
  simp [Nat.pow_succ]; omega
theorem chs_item {items t : List Int} (h : t ∈ chs items) : t.length ≤ items.length := ((mem_chs items t).mp h).length_le
theorem pow6 {k : Nat} (h : k ≤ 6) : 2 ^ k ≤ 64 := Nat.le_trans (Nat.pow_le_pow_right (by omega) h) (by decide)
theorem grow_s (f : List (List Int)) (hf : f.length ≤ 64) (hl : ∀ t ∈ f, t.length ≤ 6) (x : Int) {vs : List Nat} {fe : EF} {g : T → Ro → Option Ro} {ρ : Ro} {Q : EV → Ro → Prop} {X : EQ}
    (hs : ∀ t ∈ f, ∃ ρ1, g (tuI t) (wipeR ρ vs) = some ρ1 ∧ Wp (fe ρ1) (gnd fun u ρ3 => u = tuI (t ++ [x]) ∧ backR ρ vs ρ3 = ρ) fun _ _ _ _ => False) (hd : Q (.own ((f.map (· ++ [x])).map tuI)) ρ) : Wp (loopC g tTrue fe vs (f.map tuI) [] ρ) Q X := by
  refine wp_lcm tuI f (fun t => tuI (t ++ [x])) hs ?_
  rw [List.nil_append]
  rw [List.map_map] at hd
  exact hd
theorem choices_s {items : List Int} (hl : items.length ≤ 6) {Q : EV → Ro → Prop} {X : EQ} (k : ∀ s r, Q (.val (.lst ((chs items).map tuI))) (s :: r)) : Wp (m_choices [.val (.lst (items.map T.int))]) Q X := by
  unfold m_choices
  walk_at "go"
  refine wp_for T.int items (fun done _ ρ => ∃ s2 s3, ρ = [.val (.lst (items.map T.int)), .val (.lst ((chs done).map tuI)), s2, s3] ∧ s3.plain = true) ⟨_, _, rfl, rfl⟩ ?_ ?_
  · rintro done x rest _ e ⟨s2, s3, rfl, p3⟩
    have hd : done.length + (rest.length + 1) = items.length := by rw [e]; simp
    have h64 : (chs done).length ≤ 64 := by rw [chs_len]; exact pow6 (by omega)
    have hm : ((chs done).map tuI).length ≤ 64 := by rw [List.length_map]; exact h64
    have h6 : ∀ t ∈ chs done, t.length ≤ 6 := fun t ht => by have := chs_item ht; omega
    refine ⟨_, rfl, ?_⟩
    walk_at "go"
    refine grow_s _ h64 h6 x (fun t ht => ⟨_, rfl, ?_⟩) ?_
    · have := h6 t ht
      unfold tuI
      walk_at "go"
      rw [addTT (by rw [List.length_map]; simp; omega)]
      walk_at "go"
      rw [List.map_append]; rfl
    · have hm2 : (((chs done).map (· ++ [x])).map tuI).length ≤ 64 := by rw [List.length_map, List.length_map]; exact h64
      walk_at "go"
      exact ⟨_, _, by rw [chs_snoc, List.map_append], by assumption⟩
  · rintro _ ⟨s2, s3, rfl, _⟩
    walk_at "go"
    exact k _ _
theorem groups_s {n : Int} (n0 : 1 ≤ n) (n1 : n ≤ 6) {Q : EV → Ro → Prop} {X : EQ} (k : ∀ s r, Q (.val (.lst ((chs (rng n)).map tuI))) (s :: r)) : Wp (m__law_groups [.val (.int n)]) Q X := by
  unfold m__law_groups
  walk_at "go"
  refine wp_for T.int (rng n) (fun done _ ρ => ∃ s2 s3, ρ = [.val (.int n), .val (.lst ((chs done).map tuI)), s2, s3] ∧ s3.plain = true) ⟨_, _, rfl, rfl⟩ ?_ ?_
  · rintro done x rest _ e ⟨s2, s3, rfl, p3⟩
    have hd : done.length + (rest.length + 1) = n.toNat := by
      have := congrArg List.length e
      rw [len_rng] at this; simp at this; omega
    have h64 : (chs done).length ≤ 64 := by rw [chs_len]; exact pow6 (by omega)
    have hm : ((chs done).map tuI).length ≤ 64 := by rw [List.length_map]; exact h64
    have h6 : ∀ t ∈ chs done, t.length ≤ 6 := fun t ht => by have := chs_item ht; omega
    refine ⟨_, rfl, ?_⟩
    walk_at "go"
    refine grow_s _ h64 h6 x (fun t ht => ⟨_, rfl, ?_⟩) ?_
    · have := h6 t ht
      unfold tuI
      walk_at "go"
      rw [addTT (by rw [List.length_map]; simp; omega)]
      walk_at "go"
      rw [List.map_append]; rfl
    · have hm2 : (((chs done).map (· ++ [x])).map tuI).length ≤ 64 := by rw [List.length_map, List.length_map]; exact h64
      walk_at "go"
      exact ⟨_, _, by rw [chs_snoc, List.map_append], by assumption⟩
  · rintro _ ⟨s2, s3, rfl, _⟩
    walk_at "go"
    exact k _ _
/-! pairs -/
def prL : List Int → List (Int × Int)
  | [] => []
  | x :: t => t.map (fun y => (x, y)) ++ prL t
theorem prL_zip (full : List Int) : ∀ (t : List Int) (k : Nat), full.drop k = t → ((t.zipIdx k).flatMap fun p => (full.drop (p.2 + 1)).map fun y => (p.1, y)) = prL t
  | [], k, _ => rfl
  | x :: t, k, h => by
    have h2 : full.drop (k + 1) = t := by rw [← List.drop_drop, h]; rfl
    rw [List.zipIdx_cons, List.flatMap_cons, prL, h2, prL_zip full t (k + 1) h2]
theorem prL_all {R : Int → Int → Prop} : ∀ {t : List Int}, (∀ p ∈ prL t, R p.1 p.2) ↔ t.Pairwise R
  | [] => by simp [prL]
  | x :: t => by
    rw [prL, List.pairwise_cons, ← prL_all (t := t)]
    simp only [List.mem_append, List.mem_map]
    constructor
    · intro h
      exact ⟨fun y hy => h (x, y) (.inl ⟨y, hy, rfl⟩), fun p hp => h p (.inr hp)⟩
    · rintro ⟨h1, h2⟩ p (⟨y, hy, rfl⟩ | hp)
      · exact h1 y hy
      · exact h2 p hp
theorem prL_len : ∀ t : List Int, 2 * ((prL t).length : Int) = t.length * ((t.length : Int) - 1)
  | [] => by simp [prL]
  | x :: t => by
    have ih := prL_len t
    rw [prL, List.length_append, List.length_map, List.length_cons]
    have e : ((t.length + 1 : Nat) : Int) * (((t.length + 1 : Nat) : Int) - 1) = (t.length : Int) * ((t.length : Int) - 1) + 2 * t.length := by
      rw [show ((t.length + 1 : Nat) : Int) - 1 = t.length by omega, show ((t.length + 1 : Nat) : Int) = (t.length : Int) + 1 by omega, Int.add_mul, Int.mul_sub]
      omega
    rw [e, ← ih]; omega
theorem prL_le {t : List Int} (h : t.length ≤ 100) : (prL t).length ≤ 10000 := by
  have : ∀ t : List Int, (prL t).length ≤ t.length * t.length := fun t => by
    induction t with
    | nil => simp [prL]
    | cons x t ih =>
      rw [prL, List.length_append, List.length_map, List.length_cons, Nat.succ_mul, Nat.mul_succ]
      omega
  have h2 := this t
  have h3 := Nat.mul_le_mul h h
  omega
theorem pairs_s {t : List Int} (ht : t.length ≤ 100) {s0 : Sl} (h0 : RowS s0 (t.map T.int)) {Q : EV → Ro → Prop} {X : EQ} (k : ∀ s r, Q (.own ((prL t).map pairT)) (s :: r)) : Wp (m_pairs_of [s0]) Q X := by
  have hle := prL_le ht
  have eF : ((t.zipIdx 0).flatMap fun p => (t.drop (p.2 + 1)).map fun y => (p.1, y)) = prL t := prL_zip t t 0 rfl
  have hlen : ((t.zipIdx 0).flatMap fun p => t.drop (p.2 + 1)).length ≤ 100000 := by
    have e2 : ((t.zipIdx 0).flatMap fun p => t.drop (p.2 + 1)) = (prL t).map (·.2) := by
      rw [← eF, List.map_flatMap]
      congr 1
      funext p
      rw [List.map_map]; exact (List.map_id _).symm
    rw [e2, List.length_map]; omega
  unfold m_pairs_of
  rcases h0 with rfl | rfl <;>
  · walk_at "go"
    rw [enum_zip T.int 0 t]
    walk_at "go"
    refine wp_lc2g _ T.int (t.zipIdx 0) (fun p => t.drop (p.2 + 1)) (fun p y => T.tup [.int p.1, .int y]) (by simpa using hlen) (fun p hp => ⟨_, rfl, ?_⟩) ?_
    · have hz : (((p.2 : Nat) : Int) + 1).toNat = p.2 + 1 := by omega
      have hz0 : 0 ≤ ((p.2 : Nat) : Int) + 1 := by omega
      walk_at "go"
      rw [hz]
      refine ⟨rfl, fun y hy => ⟨_, rfl, ?_⟩⟩
      walk_at "go"
    · rw [List.nil_append, show ((t.zipIdx 0).flatMap fun p => (t.drop (p.2 + 1)).map fun y => T.tup [.int p.1, .int y]) = (prL t).map pairT by
        rw [← eF, List.map_flatMap]
        congr 1
        funext p
        rw [List.map_map]; rfl]
      walk_at "go"
      exact k _ _
end Q

set_option Elab.async false
set_option linter.all false
set_option maxRecDepth 100000
set_option maxHeartbeats 4000000
namespace Q
open PySem L2 PySem.Spec VI
set_option hygiene false
local macro_rules | `(tactic| walk_at "go") => `(tactic| repeat (first | with_reducible refine seqW fun Kz kz1 kz2 kz3 kz4 => ?_ | (with_reducible refine kz1 _ ?_; clear kz1 kz2 kz3 kz4 Kz) | (with_reducible refine kz2 _ _ ?_; clear kz1 kz2 kz3 kz4 Kz) | (with_reducible refine kz3 _ ?_; clear kz1 kz2 kz3 kz4 Kz) | (with_reducible refine kz4 _ ?_; clear kz1 kz2 kz3 kz4 Kz) | walk_at "vw"))
set_option hygiene true
local macro_rules | `(tactic| walk_at "vw") => `(tactic| simp (disch := first | assumption | omega | (simp only [List.length_cons, List.length_nil, List.length_map, List.length_append, List.length_take, List.length_drop, List.length_set, List.length_replicate, List.length_range, len_rangeT, len_rng]; omega) | decide) only [↓Wp_cong, ↓Wp_ok, ↓Wp_ex, ↓Wp_bad, ↓Wp_bind, ↓Wp_tt, ↓Wp_ff, ↓Wp_dec, ↓Wp_notb, ↓Wp_not, ↓Wp_out, ↓Wp_e1, ↓Wp_e2, ↓Wp_eN, ↓Wp_eC, ↓Wp_aNil, ↓Wp_aCons, ↓Wp_aStar, ↓Wp_eTup, ↓Wp_eLst, ↓Wp_tOf, ↓Wp_tTrue, ↓Wp_tNot, ↓Wp_tAnd, ↓Wp_tOr, ↓Wp_eAnd, ↓Wp_eOr, ↓Wp_eNot, ↓Wp_eIf, ↓Wp_eFrz, ↓Wp_eChain, ↓Wp_sNx, ↓Wp_sBk, ↓Wp_sExpr, ↓Wp_sIf, ↓Wp_sRet, ↓Wp_sSet, ↓Wp_sAsg, ↓Wp_sFor, ↓Wp_sRaise, ↓Wp_sRaiseN, ↓Wp_sRaiseT, ↓Wp_sSub, ↓Wp_sAug, ↓Wp_runF, ↓Wp_eBmM, ↓Wp_eCall, ↓Wp_eOwn2, ↓Wp_eOwnI, ↓Wp_eOwn1, ↓Wp_eOwnIn, ↓Wp_eMeth, ↓Wp_eLenI, ↓Wp_eBlI, ↓Wp_eMake, ↓Wp_eCallO, ↓Wp_eCallO1, ↓Wp_eListOwn, ↓Wp_iAny, ↓Wp_iOwn, ↓Wp_iRange1, ↓Wp_iRange2, ↓Wp_iEnumL, ↓Wp_eLc, ↓Wp_eLc2, ↓Wp_vSc, ↓Wp_eSortedV, ↓Wp_vSet, ↓Wp_eSl, ↓Wp_oNone, ↓Wp_oSome, ↓Wp_eFld, ↓Wp_eIsi, ↓Wp_sFld, ↓Wp_eIsx, ↓Wp_sTryOnly, ↓Wp_sTryAs, ↓Wp_noX, ↓Wp_eIsq, ↓Wp_eXf, ↓Wp_eChain3, ↓Wp_sDcNew, ↓Wp_tDcIn, ↓Wp_sDcSet, ↓Wp_eDcGet, ↓Wp_sFz, ↓Wp_aDfl, ↓Wp_eWk, ↓Wp_eTf, ↓Wp_idxT, ↓Wp_cntT, ↓Wp_eCnt, ↓Wp_eIdx, ↓Wp_iSg, ↓Wp_iEnA, ↓Wp_hndNil, ↓Wp_hndAs, ↓Wp_hndOnly, ↓Wp_sTryH, ↓Wp_eOwnR, ↓Wp_pos, ↓Wp_neg, outK_v, outK_l, outK_u, e1K_some, e2K_some, eNK_some, optTK_some, derefs_nil, consO_some, derefs_cons, deref_val, deref_own, grounds_nil, grounds_val, grounds_own, grounds_vals, ground1_val, ground1_own, tupK_t, tupK_l, tK_bl, blK_bl, frzK_own, frzK_val, chB_some, chK_some, blOf_v, sqK_nx, sqK_rt, sqK_bk, sqK_ct, retK_val, retK_own, asgK_some, asgG_some, rsK_some, rtK_tup, ltK_some, subK_some, augK_some, augS_some, runK_rt, runK_nx, bmK_append, bmK_clear, bmK_reverse, er_map, bmK_index, bmK_popAt, bmK_insert, kE_val, kE_own, kF_some, kR_ev, kX_ev, callA_some, argSl_nil, consS_some, argSl_cons, argS_val, argS_own, backs_nil, backs_v, backs_ioV, backs_ioO, ownK_some, own2K_some, ownIK_some, inK_bl, inK_nb, methK_ins, methK_01, lenK_int, bliK_bl, rawK_some, mkK_non, mkX_ev, tkK_val, tkK_own, coK_own, co1K_own, co0K_val, lnK_int, heldK_some, itK_some, still_val, still_own, itemsT_lst, itemsT_tup, itemsT_sq, rgK_1, rgK_2, isR1_ok, isR2_ok, enK_some, plK_ok, plK_tt, lnP_ok, svK_ok, vsK_some, cutK_some, oiK_int, fldK_some, tryX_ev, trK_t, trK_f, isyK_ok, isxK_exn, isqK_exn, optK_some, xfK_exn, ch3K_some, fzK_nx, fzK_rt, frzSl_own, frzSl_val, frzSl_odc, dcInK_some, dcSetK_some, dcPutK_some, dcGetK_some, dcKeyK_some, keyOf_two, wkV_lst, wkV_tup, wkV_tf, wkV_sq, wkV_own, wkV_pk, tfK_lst, tfK_sq, ixB_ok, ctB_ok, ctA_ok, ixA_tf, ixA_lst, ixA_sq, idxL_ints, idxF_ints, sgK_some, enA_l, enA_t, hdK_t, hdK_f, hndX_ev, ownRK_some, ↓Wp_eVar, k_varV, k_varO, k_varI, k_varR, k_varP, ↓Wp_eVarF, k_vafV, k_vafO, k_setV, k_setO, k_der, k_derV, k_derO, k_derI, k_derR, k_derP, k_argV, k_argI, k_agvO, k_agvI, k_agvR, k_agvP, k_agvV, k_agiO, k_agiI, k_agiR, k_lat, k_lsO, k_lsI, k_put, k_ptO, k_ptI, k_stl, k_stP, k_bk, k_bkO, k_bkI, k_bkR, k_gNm, o_addI, o_addL, o_addT, o_pow6, o_pow5, o_sub, o_mul, o_mulL, o_fdiv, o_mod, o_neg, o_lt, o_le, o_gt, o_ge, o_abs, o_int, o_intB, o_min, o_max, o_lenL, o_lenT, o_lenQ, o_lenS, o_inS, o_notInS, o_listL, o_listT, o_listQ, o_tupL, o_tupQ, o_tupT, o_boolT, o_boolL, o_rev, o_revT, o_rg1, o_rg2, o_sum, o_maxL, o_minL, o_any, o_all, o_minT3, o_sortedP, o_sorted, o_gcd, o_cutLo, o_cutHi, o_cutHiT, o_cutLoT, o_tkMap, o_drMap, o_inLs, o_inTs, o_ixL, o_ixT, o_ixQ, o_ixLn, o_ixTn, o_ixL0, o_ixL1, o_ixL2, o_ixL3, o_ixT0, o_ixT1, o_ixT2, o_ixT3, o_ixR, o_ixRT, eqD_int, neD_int, eqD_bl, neD_bl, eqD_li, neD_li, eqD_tu, opIn_li, opIn_tu, opNotIn_li, opNotIn_tu, neD_lb, pow_10_18, pow_10_9, blOf_v, plain_no, mark1, mark1', plain_val, q_tf, q_ft, nth_0, nth_1, nth_2, nth_3, nth_map, nth_rng, mk_set, mk_zero, eqD_str, neD_str, rangeT_rng, T.isD, okIx, ioIx, pnIx, bIsi, kIs, kindOf, kInt, kBool, kStr, VI.kTup, VI.kLst, kNo, isNo, notNo, isCo, notCo, opIsN, isN, isB, gnd, ground1, putKs, putTs, fget, fldG, heldT, wipeR, backR, plainAt, gTp, gsCons, gsNil, clsO, Nat.reduceBEq, beq_self_eq_true, Nat.reduceEqDiff, Int.reduceAdd, Int.reduceSub, Int.reduceMul, Int.reduceEq, Int.reduceNe, decide_true, decide_false, decide_not, decide_eq_true_eq, Option.bind_some, Option.bind_none, implies_true, forall_const, Option.map_some, Option.map_none, List.cons_append, List.nil_append, List.replicate_succ, List.replicate_zero, List.getElem?_cons_zero, List.getElem?_cons_succ, List.getElem?_nil, List.set_cons_zero, List.set_cons_succ, List.length_cons, List.length_nil, List.map_cons, List.map_nil, List.take_succ_cons, List.take_zero, List.length_map, List.getD_cons_zero, List.getD_cons_succ, List.nodup_nil, List.nodup_cons, List.not_mem_nil, not_false_eq_true, not_true_eq_false, and_self, and_true, true_and, and_false, false_and, List.all_nil, List.all_cons, List.contains_nil, List.contains_cons, Bool.and_true, Bool.true_and, Bool.and_false, Bool.false_and, Bool.and_self, Bool.or_false, Bool.false_or, Bool.or_true, Bool.true_or, Bool.false_eq_true, Bool.true_eq_false, if_true, if_false, ite_true, ite_false, Bool.not_true, Bool.not_false, Bool.not_not, reduceIte, reduceCtorEq, Nat.reduceAdd, Nat.reduceLT, Nat.reduceLeDiff, Int.reduceLT, Int.reduceLE, Int.reduceToNat, Int.reduceNeg, Int.cast_ofNat_Int, Bool.decide_eq_true, List.reverse_cons, List.reverse_nil, List.append_assoc, List.lookup_cons, List.lookup_nil])
/-! ### stages, crowds -/
def InR (n : Int) (t : List Int) : Prop := (∀ x ∈ t, 0 ≤ x ∧ x < n) ∧ t.Nodup
def StageP (n : Int) (rs : List Rv) (t : List Int) : Prop := InR n t ∧ t.Pairwise fun x y => spanO rs x y = none
def CrowdP (n : Int) (rs : List Rv) (t : List Int) : Prop := t ≠ [] ∧ InR n t ∧ t.Pairwise fun x y => spanO rs x y ≠ none
theorem row_iff {n : Int} {row : List Int} {p : Option Nat} (h : Least (badS n row) row.length p) : p = none ↔ InR n row := by
  constructor
  · intro e; subst e; exact good_row h
  · rintro ⟨h1, h2⟩
    cases h with
    | none g => rfl
    | some hk b g =>
      rename_i k
      have e : nth row (k : Int) = row[k] := by simp [nth, List.getElem?_eq_getElem hk]
      rcases b with b | b
      · exact absurd (h1 _ (by rw [e]; exact List.getElem_mem _)) b
      · rw [e] at b
        obtain ⟨i, hi, ei⟩ := List.mem_take_iff_getElem.mp b
        unfold List.Nodup at h2
        rw [List.pairwise_iff_getElem] at h2
        exact absurd ei (h2 i k (by omega) hk (by omega))
structure OkC (n : Int) (xs : List Str) (rs : List Rv) : Prop where
  hn : (xs.length : Int) = n
  n0 : 1 ≤ n
  n1 : n ≤ 6
  ho : ∀ r ∈ rs, OkRv n r
  ha : Apart rs
theorem rival_s {n : Int} {xs : List Str} {rs : List Rv} (h : OkC n xs rs) {x y : Int} (hx : 0 ≤ x ∧ x < n) (hy : 0 ≤ y ∧ y < n) {Q : EV → Ro → Prop} {X : EQ} (k : ∀ s s1 s2 r, Q (.val (.bl (spanO rs x y).isSome)) (s :: s1 :: s2 :: r)) : Wp (m_are_rivals [.val (crT xs rs), .val (.int x), .val (.int y)]) Q X := by
  unfold m_are_rivals
  walk_at "go"
  refine cspan_s h.hn h.ho h.ha hx hy fun _ _ _ _ => ?_
  cases e : spanO rs x y with
  | none =>
    rw [e] at k
    unfold optI
    walk_at "go"
    exact k _ _ _ _
  | some s =>
    rw [e] at k
    unfold optI
    walk_at "go"
    exact k _ _ _ _
theorem rivals_c {n : Int} {xs : List Str} {rs : List Rv} (h : OkC n xs rs) {t : List Int} (ht : InR n t) {ρ : Ro} {Q : EV → Ro → Prop} {X : EQ} {s0 s1 : Sl} (he : ρ = [.val (crT xs rs), s0, .no, .no])
    (hd : Q (.own (((prL t).map fun p => (spanO rs p.1 p.2).isSome).map T.bl)) ρ) : Wp (loopC (gTp 2 (gsCons (gNm 2) (gsCons (gNm 3) gsNil))) tTrue (eCall [.v, .v, .v] m_are_rivals (aCons (eVar 0) (aCons (eVar 2) (aCons (eVar 3) aNil)))) [2, 3] ((prL t).map pairT) [] ρ) Q X := by
  subst he
  have mem : ∀ p ∈ prL t, p.1 ∈ t ∧ p.2 ∈ t := by
    have : ∀ t : List Int, ∀ p ∈ prL t, p.1 ∈ t ∧ p.2 ∈ t := fun t => by
      induction t with
      | nil => intro p hp; simp [prL] at hp
      | cons x t ih =>
        intro p hp
        rw [prL, List.mem_append, List.mem_map] at hp
        rcases hp with ⟨y, hy, rfl⟩ | hp
        · exact ⟨by simp, by simp [hy]⟩
        · obtain ⟨a, b⟩ := ih p hp
          exact ⟨by simp [a], by simp [b]⟩
    exact this t
  refine wp_lcm pairT (prL t) (fun p => T.bl (spanO rs p.1 p.2).isSome) (fun p hp => ⟨_, rfl, ?_⟩) ?_
  · obtain ⟨m1, m2⟩ := mem p hp
    walk_at "go"
    refine rival_s h (ht.1 _ m1) (ht.1 _ m2) fun _ _ _ _ => ?_
    walk_at "go"
  · rw [List.nil_append, show ((prL t).map fun p => T.bl (spanO rs p.1 p.2).isSome) = ((prL t).map fun p => (spanO rs p.1 p.2).isSome).map T.bl by rw [List.map_map]; rfl]
    exact hd
theorem isstage_s {n : Int} {xs : List Str} {rs : List Rv} (h : OkC n xs rs) {t : List Int} (hl : t.length ≤ 100) {s1 : Sl} (h1 : RowS s1 (t.map T.int)) {Q : EV → Ro → Prop} {X : EQ} (k : ∀ b : Bool, (b = true ↔ StageP n rs t) → ∀ s s1 r, Q (.val (.bl b)) (s :: s1 :: r)) : Wp (m_is_stage [.val (crT xs rs), s1]) Q X := by
  have hpl := prL_le hl
  have n0 := h.n0
  have n1 := h.n1
  unfold m_is_stage
  rcases h1 with rfl | rfl <;>
  · walk_at "go"
    refine lenC_s h.hn fun _ _ => ?_
    walk_at "go"
    refine strange_s (row := t) (by first | exact .inl rfl | exact .inr rfl) (by omega) fun p _ _ _ _ hp => ?_
    have hi := row_iff hp
    cases p with
    | some j =>
      unfold placeT
      walk_at "go"
      exact k false ⟨fun z => (by cases z), fun z => by have := hi.mpr z.1; cases this⟩ _ _ _
    | none =>
      have ht := hi.mp rfl
      unfold placeT
      walk_at "go"
      refine pairs_s hl (by first | exact .inl rfl | exact .inr rfl) fun _ _ => ?_
      walk_at "go"
      refine rivals_c h ht (s1 := .no) rfl ?_
      walk_at "go"
      refine k _ ?_ _ _ _
      rw [Bool.not_eq_true', List.any_map, Function.comp_def, List.any_eq_false]
      unfold StageP
      rw [← prL_all (R := fun x y => spanO rs x y = none)]
      simp [ht]
theorem iscrowd_s {n : Int} {xs : List Str} {rs : List Rv} (h : OkC n xs rs) {t : List Int} (hl : t.length ≤ 100) {s1 : Sl} (h1 : RowS s1 (t.map T.int)) {Q : EV → Ro → Prop} {X : EQ} (k : ∀ b : Bool, (b = true ↔ CrowdP n rs t) → ∀ s s1 r, Q (.val (.bl b)) (s :: s1 :: r)) : Wp (m_is_crowd [.val (crT xs rs), s1]) Q X := by
  have hpl := prL_le hl
  obtain ⟨l, hll⟩ : ∃ l : Int, l = t.length := ⟨_, rfl⟩
  have n0 := h.n0
  have n1 := h.n1
  unfold m_is_crowd
  rcases h1 with rfl | rfl <;>
  · walk_at "go"
    simp only [← hll]
    by_cases c : l = 0
    · have e : t = [] := List.length_eq_zero_iff.mp (by omega)
      walk_at "go"
      exact k false ⟨fun z => (by cases z), fun z => absurd e z.1⟩ _ _ _
    · walk_at "go"
      refine lenC_s h.hn fun _ _ => ?_
      walk_at "go"
      refine strange_s (row := t) (by first | exact .inl rfl | exact .inr rfl) (by omega) fun p _ _ _ _ hp => ?_
      have hi := row_iff hp
      cases p with
      | some j =>
        unfold placeT
        walk_at "go"
        exact k false ⟨fun z => (by cases z), fun z => by have := hi.mpr z.2.1; cases this⟩ _ _ _
      | none =>
        have ht := hi.mp rfl
        have hne : t ≠ [] := fun e => by subst e; simp at hll; omega
        unfold placeT
        walk_at "go"
        refine pairs_s hl (by first | exact .inl rfl | exact .inr rfl) fun _ _ => ?_
        walk_at "go"
        refine rivals_c h ht (s1 := .no) rfl ?_
        walk_at "go"
        refine k _ ?_ _ _ _
        rw [List.all_map, Function.comp_def, List.all_eq_true]
        unfold CrowdP
        rw [← prL_all (R := fun x y => spanO rs x y ≠ none)]
        simp [ht, hne, Option.isSome_iff_ne_none]
/-! the law's own -/
def insN (rs : List Rv) (g : List Int) : List Rv := rs.filter fun r => decide (r.a ∈ g) && decide (r.b ∈ g)
theorem inside_s {rs : List Rv} {g : List Int} (hr : rs.length ≤ 100) {s1 : Sl} (h1 : RowS s1 (g.map T.int)) {Q : EV → Ro → Prop} {X : EQ} (k : ∀ s s1 r, Q (.val (.int (insN rs g).length)) (s :: s1 :: r)) : Wp (m__law_inside [.val (.lst (rs.map rvT)), s1]) Q X := by
  have hR : (rs.map rvT).length ≤ 100000 := by rw [List.length_map]; omega
  unfold m__law_inside
  rcases h1 with rfl | rfl <;>
  · walk_at "go"
    refine wp_lcp rvT rs (fun r => decide (r.a ∈ g) && decide (r.b ∈ g)) rvT (fun r hr => ⟨_, rfl, ?_⟩) ?_
    · unfold rvT
      by_cases c1 : r.a ∈ g <;> by_cases c2 : r.b ∈ g <;> (walk_at "go"; simp [c1, c2])
    · rw [List.nil_append]
      walk_at "go"
      exact k _ _ _
theorem ins_none {n : Int} {rs : List Rv} {g : List Int} (ho : ∀ r ∈ rs, OkRv n r) (hg : g.Nodup) : (insN rs g).length = 0 ↔ g.Pairwise fun x y => spanO rs x y = none := by
  rw [List.length_eq_zero_iff]
  unfold insN
  rw [List.filter_eq_nil_iff]
  simp only [Bool.and_eq_true, decide_eq_true_eq, not_and]
  rw [List.pairwise_iff_getElem]
  constructor
  · intro h i j hi hj hij
    refine spanO_none.mpr fun r hr m => ?_
    rcases m with ⟨m1, m2⟩ | ⟨m1, m2⟩
    · exact h r hr (m1 ▸ List.getElem_mem _) (m2 ▸ List.getElem_mem _)
    · exact h r hr (m2 ▸ List.getElem_mem _) (m1 ▸ List.getElem_mem _)
  · intro h r hr h1 h2
    obtain ⟨i, hi, ei⟩ := List.getElem_of_mem h1
    obtain ⟨j, hj, ej⟩ := List.getElem_of_mem h2
    have hne := (ho r hr).ne
    rcases Nat.lt_trichotomy i j with c | c | c
    · exact spanO_none.mp (h i j hi hj c) r hr (.inl ⟨ei.symm, ej.symm⟩)
    · subst c; exact hne (ei.symm.trans ej)
    · exact spanO_none.mp (h j i hj hi c) r hr (.inr ⟨ej.symm, ei.symm⟩)
end Q

set_option Elab.async false
set_option linter.all false
set_option maxRecDepth 100000
set_option maxHeartbeats 4000000
namespace Q
open PySem L2 PySem.Spec VI
set_option hygiene false
local macro_rules | `(tactic| walk_at "go") => `(tactic| repeat (first | with_reducible refine seqW fun Kz kz1 kz2 kz3 kz4 => ?_ | (with_reducible refine kz1 _ ?_; clear kz1 kz2 kz3 kz4 Kz) | (with_reducible refine kz2 _ _ ?_; clear kz1 kz2 kz3 kz4 Kz) | (with_reducible refine kz3 _ ?_; clear kz1 kz2 kz3 kz4 Kz) | (with_reducible refine kz4 _ ?_; clear kz1 kz2 kz3 kz4 Kz) | walk_at "vw"))
set_option hygiene true
local macro_rules | `(tactic| walk_at "vw") => `(tactic| simp (disch := first | assumption | omega | (simp only [List.length_cons, List.length_nil, List.length_map, List.length_append, List.length_take, List.length_drop, List.length_set, List.length_replicate, List.length_range, len_rangeT, len_rng]; omega) | decide) only [↓Wp_cong, ↓Wp_ok, ↓Wp_ex, ↓Wp_bad, ↓Wp_bind, ↓Wp_tt, ↓Wp_ff, ↓Wp_dec, ↓Wp_notb, ↓Wp_not, ↓Wp_out, ↓Wp_e1, ↓Wp_e2, ↓Wp_eN, ↓Wp_eC, ↓Wp_aNil, ↓Wp_aCons, ↓Wp_aStar, ↓Wp_eTup, ↓Wp_eLst, ↓Wp_tOf, ↓Wp_tTrue, ↓Wp_tNot, ↓Wp_tAnd, ↓Wp_tOr, ↓Wp_eAnd, ↓Wp_eOr, ↓Wp_eNot, ↓Wp_eIf, ↓Wp_eFrz, ↓Wp_eChain, ↓Wp_sNx, ↓Wp_sBk, ↓Wp_sExpr, ↓Wp_sIf, ↓Wp_sRet, ↓Wp_sSet, ↓Wp_sAsg, ↓Wp_sFor, ↓Wp_sRaise, ↓Wp_sRaiseN, ↓Wp_sRaiseT, ↓Wp_sSub, ↓Wp_sAug, ↓Wp_runF, ↓Wp_eBmM, ↓Wp_eCall, ↓Wp_eOwn2, ↓Wp_eOwnI, ↓Wp_eOwn1, ↓Wp_eOwnIn, ↓Wp_eMeth, ↓Wp_eLenI, ↓Wp_eBlI, ↓Wp_eMake, ↓Wp_eCallO, ↓Wp_eCallO1, ↓Wp_eListOwn, ↓Wp_iAny, ↓Wp_iOwn, ↓Wp_iRange1, ↓Wp_iRange2, ↓Wp_iEnumL, ↓Wp_eLc, ↓Wp_eLc2, ↓Wp_vSc, ↓Wp_eSortedV, ↓Wp_vSet, ↓Wp_eSl, ↓Wp_oNone, ↓Wp_oSome, ↓Wp_eFld, ↓Wp_eIsi, ↓Wp_sFld, ↓Wp_eIsx, ↓Wp_sTryOnly, ↓Wp_sTryAs, ↓Wp_noX, ↓Wp_eIsq, ↓Wp_eXf, ↓Wp_eChain3, ↓Wp_sDcNew, ↓Wp_tDcIn, ↓Wp_sDcSet, ↓Wp_eDcGet, ↓Wp_sFz, ↓Wp_aDfl, ↓Wp_eWk, ↓Wp_eTf, ↓Wp_idxT, ↓Wp_cntT, ↓Wp_eCnt, ↓Wp_eIdx, ↓Wp_iSg, ↓Wp_iEnA, ↓Wp_hndNil, ↓Wp_hndAs, ↓Wp_hndOnly, ↓Wp_sTryH, ↓Wp_eOwnR, ↓Wp_pos, ↓Wp_neg, outK_v, outK_l, outK_u, e1K_some, e2K_some, eNK_some, optTK_some, derefs_nil, consO_some, derefs_cons, deref_val, deref_own, grounds_nil, grounds_val, grounds_own, grounds_vals, ground1_val, ground1_own, tupK_t, tupK_l, tK_bl, blK_bl, frzK_own, frzK_val, chB_some, chK_some, blOf_v, sqK_nx, sqK_rt, sqK_bk, sqK_ct, retK_val, retK_own, asgK_some, asgG_some, rsK_some, rtK_tup, ltK_some, subK_some, augK_some, augS_some, runK_rt, runK_nx, bmK_append, bmK_clear, bmK_reverse, er_map, bmK_index, bmK_popAt, bmK_insert, kE_val, kE_own, kF_some, kR_ev, kX_ev, callA_some, argSl_nil, consS_some, argSl_cons, argS_val, argS_own, backs_nil, backs_v, backs_ioV, backs_ioO, ownK_some, own2K_some, ownIK_some, inK_bl, inK_nb, methK_ins, methK_01, lenK_int, bliK_bl, rawK_some, mkK_non, mkX_ev, tkK_val, tkK_own, coK_own, co1K_own, co0K_val, lnK_int, heldK_some, itK_some, still_val, still_own, itemsT_lst, itemsT_tup, itemsT_sq, rgK_1, rgK_2, isR1_ok, isR2_ok, enK_some, plK_ok, plK_tt, lnP_ok, svK_ok, vsK_some, cutK_some, oiK_int, fldK_some, tryX_ev, trK_t, trK_f, isyK_ok, isxK_exn, isqK_exn, optK_some, xfK_exn, ch3K_some, fzK_nx, fzK_rt, frzSl_own, frzSl_val, frzSl_odc, dcInK_some, dcSetK_some, dcPutK_some, dcGetK_some, dcKeyK_some, keyOf_two, wkV_lst, wkV_tup, wkV_tf, wkV_sq, wkV_own, wkV_pk, tfK_lst, tfK_sq, ixB_ok, ctB_ok, ctA_ok, ixA_tf, ixA_lst, ixA_sq, idxL_ints, idxF_ints, sgK_some, enA_l, enA_t, hdK_t, hdK_f, hndX_ev, ownRK_some, ↓Wp_eVar, k_varV, k_varO, k_varI, k_varR, k_varP, ↓Wp_eVarF, k_vafV, k_vafO, k_setV, k_setO, k_der, k_derV, k_derO, k_derI, k_derR, k_derP, k_argV, k_argI, k_agvO, k_agvI, k_agvR, k_agvP, k_agvV, k_agiO, k_agiI, k_agiR, k_lat, k_lsO, k_lsI, k_put, k_ptO, k_ptI, k_stl, k_stP, k_bk, k_bkO, k_bkI, k_bkR, k_gNm, o_addI, o_addL, o_addT, o_pow6, o_pow5, o_sub, o_mul, o_mulL, o_fdiv, o_mod, o_neg, o_lt, o_le, o_gt, o_ge, o_abs, o_int, o_intB, o_min, o_max, o_lenL, o_lenT, o_lenQ, o_lenS, o_inS, o_notInS, o_listL, o_listT, o_listQ, o_tupL, o_tupQ, o_tupT, o_boolT, o_boolL, o_rev, o_revT, o_rg1, o_rg2, o_sum, o_maxL, o_minL, o_any, o_all, o_minT3, o_sortedP, o_sorted, o_gcd, o_cutLo, o_cutHi, o_cutHiT, o_cutLoT, o_tkMap, o_drMap, o_inLs, o_inTs, o_ixL, o_ixT, o_ixQ, o_ixLn, o_ixTn, o_ixL0, o_ixL1, o_ixL2, o_ixL3, o_ixT0, o_ixT1, o_ixT2, o_ixT3, o_ixR, o_ixRT, eqD_int, neD_int, eqD_bl, neD_bl, eqD_li, neD_li, eqD_tu, opIn_li, opIn_tu, opNotIn_li, opNotIn_tu, neD_lb, pow_10_18, pow_10_9, blOf_v, plain_no, mark1, mark1', plain_val, q_tf, q_ft, nth_0, nth_1, nth_2, nth_3, nth_map, nth_rng, mk_set, mk_zero, eqD_str, neD_str, rangeT_rng, T.isD, okIx, ioIx, pnIx, bIsi, kIs, kindOf, kInt, kBool, kStr, VI.kTup, VI.kLst, kNo, isNo, notNo, isCo, notCo, opIsN, isN, isB, gnd, ground1, putKs, putTs, fget, fldG, heldT, wipeR, backR, plainAt, gTp, gsCons, gsNil, clsO, Nat.reduceBEq, beq_self_eq_true, Nat.reduceEqDiff, Int.reduceAdd, Int.reduceSub, Int.reduceMul, Int.reduceEq, Int.reduceNe, decide_true, decide_false, decide_not, decide_eq_true_eq, Option.bind_some, Option.bind_none, implies_true, forall_const, Option.map_some, Option.map_none, List.cons_append, List.nil_append, List.replicate_succ, List.replicate_zero, List.getElem?_cons_zero, List.getElem?_cons_succ, List.getElem?_nil, List.set_cons_zero, List.set_cons_succ, List.length_cons, List.length_nil, List.map_cons, List.map_nil, List.take_succ_cons, List.take_zero, List.length_map, List.getD_cons_zero, List.getD_cons_succ, List.nodup_nil, List.nodup_cons, List.not_mem_nil, not_false_eq_true, not_true_eq_false, and_self, and_true, true_and, and_false, false_and, List.all_nil, List.all_cons, List.contains_nil, List.contains_cons, Bool.and_true, Bool.true_and, Bool.and_false, Bool.false_and, Bool.and_self, Bool.or_false, Bool.false_or, Bool.or_true, Bool.true_or, Bool.false_eq_true, Bool.true_eq_false, if_true, if_false, ite_true, ite_false, Bool.not_true, Bool.not_false, Bool.not_not, reduceIte, reduceCtorEq, Nat.reduceAdd, Nat.reduceLT, Nat.reduceLeDiff, Int.reduceLT, Int.reduceLE, Int.reduceToNat, Int.reduceNeg, Int.cast_ofNat_Int, Bool.decide_eq_true, List.reverse_cons, List.reverse_nil, List.append_assoc, List.lookup_cons, List.lookup_nil])
/-! ### sorted, min -/
def pdI (x : List Int) : PyData := .tuple (x.map PyData.int)
theorem pds_tu : ∀ xs : List (List Int), pds (xs.map tuI) = some (xs.map pdI)
  | [] => rfl
  | x :: xs => by simp [pds, tuI, pd, pds_ints, pds_tu xs, pdI]
theorem cns_ints : ∀ x : List Int, cns (x.map T.int) = true
  | [] => rfl
  | _ :: x => by simp [cns, cn, cns_ints x]
theorem cns_tu : ∀ xs : List (List Int), cns (xs.map tuI) = true
  | [] => rfl
  | x :: xs => by simp [cns, tuI, cn, cns_ints, cns_tu xs]
theorem al_pd (x y : List Int) : PySem.W.alike (pdI x) (pdI y) = true := PySem.W.alike_ints x y
theorem allAl_pd (xs : List (List Int)) : allAl (xs.map pdI) = true := by
  unfold allAl
  simp only [Bool.and_eq_true, List.all_eq_true]
  refine ⟨fun d hd e he => ?_, fun d hd => ?_⟩
  · obtain ⟨x, _, rfl⟩ := List.mem_map.mp hd
    obtain ⟨y, _, rfl⟩ := List.mem_map.mp he
    exact al_pd x y
  · obtain ⟨x, _, rfl⟩ := List.mem_map.mp hd; rfl
theorem depth_pd (x : List Int) : (pdI x).depth ≤ 1 := by
  unfold pdI; simp [PyData.depth, PySem.W.depth_ints]
theorem depths_pd : ∀ xs : List (List Int), PyData.depthAll (xs.map pdI) ≤ 1
  | [] => by simp [PyData.depthAll]
  | x :: xs => by have := depth_pd x; have := depths_pd xs; simp [PyData.depthAll]; omega
theorem unpd_pd (x : List Int) : unpd (pdI x) = tuI x := by
  unfold pdI tuI
  simp only [unpd, unpds_map, List.map_map]
  congr 1
def srtX (xs : List (List Int)) : List (List Int) := xs.mergeSort (PySem.W.dataLe false pdI)
theorem srtX_perm (xs : List (List Int)) : (srtX xs).Perm xs := List.mergeSort_perm xs _
theorem o_srtX {xs : List (List Int)} (h : ∀ x ∈ xs, x ≠ []) : bSortD [.lst (xs.map tuI)] = .l ((srtX xs).map tuI) := by
  have so : sortOk (xs.map pdI) = true := by
    unfold sortOk
    rw [allAl_pd, Bool.true_and, Bool.or_eq_true]
    left
    rw [List.all_eq_true]
    intro d hd
    obtain ⟨x, hx, rfl⟩ := List.mem_map.mp hd
    cases x with
    | nil => exact absurd rfl (h _ hx)
    | cons a x => rfl
  have dp : (xs.map pdI).all (fun d => decide (d.depth < 50)) = true := by
    rw [List.all_eq_true]
    intro d hd
    obtain ⟨x, _, rfl⟩ := List.mem_map.mp hd
    have := depth_pd x
    simp; omega
  simp only [bSortD, pds_tu]
  rw [if_pos ⟨cns_tu xs, so, dp⟩]
  congr 1
  have q := List.map_mergeSort (f := pdI) (r := PySem.W.dataLe false pdI) (s := PySem.W.dataLe false id) (l := xs) (fun a _ b _ => rfl)
  rw [← q, List.map_map]
  unfold srtX
  refine List.map_congr_left fun x _ => ?_
  exact unpd_pd x
def mnX : List (List Int) → List Int
  | [] => []
  | x :: r => r.foldl (fun a y => if PySem.W.dataLt (pdI y) (pdI a) then y else a) x
theorem o_mnX {xs : List (List Int)} (h : xs ≠ []) : bMinD PySem.W.minD [.lst (xs.map tuI)] = .v (tuI (mnX xs)) := by
  cases xs with
  | nil => exact absurd rfl h
  | cons x r =>
    have e := pds_tu (x :: r)
    rw [List.map_cons (f := pdI)] at e
    simp only [bMinD, e]
    rw [if_pos ⟨cns_tu _, by have := allAl_pd (x :: r); rwa [List.map_cons] at this, by have := depths_pd (x :: r); rw [List.map_cons] at this; omega⟩]
    congr 1
    rw [← unpd_pd]
    congr 1
    unfold mnX PySem.W.minD
    have go : ∀ (r : List (List Int)) (x : List Int), (r.map pdI).foldl (fun a y => if PySem.W.dataLt y a then y else a) (pdI x) = pdI (r.foldl (fun a y => if PySem.W.dataLt (pdI y) (pdI a) then y else a) x) := fun r => by
      induction r with
      | nil => intro x; rfl
      | cons y r ih =>
        intro x
        rw [List.map_cons, List.foldl_cons, List.foldl_cons]
        by_cases c : PySem.W.dataLt (pdI y) (pdI x) = true
        · rw [if_pos c, if_pos c]; exact ih y
        · rw [if_neg c, if_neg c]; exact ih x
    exact go r x
/-! ### the lists -/
theorem rng_asc (n : Int) : (rng n).Pairwise (· < ·) := by
  unfold rng
  rw [List.pairwise_map]
  exact List.pairwise_lt_range.imp fun h => by omega
def stF (rs : List Rv) (t : List Int) : Bool := decide (0 < t.length) && decide ((insN rs t).length = 0)
def crF (rs : List Rv) (t : List Int) : Bool := decide (0 < t.length) && decide (2 * ((insN rs t).length : Int) = t.length * ((t.length : Int) - 1))
def stgs (n : Int) (rs : List Rv) : List (List Int) := srtX ((chs (rng n)).filter (stF rs))
theorem sub_in {n : Int} {t : List Int} (h : t ∈ chs (rng n)) : InR n t := by
  have h := (mem_chs _ _).mp h
  exact ⟨fun x hx => mem_rng.mp (h.subset hx), (nodup_rng n).sublist h⟩
theorem mem_stgs {n : Int} {rs : List Rv} {t : List Int} : t ∈ stgs n rs ↔ t.Sublist (rng n) ∧ t ≠ [] ∧ (insN rs t).length = 0 := by
  unfold stgs
  rw [(srtX_perm _).mem_iff, List.mem_filter, mem_chs]
  simp [stF, List.length_pos_iff]
theorem chs6 {n : Int} (n0 : 1 ≤ n) (n1 : n ≤ 6) : (chs (rng n)).length ≤ 64 ∧ ∀ t ∈ chs (rng n), t.length ≤ 6 := by
  constructor
  · rw [chs_len, len_rng]; exact pow6 (by omega)
  · intro t ht
    have := chs_item ht
    rw [len_rng] at this; omega
theorem stgs_len {n : Int} {rs : List Rv} (n0 : 1 ≤ n) (n1 : n ≤ 6) : (stgs n rs).length ≤ 64 := by
  have h1 := (srtX_perm ((chs (rng n)).filter (stF rs))).length_eq
  have h2 := List.length_filter_le (stF rs) (chs (rng n))
  have := (chs6 n0 n1).1
  unfold stgs; omega
theorem stgs_item {n : Int} {rs : List Rv} (n0 : 1 ≤ n) (n1 : n ≤ 6) {t : List Int} (h : t ∈ stgs n rs) : t.length ≤ 6 := by
  have := (mem_stgs.mp h).1.length_le
  rw [len_rng] at this; omega
theorem stages_s {n : Int} {xs : List Str} {rs : List Rv} (h : OkC n xs rs) {Q : EV → Ro → Prop} {X : EQ} (k : ∀ s r, Q (.own ((stgs n rs).map tuI)) (s :: r)) : Wp (m_stages [.val (crT xs rs)]) Q X := by
  have n0 := h.n0
  have n1 := h.n1
  obtain ⟨c64, c6⟩ := chs6 n0 n1
  have hC : ((chs (rng n)).map tuI).length ≤ 64 := by rw [List.length_map]; exact c64
  unfold m_stages
  walk_at "go"
  refine lenC_s h.hn fun _ _ => ?_
  walk_at "go"
  refine choices_s (by rw [len_rng]; omega) fun _ _ => ?_
  walk_at "go"
  refine wp_lcp tuI (chs (rng n)) (stF rs) tuI (fun t ht => ⟨_, rfl, ?_⟩) ?_
  · have htl := c6 t ht
    have hin := sub_in ht
    unfold tuI
    by_cases c : (0 : Int) < t.length
    · walk_at "go"
      refine isstage_s h (by omega) (.inr rfl) fun b hb _ _ _ => ?_
      have e : b = stF rs t := by
        rw [Bool.eq_iff_iff, hb]
        unfold stF StageP
        rw [← ins_none h.ho hin.2]
        have : 0 < t.length := by omega
        simp [this, hin]
      walk_at "go"
      exact e
    · have e : stF rs t = false := by
        unfold stF
        have : ¬ 0 < t.length := by omega
        simp [this]
      walk_at "go"
      rw [e]
  · rw [List.nil_append]
    walk_at "go"
    rw [o_srtX fun x hx => by
      have := (List.mem_filter.mp hx).2
      unfold stF at this
      intro e; subst e; simp at this]
    walk_at "go"
    exact k _ _
def partB (s g : List Int) : Bool := decide (s.length < g.length) && s.all fun x => decide (x ∈ g)
theorem ispart_s {s g : List Int} (hs : s.length ≤ 100) {Q : EV → Ro → Prop} {X : EQ} (k : ∀ s0 s1 r, Q (.val (.bl (partB s g))) (s0 :: s1 :: r)) : Wp (m_is_part [.val (tuI s), .val (tuI g)]) Q X := by
  have hS : (s.map T.int).length ≤ 100000 := by rw [List.length_map]; omega
  unfold m_is_part tuI
  by_cases c : (s.length : Int) < g.length
  · have e : partB s g = s.all fun x => decide (x ∈ g) := by
      unfold partB
      have : s.length < g.length := by omega
      simp [this]
    rw [e] at k
    walk_at "go"
    refine wp_lcm T.int s (fun x => T.bl (decide (x ∈ g))) (fun x hx => ⟨_, rfl, ?_⟩) ?_
    · walk_at "go"
    rw [List.nil_append, show (s.map fun x => T.bl (decide (x ∈ g))) = (s.map fun x => decide (x ∈ g)).map T.bl by rw [List.map_map]; rfl]
    walk_at "go"
    rw [List.all_map]
    exact k _ _ _
  · have e : partB s g = false := by
      unfold partB
      have : ¬ s.length < g.length := by omega
      simp [this]
    rw [e] at k
    walk_at "go"
    exact k _ _ _
def gst (K : List (List Int)) : List (List Int) := K.filter fun s => !(K.any (partB s))
theorem greatest_s {n : Int} {xs : List Str} {rs : List Rv} (h : OkC n xs rs) {Q : EV → Ro → Prop} {X : EQ} (k : ∀ s r, Q (.own ((gst (stgs n rs)).map tuI)) (s :: r)) : Wp (m_greatest_stages [.val (crT xs rs)]) Q X := by
  have l64 := stgs_len (rs := rs) h.n0 h.n1
  have hC : ((stgs n rs).map tuI).length ≤ 64 := by rw [List.length_map]; exact l64
  unfold m_greatest_stages
  walk_at "go"
  refine stages_s h fun _ _ => ?_
  walk_at "go"
  refine wp_lcp tuI (stgs n rs) (fun s => !((stgs n rs).any (partB s))) tuI (fun t ht => ⟨_, rfl, ?_⟩) ?_
  · have htl := stgs_item h.n0 h.n1 ht
    walk_at "go"
    refine wp_lcm tuI (stgs n rs) (fun g => T.bl (partB t g)) (fun g hg => ⟨_, rfl, ?_⟩) ?_
    · walk_at "go"
      refine ispart_s (by omega) fun _ _ _ => ?_
      walk_at "go"
    rw [List.nil_append, show ((stgs n rs).map fun g => T.bl (partB t g)) = ((stgs n rs).map (partB t)).map T.bl by rw [List.map_map]; rfl]
    walk_at "go"
    rw [List.any_map]
    rfl
  · rw [List.nil_append]
    walk_at "go"
    exact k _ _
end Q

set_option Elab.async false
set_option linter.all false
set_option maxRecDepth 100000
set_option maxHeartbeats 4000000
namespace Q
open PySem L2 PySem.Spec VI
set_option hygiene false
local macro_rules | `(tactic| walk_at "go") => `(tactic| repeat (first | with_reducible refine seqW fun Kz kz1 kz2 kz3 kz4 => ?_ | (with_reducible refine kz1 _ ?_; clear kz1 kz2 kz3 kz4 Kz) | (with_reducible refine kz2 _ _ ?_; clear kz1 kz2 kz3 kz4 Kz) | (with_reducible refine kz3 _ ?_; clear kz1 kz2 kz3 kz4 Kz) | (with_reducible refine kz4 _ ?_; clear kz1 kz2 kz3 kz4 Kz) | walk_at "vw"))
set_option hygiene true
local macro_rules | `(tactic| walk_at "vw") => `(tactic| simp (disch := first | assumption | omega | (simp only [List.length_cons, List.length_nil, List.length_map, List.length_append, List.length_take, List.length_drop, List.length_set, List.length_replicate, List.length_range, len_rangeT, len_rng]; omega) | decide) only [↓Wp_cong, ↓Wp_ok, ↓Wp_ex, ↓Wp_bad, ↓Wp_bind, ↓Wp_tt, ↓Wp_ff, ↓Wp_dec, ↓Wp_notb, ↓Wp_not, ↓Wp_out, ↓Wp_e1, ↓Wp_e2, ↓Wp_eN, ↓Wp_eC, ↓Wp_aNil, ↓Wp_aCons, ↓Wp_aStar, ↓Wp_eTup, ↓Wp_eLst, ↓Wp_tOf, ↓Wp_tTrue, ↓Wp_tNot, ↓Wp_tAnd, ↓Wp_tOr, ↓Wp_eAnd, ↓Wp_eOr, ↓Wp_eNot, ↓Wp_eIf, ↓Wp_eFrz, ↓Wp_eChain, ↓Wp_sNx, ↓Wp_sBk, ↓Wp_sExpr, ↓Wp_sIf, ↓Wp_sRet, ↓Wp_sSet, ↓Wp_sAsg, ↓Wp_sFor, ↓Wp_sRaise, ↓Wp_sRaiseN, ↓Wp_sRaiseT, ↓Wp_sSub, ↓Wp_sAug, ↓Wp_runF, ↓Wp_eBmM, ↓Wp_eCall, ↓Wp_eOwn2, ↓Wp_eOwnI, ↓Wp_eOwn1, ↓Wp_eOwnIn, ↓Wp_eMeth, ↓Wp_eLenI, ↓Wp_eBlI, ↓Wp_eMake, ↓Wp_eCallO, ↓Wp_eCallO1, ↓Wp_eListOwn, ↓Wp_iAny, ↓Wp_iOwn, ↓Wp_iRange1, ↓Wp_iRange2, ↓Wp_iEnumL, ↓Wp_eLc, ↓Wp_eLc2, ↓Wp_vSc, ↓Wp_eSortedV, ↓Wp_vSet, ↓Wp_eSl, ↓Wp_oNone, ↓Wp_oSome, ↓Wp_eFld, ↓Wp_eIsi, ↓Wp_sFld, ↓Wp_eIsx, ↓Wp_sTryOnly, ↓Wp_sTryAs, ↓Wp_noX, ↓Wp_eIsq, ↓Wp_eXf, ↓Wp_eChain3, ↓Wp_sDcNew, ↓Wp_tDcIn, ↓Wp_sDcSet, ↓Wp_eDcGet, ↓Wp_sFz, ↓Wp_aDfl, ↓Wp_eWk, ↓Wp_eTf, ↓Wp_idxT, ↓Wp_cntT, ↓Wp_eCnt, ↓Wp_eIdx, ↓Wp_iSg, ↓Wp_iEnA, ↓Wp_hndNil, ↓Wp_hndAs, ↓Wp_hndOnly, ↓Wp_sTryH, ↓Wp_eOwnR, ↓Wp_pos, ↓Wp_neg, outK_v, outK_l, outK_u, e1K_some, e2K_some, eNK_some, optTK_some, derefs_nil, consO_some, derefs_cons, deref_val, deref_own, grounds_nil, grounds_val, grounds_own, grounds_vals, ground1_val, ground1_own, tupK_t, tupK_l, tK_bl, blK_bl, frzK_own, frzK_val, chB_some, chK_some, blOf_v, sqK_nx, sqK_rt, sqK_bk, sqK_ct, retK_val, retK_own, asgK_some, asgG_some, rsK_some, rtK_tup, ltK_some, subK_some, augK_some, augS_some, runK_rt, runK_nx, bmK_append, bmK_clear, bmK_reverse, er_map, bmK_index, bmK_popAt, bmK_insert, kE_val, kE_own, kF_some, kR_ev, kX_ev, callA_some, argSl_nil, consS_some, argSl_cons, argS_val, argS_own, backs_nil, backs_v, backs_ioV, backs_ioO, ownK_some, own2K_some, ownIK_some, inK_bl, inK_nb, methK_ins, methK_01, lenK_int, bliK_bl, rawK_some, mkK_non, mkX_ev, tkK_val, tkK_own, coK_own, co1K_own, co0K_val, lnK_int, heldK_some, itK_some, still_val, still_own, itemsT_lst, itemsT_tup, itemsT_sq, rgK_1, rgK_2, isR1_ok, isR2_ok, enK_some, plK_ok, plK_tt, lnP_ok, svK_ok, vsK_some, cutK_some, oiK_int, fldK_some, tryX_ev, trK_t, trK_f, isyK_ok, isxK_exn, isqK_exn, optK_some, xfK_exn, ch3K_some, fzK_nx, fzK_rt, frzSl_own, frzSl_val, frzSl_odc, dcInK_some, dcSetK_some, dcPutK_some, dcGetK_some, dcKeyK_some, keyOf_two, wkV_lst, wkV_tup, wkV_tf, wkV_sq, wkV_own, wkV_pk, tfK_lst, tfK_sq, ixB_ok, ctB_ok, ctA_ok, ixA_tf, ixA_lst, ixA_sq, idxL_ints, idxF_ints, sgK_some, enA_l, enA_t, hdK_t, hdK_f, hndX_ev, ownRK_some, ↓Wp_eVar, k_varV, k_varO, k_varI, k_varR, k_varP, ↓Wp_eVarF, k_vafV, k_vafO, k_setV, k_setO, k_der, k_derV, k_derO, k_derI, k_derR, k_derP, k_argV, k_argI, k_agvO, k_agvI, k_agvR, k_agvP, k_agvV, k_agiO, k_agiI, k_agiR, k_lat, k_lsO, k_lsI, k_put, k_ptO, k_ptI, k_stl, k_stP, k_bk, k_bkO, k_bkI, k_bkR, k_gNm, o_addI, o_addL, o_addT, o_pow6, o_pow5, o_sub, o_mul, o_mulL, o_fdiv, o_mod, o_neg, o_lt, o_le, o_gt, o_ge, o_abs, o_int, o_intB, o_min, o_max, o_lenL, o_lenT, o_lenQ, o_lenS, o_inS, o_notInS, o_listL, o_listT, o_listQ, o_tupL, o_tupQ, o_tupT, o_boolT, o_boolL, o_rev, o_revT, o_rg1, o_rg2, o_sum, o_maxL, o_minL, o_any, o_all, o_minT3, o_sortedP, o_sorted, o_gcd, o_cutLo, o_cutHi, o_cutHiT, o_cutLoT, o_tkMap, o_drMap, o_inLs, o_inTs, o_ixL, o_ixT, o_ixQ, o_ixLn, o_ixTn, o_ixL0, o_ixL1, o_ixL2, o_ixL3, o_ixT0, o_ixT1, o_ixT2, o_ixT3, o_ixR, o_ixRT, eqD_int, neD_int, eqD_bl, neD_bl, eqD_li, neD_li, eqD_tu, opIn_li, opIn_tu, opNotIn_li, opNotIn_tu, neD_lb, pow_10_18, pow_10_9, blOf_v, plain_no, mark1, mark1', plain_val, q_tf, q_ft, nth_0, nth_1, nth_2, nth_3, nth_map, nth_rng, mk_set, mk_zero, eqD_str, neD_str, rangeT_rng, T.isD, okIx, ioIx, pnIx, bIsi, kIs, kindOf, kInt, kBool, kStr, VI.kTup, VI.kLst, kNo, isNo, notNo, isCo, notCo, opIsN, isN, isB, gnd, ground1, putKs, putTs, fget, fldG, heldT, wipeR, backR, plainAt, gTp, gsCons, gsNil, clsO, Nat.reduceBEq, beq_self_eq_true, Nat.reduceEqDiff, Int.reduceAdd, Int.reduceSub, Int.reduceMul, Int.reduceEq, Int.reduceNe, decide_true, decide_false, decide_not, decide_eq_true_eq, Option.bind_some, Option.bind_none, implies_true, forall_const, Option.map_some, Option.map_none, List.cons_append, List.nil_append, List.replicate_succ, List.replicate_zero, List.getElem?_cons_zero, List.getElem?_cons_succ, List.getElem?_nil, List.set_cons_zero, List.set_cons_succ, List.length_cons, List.length_nil, List.map_cons, List.map_nil, List.take_succ_cons, List.take_zero, List.length_map, List.getD_cons_zero, List.getD_cons_succ, List.nodup_nil, List.nodup_cons, List.not_mem_nil, not_false_eq_true, not_true_eq_false, and_self, and_true, true_and, and_false, false_and, List.all_nil, List.all_cons, List.contains_nil, List.contains_cons, Bool.and_true, Bool.true_and, Bool.and_false, Bool.false_and, Bool.and_self, Bool.or_false, Bool.false_or, Bool.or_true, Bool.true_or, Bool.false_eq_true, Bool.true_eq_false, if_true, if_false, ite_true, ite_false, Bool.not_true, Bool.not_false, Bool.not_not, reduceIte, reduceCtorEq, Nat.reduceAdd, Nat.reduceLT, Nat.reduceLeDiff, Int.reduceLT, Int.reduceLE, Int.reduceToNat, Int.reduceNeg, Int.cast_ofNat_Int, Bool.decide_eq_true, List.reverse_cons, List.reverse_nil, List.append_assoc, List.lookup_cons, List.lookup_nil])
/-! ### the crowds, counted -/
theorem asc_nd {t : List Int} (h : t.Pairwise (· < ·)) : t.Nodup := h.imp fun h => by omega
theorem mem_prL {t : List Int} (h : t.Pairwise (· < ·)) {p : Int × Int} : p ∈ prL t ↔ p.1 ∈ t ∧ p.2 ∈ t ∧ p.1 < p.2 := by
  induction t with
  | nil => simp [prL]
  | cons x t ih =>
    obtain ⟨h1, h2⟩ := List.pairwise_cons.mp h
    rw [prL, List.mem_append, List.mem_map, ih h2]
    simp only [List.mem_cons]
    constructor
    · rintro (⟨y, hy, rfl⟩ | ⟨a, b, c⟩)
      · exact ⟨.inl rfl, .inr hy, h1 y hy⟩
      · exact ⟨.inr a, .inr b, c⟩
    · rintro ⟨a | a, b | b, c⟩
      · omega
      · exact .inl ⟨p.2, b, by rw [← a]⟩
      · have := h1 _ a; omega
      · exact .inr ⟨a, b, c⟩
theorem prL_nd {t : List Int} (h : t.Nodup) : (prL t).Nodup := by
  induction t with
  | nil => simp [prL]
  | cons x t ih =>
    obtain ⟨h1, h2⟩ := List.nodup_cons.mp h
    rw [prL, List.nodup_append]
    refine ⟨?_, ih h2, fun a ha b hb e => ?_⟩
    · unfold List.Nodup at h2 ⊢
      rw [List.pairwise_map]
      exact h2.imp fun hne e => hne (congrArg Prod.snd e)
    · obtain ⟨y, hy, rfl⟩ := List.mem_map.mp ha
      subst e
      have : ∀ t : List Int, ∀ p ∈ prL t, p.1 ∈ t := fun t => by
        induction t with
        | nil => intro p hp; simp [prL] at hp
        | cons z t ih =>
          intro p hp
          rw [prL, List.mem_append, List.mem_map] at hp
          rcases hp with ⟨w, hw, rfl⟩ | hp
          · simp
          · exact List.mem_cons_of_mem _ (ih p hp)
      exact h1 (this t _ hb)
def ordR (r : Rv) : Int × Int := if r.a < r.b then (r.a, r.b) else (r.b, r.a)
theorem ordR_meets {r : Rv} (hn : r.a ≠ r.b) {p : Int × Int} (hp : p.1 < p.2) : ordR r = p ↔ Meets r p.1 p.2 := by
  obtain ⟨x, y⟩ := p
  simp only at hp
  unfold ordR Meets
  by_cases c : r.a < r.b
  · rw [if_pos c, Prod.mk.injEq]; simp only; omega
  · rw [if_neg c, Prod.mk.injEq]; simp only; omega
theorem ordR_lt {r : Rv} (hn : r.a ≠ r.b) : (ordR r).1 < (ordR r).2 := by
  unfold ordR; split <;> simp only <;> omega
theorem span_some {rs : List Rv} {x y : Int} : (spanO rs x y).isSome = true ↔ ∃ r ∈ rs, Meets r x y := by
  rw [Option.isSome_iff_ne_none, ne_eq, spanO_none]
  constructor
  · intro h
    refine Classical.byContradiction fun z => h fun r hr m => z ⟨r, hr, m⟩
  · rintro ⟨r, hr, m⟩ h; exact h r hr m
theorem ins_count {n : Int} {rs : List Rv} {g : List Int} (ho : ∀ r ∈ rs, OkRv n r) (ha : Apart rs) (hg : g.Pairwise (· < ·)) : (insN rs g).length = ((prL g).filter fun p => (spanO rs p.1 p.2).isSome).length := by
  have nA : ((insN rs g).map ordR).Nodup := by
    unfold List.Nodup
    rw [List.pairwise_map]
    have h1 : (insN rs g).Pairwise fun r s => ¬ Meets r s.a s.b := by
      unfold Apart at ha; exact ha.filter _
    refine h1.imp_of_mem fun {r s} hr hs nm e => nm ?_
    have hrs := (List.mem_filter.mp hr).1
    have hss := (List.mem_filter.mp hs).1
    have h2 := (ordR_meets (ho r hrs).ne (ordR_lt (ho s hss).ne)).mp e
    unfold Meets at h2 ⊢
    unfold ordR at h2
    split at h2 <;> simp only at h2 <;> omega
  have nB : ((prL g).filter fun p => (spanO rs p.1 p.2).isSome).Nodup := (prL_nd (asc_nd hg)).filter _
  have mem : ∀ p : Int × Int, p ∈ (insN rs g).map ordR ↔ p ∈ (prL g).filter fun p => (spanO rs p.1 p.2).isSome := fun p => by
    rw [List.mem_map, List.mem_filter, mem_prL hg, span_some]
    constructor
    · rintro ⟨r, hr, rfl⟩
      obtain ⟨hrs, hin⟩ := List.mem_filter.mp hr
      simp only [Bool.and_eq_true, decide_eq_true_eq] at hin
      have hlt := ordR_lt (ho r hrs).ne
      refine ⟨⟨?_, ?_, hlt⟩, r, hrs, (ordR_meets (ho r hrs).ne hlt).mp rfl⟩
      · unfold ordR; split
        · exact hin.1
        · exact hin.2
      · unfold ordR; split
        · exact hin.2
        · exact hin.1
    · rintro ⟨⟨h1, h2, h3⟩, r, hr, m⟩
      refine ⟨r, List.mem_filter.mpr ⟨hr, ?_⟩, (ordR_meets (ho r hr).ne h3).mpr m⟩
      simp only [Bool.and_eq_true, decide_eq_true_eq]
      rcases m with ⟨m1, m2⟩ | ⟨m1, m2⟩
      · exact ⟨m1 ▸ h1, m2 ▸ h2⟩
      · exact ⟨m2 ▸ h2, m1 ▸ h1⟩
  have l1 := List.Nodup.length_le_of_subset nA fun p hp => (mem p).mp hp
  have l2 := List.Nodup.length_le_of_subset nB fun p hp => (mem p).mpr hp
  rw [List.length_map] at l1 l2
  omega
theorem crowd_iff {n : Int} {rs : List Rv} {g : List Int} (ho : ∀ r ∈ rs, OkRv n r) (ha : Apart rs) (hs : g.Sublist (rng n)) : CrowdP n rs g ↔ crF rs g = true := by
  have hasc : g.Pairwise (· < ·) := (rng_asc n).sublist hs
  have hin : InR n g := ⟨fun x hx => mem_rng.mp (hs.subset hx), asc_nd hasc⟩
  have hc := ins_count ho ha hasc
  have hl := prL_len g
  unfold CrowdP crF
  rw [← prL_all (R := fun x y => spanO rs x y ≠ none), Bool.and_eq_true, decide_eq_true_eq, decide_eq_true_eq, hc, ← hl]
  have hf : ((prL g).filter fun p => (spanO rs p.1 p.2).isSome).length = (prL g).length ↔ ∀ p ∈ prL g, (spanO rs p.1 p.2).isSome = true := List.length_filter_eq_length_iff
  constructor
  · rintro ⟨h1, _, h3⟩
    refine ⟨List.length_pos_iff.mpr h1, ?_⟩
    rw [hf.mpr fun p hp => Option.isSome_iff_ne_none.mpr (h3 p hp)]
  · rintro ⟨h1, h2⟩
    exact ⟨List.length_pos_iff.mp h1, hin, fun p hp => Option.isSome_iff_ne_none.mp (hf.mp (by omega) p hp)⟩
def crds (n : Int) (rs : List Rv) : List (List Int) := (chs (rng n)).filter (crF rs)
def lns (xs : List (List Int)) : List Int := xs.map fun x => (x.length : Int)
def grc (n : Int) (rs : List Rv) : List Int := mnX ((crds n rs).filter fun t => decide ((t.length : Int) = maxI (lns (crds n rs))))
theorem crds_ne {n : Int} {rs : List Rv} (n0 : 1 ≤ n) (ho : ∀ r ∈ rs, OkRv n r) (ha : Apart rs) : crds n rs ≠ [] := by
  have hs : [(0 : Int)].Sublist (rng n) := List.singleton_sublist.mpr (mem_rng.mpr (by omega))
  have : [(0 : Int)] ∈ crds n rs := by
    unfold crds
    rw [List.mem_filter, mem_chs]
    refine ⟨hs, (crowd_iff ho ha hs).mp ⟨by simp, ⟨fun x hx => ?_, by simp⟩, by simp⟩⟩
    rw [List.mem_singleton] at hx; omega
  intro e; rw [e] at this; simp at this
theorem fin_ne {n : Int} {rs : List Rv} (h : crds n rs ≠ []) : ((crds n rs).filter fun t => decide ((t.length : Int) = maxI (lns (crds n rs)))) ≠ [] := by
  have hl : lns (crds n rs) ≠ [] := by unfold lns; simpa using h
  obtain ⟨t, ht, e⟩ := List.mem_map.mp (maxI_mem hl).1
  exact List.ne_nil_of_mem (List.mem_filter.mpr ⟨ht, by simpa using e⟩)
theorem lns_T (xs : List (List Int)) : (xs.map fun x => T.int (x.length : Int)) = (lns xs).map T.int := by unfold lns; rw [List.map_map]; rfl
theorem crowd_s {n : Int} {xs : List Str} {rs : List Rv} (h : OkC n xs rs) {Q : EV → Ro → Prop} {X : EQ} (k : ∀ s r, Q (.val (tuI (grc n rs))) (s :: r)) : Wp (m_greatest_crowd [.val (crT xs rs)]) Q X := by
  have n0 := h.n0
  have n1 := h.n1
  obtain ⟨c64, c6⟩ := chs6 n0 n1
  have hC : ((chs (rng n)).map tuI).length ≤ 64 := by rw [List.length_map]; exact c64
  have hne := crds_ne n0 h.ho h.ha
  have hfne := fin_ne hne
  have hcl : (crds n rs).length ≤ 64 := Nat.le_trans (List.length_filter_le _ _) c64
  have hCl : ((crds n rs).map tuI).length ≤ 64 := by rw [List.length_map]; exact hcl
  have hlne : lns (crds n rs) ≠ [] := by unfold lns; simpa using hne
  have itm : ∀ t ∈ crds n rs, t.length ≤ 6 := fun t ht => c6 t (List.mem_filter.mp ht).1
  unfold m_greatest_crowd
  walk_at "go"
  refine lenC_s h.hn fun _ _ => ?_
  walk_at "go"
  refine choices_s (by rw [len_rng]; omega) fun _ _ => ?_
  walk_at "go"
  refine wp_lcp tuI (chs (rng n)) (crF rs) tuI (fun t ht => ⟨_, rfl, ?_⟩) ?_
  · have htl := c6 t ht
    unfold tuI
    walk_at "go"
    refine iscrowd_s h (by omega) (.inr rfl) fun b hb _ _ _ => ?_
    have e : b = crF rs t := by
      rw [Bool.eq_iff_iff, hb]
      exact crowd_iff h.ho h.ha ((mem_chs _ _).mp ht)
    walk_at "go"
    exact e
  rw [List.nil_append, show (chs (rng n)).filter (crF rs) = crds n rs from rfl]
  walk_at "go"
  refine wp_lcm tuI (crds n rs) (fun t => T.int (t.length : Int)) (fun t ht => ⟨_, rfl, ?_⟩) ?_
  · unfold tuI
    walk_at "go"
  rw [List.nil_append, lns_T]
  walk_at "go"
  obtain ⟨m, hm⟩ : ∃ m, m = maxI (lns (crds n rs)) := ⟨_, rfl⟩
  rw [← hm]
  refine wp_lcp tuI (crds n rs) (fun t => decide ((t.length : Int) = m)) tuI (fun t ht => ⟨_, rfl, ?_⟩) ?_
  · unfold tuI
    walk_at "go"
  rw [List.nil_append, hm]
  walk_at "go"
  rw [o_mnX hfne]
  walk_at "go"
  exact k _ _
end Q

set_option Elab.async false
set_option linter.all false
set_option maxRecDepth 100000
set_option maxHeartbeats 4000000
namespace Q
open PySem L2 PySem.Spec VI
set_option hygiene false
local macro_rules | `(tactic| walk_at "go") => `(tactic| repeat (first | with_reducible refine seqW fun Kz kz1 kz2 kz3 kz4 => ?_ | (with_reducible refine kz1 _ ?_; clear kz1 kz2 kz3 kz4 Kz) | (with_reducible refine kz2 _ _ ?_; clear kz1 kz2 kz3 kz4 Kz) | (with_reducible refine kz3 _ ?_; clear kz1 kz2 kz3 kz4 Kz) | (with_reducible refine kz4 _ ?_; clear kz1 kz2 kz3 kz4 Kz) | walk_at "vw"))
set_option hygiene true
local macro_rules | `(tactic| walk_at "vw") => `(tactic| simp (disch := first | assumption | omega | (simp only [List.length_cons, List.length_nil, List.length_map, List.length_append, List.length_take, List.length_drop, List.length_set, List.length_replicate, List.length_range, len_rangeT, len_rng]; omega) | decide) only [↓Wp_cong, ↓Wp_ok, ↓Wp_ex, ↓Wp_bad, ↓Wp_bind, ↓Wp_tt, ↓Wp_ff, ↓Wp_dec, ↓Wp_notb, ↓Wp_not, ↓Wp_out, ↓Wp_e1, ↓Wp_e2, ↓Wp_eN, ↓Wp_eC, ↓Wp_aNil, ↓Wp_aCons, ↓Wp_aStar, ↓Wp_eTup, ↓Wp_eLst, ↓Wp_tOf, ↓Wp_tTrue, ↓Wp_tNot, ↓Wp_tAnd, ↓Wp_tOr, ↓Wp_eAnd, ↓Wp_eOr, ↓Wp_eNot, ↓Wp_eIf, ↓Wp_eFrz, ↓Wp_eChain, ↓Wp_sNx, ↓Wp_sBk, ↓Wp_sExpr, ↓Wp_sIf, ↓Wp_sRet, ↓Wp_sSet, ↓Wp_sAsg, ↓Wp_sFor, ↓Wp_sRaise, ↓Wp_sRaiseN, ↓Wp_sRaiseT, ↓Wp_sSub, ↓Wp_sAug, ↓Wp_runF, ↓Wp_eBmM, ↓Wp_eCall, ↓Wp_eOwn2, ↓Wp_eOwnI, ↓Wp_eOwn1, ↓Wp_eOwnIn, ↓Wp_eMeth, ↓Wp_eLenI, ↓Wp_eBlI, ↓Wp_eMake, ↓Wp_eCallO, ↓Wp_eCallO1, ↓Wp_eListOwn, ↓Wp_iAny, ↓Wp_iOwn, ↓Wp_iRange1, ↓Wp_iRange2, ↓Wp_iEnumL, ↓Wp_eLc, ↓Wp_eLc2, ↓Wp_vSc, ↓Wp_eSortedV, ↓Wp_vSet, ↓Wp_eSl, ↓Wp_oNone, ↓Wp_oSome, ↓Wp_eFld, ↓Wp_eIsi, ↓Wp_sFld, ↓Wp_eIsx, ↓Wp_sTryOnly, ↓Wp_sTryAs, ↓Wp_noX, ↓Wp_eIsq, ↓Wp_eXf, ↓Wp_eChain3, ↓Wp_sDcNew, ↓Wp_tDcIn, ↓Wp_sDcSet, ↓Wp_eDcGet, ↓Wp_sFz, ↓Wp_aDfl, ↓Wp_eWk, ↓Wp_eTf, ↓Wp_idxT, ↓Wp_cntT, ↓Wp_eCnt, ↓Wp_eIdx, ↓Wp_iSg, ↓Wp_iEnA, ↓Wp_hndNil, ↓Wp_hndAs, ↓Wp_hndOnly, ↓Wp_sTryH, ↓Wp_eOwnR, ↓Wp_pos, ↓Wp_neg, outK_v, outK_l, outK_u, e1K_some, e2K_some, eNK_some, optTK_some, derefs_nil, consO_some, derefs_cons, deref_val, deref_own, grounds_nil, grounds_val, grounds_own, grounds_vals, ground1_val, ground1_own, tupK_t, tupK_l, tK_bl, blK_bl, frzK_own, frzK_val, chB_some, chK_some, blOf_v, sqK_nx, sqK_rt, sqK_bk, sqK_ct, retK_val, retK_own, asgK_some, asgG_some, rsK_some, rtK_tup, ltK_some, subK_some, augK_some, augS_some, runK_rt, runK_nx, bmK_append, bmK_clear, bmK_reverse, er_map, bmK_index, bmK_popAt, bmK_insert, kE_val, kE_own, kF_some, kR_ev, kX_ev, callA_some, argSl_nil, consS_some, argSl_cons, argS_val, argS_own, backs_nil, backs_v, backs_ioV, backs_ioO, ownK_some, own2K_some, ownIK_some, inK_bl, inK_nb, methK_ins, methK_01, lenK_int, bliK_bl, rawK_some, mkK_non, mkX_ev, tkK_val, tkK_own, coK_own, co1K_own, co0K_val, lnK_int, heldK_some, itK_some, still_val, still_own, itemsT_lst, itemsT_tup, itemsT_sq, rgK_1, rgK_2, isR1_ok, isR2_ok, enK_some, plK_ok, plK_tt, lnP_ok, svK_ok, vsK_some, cutK_some, oiK_int, fldK_some, tryX_ev, trK_t, trK_f, isyK_ok, isxK_exn, isqK_exn, optK_some, xfK_exn, ch3K_some, fzK_nx, fzK_rt, frzSl_own, frzSl_val, frzSl_odc, dcInK_some, dcSetK_some, dcPutK_some, dcGetK_some, dcKeyK_some, keyOf_two, wkV_lst, wkV_tup, wkV_tf, wkV_sq, wkV_own, wkV_pk, tfK_lst, tfK_sq, ixB_ok, ctB_ok, ctA_ok, ixA_tf, ixA_lst, ixA_sq, idxL_ints, idxF_ints, sgK_some, enA_l, enA_t, hdK_t, hdK_f, hndX_ev, ownRK_some, ↓Wp_eVar, k_varV, k_varO, k_varI, k_varR, k_varP, ↓Wp_eVarF, k_vafV, k_vafO, k_setV, k_setO, k_der, k_derV, k_derO, k_derI, k_derR, k_derP, k_argV, k_argI, k_agvO, k_agvI, k_agvR, k_agvP, k_agvV, k_agiO, k_agiI, k_agiR, k_lat, k_lsO, k_lsI, k_put, k_ptO, k_ptI, k_stl, k_stP, k_bk, k_bkO, k_bkI, k_bkR, k_gNm, o_addI, o_addL, o_addT, o_pow6, o_pow5, o_sub, o_mul, o_mulL, o_fdiv, o_mod, o_neg, o_lt, o_le, o_gt, o_ge, o_abs, o_int, o_intB, o_min, o_max, o_lenL, o_lenT, o_lenQ, o_lenS, o_inS, o_notInS, o_listL, o_listT, o_listQ, o_tupL, o_tupQ, o_tupT, o_boolT, o_boolL, o_rev, o_revT, o_rg1, o_rg2, o_sum, o_maxL, o_minL, o_any, o_all, o_minT3, o_sortedP, o_sorted, o_gcd, o_cutLo, o_cutHi, o_cutHiT, o_cutLoT, o_tkMap, o_drMap, o_inLs, o_inTs, o_ixL, o_ixT, o_ixQ, o_ixLn, o_ixTn, o_ixL0, o_ixL1, o_ixL2, o_ixL3, o_ixT0, o_ixT1, o_ixT2, o_ixT3, o_ixR, o_ixRT, eqD_int, neD_int, eqD_bl, neD_bl, eqD_li, neD_li, eqD_tu, opIn_li, opIn_tu, opNotIn_li, opNotIn_tu, neD_lb, pow_10_18, pow_10_9, blOf_v, plain_no, mark1, mark1', plain_val, q_tf, q_ft, nth_0, nth_1, nth_2, nth_3, nth_map, nth_rng, mk_set, mk_zero, eqD_str, neD_str, rangeT_rng, T.isD, okIx, ioIx, pnIx, bIsi, kIs, kindOf, kInt, kBool, kStr, VI.kTup, VI.kLst, kNo, isNo, notNo, isCo, notCo, opIsN, isN, isB, gnd, ground1, putKs, putTs, fget, fldG, heldT, wipeR, backR, plainAt, gTp, gsCons, gsNil, clsO, Nat.reduceBEq, beq_self_eq_true, Nat.reduceEqDiff, Int.reduceAdd, Int.reduceSub, Int.reduceMul, Int.reduceEq, Int.reduceNe, decide_true, decide_false, decide_not, decide_eq_true_eq, Option.bind_some, Option.bind_none, implies_true, forall_const, Option.map_some, Option.map_none, List.cons_append, List.nil_append, List.replicate_succ, List.replicate_zero, List.getElem?_cons_zero, List.getElem?_cons_succ, List.getElem?_nil, List.set_cons_zero, List.set_cons_succ, List.length_cons, List.length_nil, List.map_cons, List.map_nil, List.take_succ_cons, List.take_zero, List.length_map, List.getD_cons_zero, List.getD_cons_succ, List.nodup_nil, List.nodup_cons, List.not_mem_nil, not_false_eq_true, not_true_eq_false, and_self, and_true, true_and, and_false, false_and, List.all_nil, List.all_cons, List.contains_nil, List.contains_cons, Bool.and_true, Bool.true_and, Bool.and_false, Bool.false_and, Bool.and_self, Bool.or_false, Bool.false_or, Bool.or_true, Bool.true_or, Bool.false_eq_true, Bool.true_eq_false, if_true, if_false, ite_true, ite_false, Bool.not_true, Bool.not_false, Bool.not_not, reduceIte, reduceCtorEq, Nat.reduceAdd, Nat.reduceLT, Nat.reduceLeDiff, Int.reduceLT, Int.reduceLE, Int.reduceToNat, Int.reduceNeg, Int.cast_ofNat_Int, Bool.decide_eq_true, List.reverse_cons, List.reverse_nil, List.append_assoc, List.lookup_cons, List.lookup_nil])
/-! ### the greatest stages -/
theorem ins0 {rs : List Rv} {g : List Int} : (insN rs g).length = 0 ↔ ∀ r ∈ rs, ¬ (r.a ∈ g ∧ r.b ∈ g) := by
  rw [List.length_eq_zero_iff]
  unfold insN
  rw [List.filter_eq_nil_iff]
  simp only [Bool.and_eq_true, decide_eq_true_eq]
theorem ins_mono {rs : List Rv} {g u : List Int} (h : ∀ x ∈ u, x ∈ g) (h0 : (insN rs g).length = 0) : (insN rs u).length = 0 :=
  ins0.mpr fun r hr m => ins0.mp h0 r hr ⟨h _ m.1, h _ m.2⟩
def ext (n : Int) (rs : List Rv) (t : List Int) : List Int := (rng n).filter fun s => decide (s ∉ t) && decide ((insN rs (t ++ [s])).length = 0)
theorem mem_ext {n : Int} {rs : List Rv} {t : List Int} {s : Int} : s ∈ ext n rs t ↔ s ∈ rng n ∧ s ∉ t ∧ (insN rs (t ++ [s])).length = 0 := by
  unfold ext
  rw [List.mem_filter, Bool.and_eq_true, decide_eq_true_eq, decide_eq_true_eq]
theorem part_iff {s g : List Int} : partB s g = true ↔ s.length < g.length ∧ ∀ x ∈ s, x ∈ g := by
  unfold partB
  rw [Bool.and_eq_true, decide_eq_true_eq, List.all_eq_true]
  simp only [decide_eq_true_eq]
theorem max_iff {n : Int} {rs : List Rv} {t : List Int} (ht : t ∈ stgs n rs) : (stgs n rs).any (partB t) = true ↔ ext n rs t ≠ [] := by
  obtain ⟨t1, t2, t3⟩ := mem_stgs.mp ht
  have tnd : t.Nodup := (nodup_rng n).sublist t1
  rw [List.any_eq_true]
  constructor
  · rintro ⟨g, hg, hp⟩
    obtain ⟨g1, g2, g3⟩ := mem_stgs.mp hg
    obtain ⟨hl, hsub⟩ := part_iff.mp hp
    have gnd : g.Nodup := (nodup_rng n).sublist g1
    have : ∃ s ∈ g, s ∉ t := Classical.byContradiction fun z => by
      have := List.Nodup.length_le_of_subset gnd (l₂ := t) fun s hs => Classical.byContradiction fun q => z ⟨s, hs, q⟩
      omega
    obtain ⟨s, hs, hst⟩ := this
    refine List.ne_nil_of_mem (mem_ext.mpr ⟨g1.subset hs, hst, ins_mono (fun x hx => ?_) g3⟩)
    rcases List.mem_append.mp hx with hx | hx
    · exact hsub x hx
    · rw [List.mem_singleton] at hx; subst hx; exact hs
  · intro h
    obtain ⟨s, hs⟩ := List.exists_mem_of_ne_nil _ h
    obtain ⟨s1, s2, s3⟩ := mem_ext.mp hs
    have mem : ∀ x, x ∈ (rng n).filter (fun x => decide (x ∈ t ++ [s])) ↔ x ∈ t ++ [s] := fun x => by
      rw [List.mem_filter, decide_eq_true_eq]
      constructor
      · exact fun h => h.2
      · intro h
        refine ⟨?_, h⟩
        rcases List.mem_append.mp h with h | h
        · exact t1.subset h
        · rw [List.mem_singleton] at h; subst h; exact s1
    have nd : (t ++ [s]).Nodup := by
      rw [List.nodup_append]
      refine ⟨tnd, by simp, fun a ha b hb e => ?_⟩
      rw [List.mem_singleton] at hb
      subst hb; subst e; exact s2 ha
    have le := List.Nodup.length_le_of_subset nd fun x hx => (mem x).mpr hx
    rw [List.length_append, List.length_singleton] at le
    refine ⟨(rng n).filter (fun x => decide (x ∈ t ++ [s])), mem_stgs.mpr ⟨List.filter_sublist, ?_, ins_mono (fun x hx => (mem x).mp hx) s3⟩, part_iff.mpr ⟨by omega, fun x hx => (mem x).mpr (by simp [hx])⟩⟩
    exact List.ne_nil_of_mem ((mem s).mpr (by simp))
def fullB (n : Int) (rs : List Rv) (t : List Int) : Bool := decide ((ext n rs t).length = 0)
theorem gst_eq (n : Int) (rs : List Rv) : gst (stgs n rs) = (stgs n rs).filter (fullB n rs) := by
  unfold gst
  refine List.filter_congr fun t ht => ?_
  unfold fullB
  have h := max_iff ht
  by_cases c : ext n rs t = []
  · have : (stgs n rs).any (partB t) = false := Bool.eq_false_iff.mpr fun z => h.mp z c
    rw [this, c]; rfl
  · rw [h.mpr c]
    have : (ext n rs t).length ≠ 0 := fun z => c (List.length_eq_zero_iff.mp z)
    simp [this]
theorem plain_sets {m : Nat} {L : List (List Int)} (h1 : L.length ≤ 1000) (h2 : ∀ t ∈ L, t.length ≤ 1000) : Plain (m + 3) (.lst (L.map tuI)) := .lst (by rw [List.length_map]; omega) fun t ht => by
  obtain ⟨x, hx, rfl⟩ := List.mem_map.mp ht
  refine .tup (by have := h2 x hx; rw [List.length_map]; omega) fun u hu => ?_
  obtain ⟨y, _, rfl⟩ := List.mem_map.mp hu
  exact .int
theorem plain_tu {m : Nat} {x : List Int} (h : x.length ≤ 1000) : Plain (m + 2) (tuI x) := .tup (by rw [List.length_map]; omega) fun u hu => by
  obtain ⟨y, _, rfl⟩ := List.mem_map.mp hu
  exact .int
theorem mnX_mem {L : List (List Int)} (h : L ≠ []) : mnX L ∈ L := by
  cases L with
  | nil => exact absurd rfl h
  | cons x r =>
    have go : ∀ (r : List (List Int)) (x : List Int), r.foldl (fun a y => if PySem.W.dataLt (pdI y) (pdI a) then y else a) x ∈ x :: r := fun r => by
      induction r with
      | nil => intro x; simp
      | cons y r ih =>
        intro x
        rw [List.foldl_cons]
        by_cases c : PySem.W.dataLt (pdI y) (pdI x) = true
        · rw [if_pos c]
          exact List.mem_cons_of_mem _ (ih y)
        · rw [if_neg c]
          rcases List.mem_cons.mp (ih x) with h | h
          · rw [h]; simp
          · exact List.mem_cons_of_mem _ (List.mem_cons_of_mem _ h)
    exact go r x
theorem grc_len {n : Int} {rs : List Rv} (n0 : 1 ≤ n) (n1 : n ≤ 6) (ho : ∀ r ∈ rs, OkRv n r) (ha : Apart rs) : (grc n rs).length ≤ 6 := by
  have h := mnX_mem (fin_ne (crds_ne n0 ho ha))
  exact (chs6 n0 n1).2 _ (List.mem_filter.mp (List.mem_filter.mp h).1).1
end Q

set_option Elab.async false
set_option linter.all false
set_option maxRecDepth 100000
set_option maxHeartbeats 4000000
namespace Q
open PySem L2 PySem.Spec VI
set_option hygiene false
local macro_rules | `(tactic| walk_at "go") => `(tactic| repeat (first | with_reducible refine seqW fun Kz kz1 kz2 kz3 kz4 => ?_ | (with_reducible refine kz1 _ ?_; clear kz1 kz2 kz3 kz4 Kz) | (with_reducible refine kz2 _ _ ?_; clear kz1 kz2 kz3 kz4 Kz) | (with_reducible refine kz3 _ ?_; clear kz1 kz2 kz3 kz4 Kz) | (with_reducible refine kz4 _ ?_; clear kz1 kz2 kz3 kz4 Kz) | walk_at "vw"))
set_option hygiene true
local macro_rules | `(tactic| walk_at "vw") => `(tactic| simp (disch := first | assumption | omega | (simp only [List.length_cons, List.length_nil, List.length_map, List.length_append, List.length_take, List.length_drop, List.length_set, List.length_replicate, List.length_range, len_rangeT, len_rng]; omega) | decide) only [↓Wp_cong, ↓Wp_ok, ↓Wp_ex, ↓Wp_bad, ↓Wp_bind, ↓Wp_tt, ↓Wp_ff, ↓Wp_dec, ↓Wp_notb, ↓Wp_not, ↓Wp_out, ↓Wp_e1, ↓Wp_e2, ↓Wp_eN, ↓Wp_eC, ↓Wp_aNil, ↓Wp_aCons, ↓Wp_aStar, ↓Wp_eTup, ↓Wp_eLst, ↓Wp_tOf, ↓Wp_tTrue, ↓Wp_tNot, ↓Wp_tAnd, ↓Wp_tOr, ↓Wp_eAnd, ↓Wp_eOr, ↓Wp_eNot, ↓Wp_eIf, ↓Wp_eFrz, ↓Wp_eChain, ↓Wp_sNx, ↓Wp_sBk, ↓Wp_sExpr, ↓Wp_sIf, ↓Wp_sRet, ↓Wp_sSet, ↓Wp_sAsg, ↓Wp_sFor, ↓Wp_sRaise, ↓Wp_sRaiseN, ↓Wp_sRaiseT, ↓Wp_sSub, ↓Wp_sAug, ↓Wp_runF, ↓Wp_eBmM, ↓Wp_eCall, ↓Wp_eOwn2, ↓Wp_eOwnI, ↓Wp_eOwn1, ↓Wp_eOwnIn, ↓Wp_eMeth, ↓Wp_eLenI, ↓Wp_eBlI, ↓Wp_eMake, ↓Wp_eCallO, ↓Wp_eCallO1, ↓Wp_eListOwn, ↓Wp_iAny, ↓Wp_iOwn, ↓Wp_iRange1, ↓Wp_iRange2, ↓Wp_iEnumL, ↓Wp_eLc, ↓Wp_eLc2, ↓Wp_vSc, ↓Wp_eSortedV, ↓Wp_vSet, ↓Wp_eSl, ↓Wp_oNone, ↓Wp_oSome, ↓Wp_eFld, ↓Wp_eIsi, ↓Wp_sFld, ↓Wp_eIsx, ↓Wp_sTryOnly, ↓Wp_sTryAs, ↓Wp_noX, ↓Wp_eIsq, ↓Wp_eXf, ↓Wp_eChain3, ↓Wp_sDcNew, ↓Wp_tDcIn, ↓Wp_sDcSet, ↓Wp_eDcGet, ↓Wp_sFz, ↓Wp_aDfl, ↓Wp_eWk, ↓Wp_eTf, ↓Wp_idxT, ↓Wp_cntT, ↓Wp_eCnt, ↓Wp_eIdx, ↓Wp_iSg, ↓Wp_iEnA, ↓Wp_hndNil, ↓Wp_hndAs, ↓Wp_hndOnly, ↓Wp_sTryH, ↓Wp_eOwnR, ↓Wp_pos, ↓Wp_neg, outK_v, outK_l, outK_u, e1K_some, e2K_some, eNK_some, optTK_some, derefs_nil, consO_some, derefs_cons, deref_val, deref_own, grounds_nil, grounds_val, grounds_own, grounds_vals, ground1_val, ground1_own, tupK_t, tupK_l, tK_bl, blK_bl, frzK_own, frzK_val, chB_some, chK_some, blOf_v, sqK_nx, sqK_rt, sqK_bk, sqK_ct, retK_val, retK_own, asgK_some, asgG_some, rsK_some, rtK_tup, ltK_some, subK_some, augK_some, augS_some, runK_rt, runK_nx, bmK_append, bmK_clear, bmK_reverse, er_map, bmK_index, bmK_popAt, bmK_insert, kE_val, kE_own, kF_some, kR_ev, kX_ev, callA_some, argSl_nil, consS_some, argSl_cons, argS_val, argS_own, backs_nil, backs_v, backs_ioV, backs_ioO, ownK_some, own2K_some, ownIK_some, inK_bl, inK_nb, methK_ins, methK_01, lenK_int, bliK_bl, rawK_some, mkK_non, mkX_ev, tkK_val, tkK_own, coK_own, co1K_own, co0K_val, lnK_int, heldK_some, itK_some, still_val, still_own, itemsT_lst, itemsT_tup, itemsT_sq, rgK_1, rgK_2, isR1_ok, isR2_ok, enK_some, plK_ok, plK_tt, lnP_ok, svK_ok, vsK_some, cutK_some, oiK_int, fldK_some, tryX_ev, trK_t, trK_f, isyK_ok, isxK_exn, isqK_exn, optK_some, xfK_exn, ch3K_some, fzK_nx, fzK_rt, frzSl_own, frzSl_val, frzSl_odc, dcInK_some, dcSetK_some, dcPutK_some, dcGetK_some, dcKeyK_some, keyOf_two, wkV_lst, wkV_tup, wkV_tf, wkV_sq, wkV_own, wkV_pk, tfK_lst, tfK_sq, ixB_ok, ctB_ok, ctA_ok, ixA_tf, ixA_lst, ixA_sq, idxL_ints, idxF_ints, sgK_some, enA_l, enA_t, hdK_t, hdK_f, hndX_ev, ownRK_some, ↓Wp_eVar, k_varV, k_varO, k_varI, k_varR, k_varP, ↓Wp_eVarF, k_vafV, k_vafO, k_setV, k_setO, k_der, k_derV, k_derO, k_derI, k_derR, k_derP, k_argV, k_argI, k_agvO, k_agvI, k_agvR, k_agvP, k_agvV, k_agiO, k_agiI, k_agiR, k_lat, k_lsO, k_lsI, k_put, k_ptO, k_ptI, k_stl, k_stP, k_bk, k_bkO, k_bkI, k_bkR, k_gNm, o_addI, o_addL, o_addT, o_pow6, o_pow5, o_sub, o_mul, o_mulL, o_fdiv, o_mod, o_neg, o_lt, o_le, o_gt, o_ge, o_abs, o_int, o_intB, o_min, o_max, o_lenL, o_lenT, o_lenQ, o_lenS, o_inS, o_notInS, o_listL, o_listT, o_listQ, o_tupL, o_tupQ, o_tupT, o_boolT, o_boolL, o_rev, o_revT, o_rg1, o_rg2, o_sum, o_maxL, o_minL, o_any, o_all, o_minT3, o_sortedP, o_sorted, o_gcd, o_cutLo, o_cutHi, o_cutHiT, o_cutLoT, o_tkMap, o_drMap, o_inLs, o_inTs, o_ixL, o_ixT, o_ixQ, o_ixLn, o_ixTn, o_ixL0, o_ixL1, o_ixL2, o_ixL3, o_ixT0, o_ixT1, o_ixT2, o_ixT3, o_ixR, o_ixRT, eqD_int, neD_int, eqD_bl, neD_bl, eqD_li, neD_li, eqD_tu, opIn_li, opIn_tu, opNotIn_li, opNotIn_tu, neD_lb, pow_10_18, pow_10_9, blOf_v, plain_no, mark1, mark1', plain_val, q_tf, q_ft, nth_0, nth_1, nth_2, nth_3, nth_map, nth_rng, mk_set, mk_zero, eqD_str, neD_str, rangeT_rng, T.isD, okIx, ioIx, pnIx, bIsi, kIs, kindOf, kInt, kBool, kStr, VI.kTup, VI.kLst, kNo, isNo, notNo, isCo, notCo, opIsN, isN, isB, gnd, ground1, putKs, putTs, fget, fldG, heldT, wipeR, backR, plainAt, gTp, gsCons, gsNil, clsO, Nat.reduceBEq, beq_self_eq_true, Nat.reduceEqDiff, Int.reduceAdd, Int.reduceSub, Int.reduceMul, Int.reduceEq, Int.reduceNe, decide_true, decide_false, decide_not, decide_eq_true_eq, Option.bind_some, Option.bind_none, implies_true, forall_const, Option.map_some, Option.map_none, List.cons_append, List.nil_append, List.replicate_succ, List.replicate_zero, List.getElem?_cons_zero, List.getElem?_cons_succ, List.getElem?_nil, List.set_cons_zero, List.set_cons_succ, List.length_cons, List.length_nil, List.map_cons, List.map_nil, List.take_succ_cons, List.take_zero, List.length_map, List.getD_cons_zero, List.getD_cons_succ, List.nodup_nil, List.nodup_cons, List.not_mem_nil, not_false_eq_true, not_true_eq_false, and_self, and_true, true_and, and_false, false_and, List.all_nil, List.all_cons, List.contains_nil, List.contains_cons, Bool.and_true, Bool.true_and, Bool.and_false, Bool.false_and, Bool.and_self, Bool.or_false, Bool.false_or, Bool.or_true, Bool.true_or, Bool.false_eq_true, Bool.true_eq_false, if_true, if_false, ite_true, ite_false, Bool.not_true, Bool.not_false, Bool.not_not, reduceIte, reduceCtorEq, Nat.reduceAdd, Nat.reduceLT, Nat.reduceLeDiff, Int.reduceLT, Int.reduceLE, Int.reduceToNat, Int.reduceNeg, Int.cast_ofNat_Int, Bool.decide_eq_true, List.reverse_cons, List.reverse_nil, List.append_assoc, List.lookup_cons, List.lookup_nil])
theorem listed_s {n : Int} {xs : List Str} {rs : List Rv} (h : OkC n xs rs) (hr : rs.length ≤ 100) {Q : EV → Ro → Prop} {X : EQ} (k : ∀ s s1 s2 r, Q (.val (.bl true)) (s :: s1 :: s2 :: r)) : Wp (m__law_listed [.val (crT xs rs), .val (.lst (rs.map rvT)), .val (.int n)]) Q X := by
  have n0 := h.n0
  have n1 := h.n1
  obtain ⟨c64, c6⟩ := chs6 n0 n1
  have hC : ((chs (rng n)).map tuI).length ≤ 64 := by rw [List.length_map]; exact c64
  have l64 := stgs_len (rs := rs) n0 n1
  have itS : ∀ t ∈ stgs n rs, t.length ≤ 6 := fun t ht => stgs_item n0 n1 ht
  have hS : ((stgs n rs).map tuI).length ≤ 64 := by rw [List.length_map]; exact l64
  have hSr : ((stgs n rs).map tuI).reverse.length ≤ 64 := by rw [List.length_reverse, List.length_map]; exact l64
  have f64 : ((stgs n rs).filter (fullB n rs)).length ≤ 64 := Nat.le_trans (List.length_filter_le _ _) l64
  have itF : ∀ t ∈ (stgs n rs).filter (fullB n rs), t.length ≤ 6 := fun t ht => itS t (List.mem_filter.mp ht).1
  have hF : (((stgs n rs).filter (fullB n rs)).map tuI).length ≤ 64 := by rw [List.length_map]; exact f64
  have pS : Plain 4 (.lst ((stgs n rs).map tuI)) := plain_sets (by omega) fun t ht => by have := itS t ht; omega
  have pF : Plain 4 (.lst (((stgs n rs).filter (fullB n rs)).map tuI)) := plain_sets (by omega) fun t ht => by have := itF t ht; omega
  have hne := crds_ne n0 h.ho h.ha
  have hfne := fin_ne hne
  have hcl : (crds n rs).length ≤ 64 := Nat.le_trans (List.length_filter_le _ _) c64
  have hCl : ((crds n rs).map tuI).length ≤ 64 := by rw [List.length_map]; exact hcl
  have hlne : lns (crds n rs) ≠ [] := by unfold lns; simpa using hne
  have itm : ∀ t ∈ crds n rs, t.length ≤ 6 := fun t ht => c6 t (List.mem_filter.mp ht).1
  have hG := grc_len n0 n1 h.ho h.ha
  have gtn : ∀ {Q : EV → Ro → Prop} {X : EQ}, (∀ s r, Q (.own (((stgs n rs).filter (fullB n rs)).map tuI)) (s :: r)) → Wp (m_greatest_stages [.val (crT xs rs)]) Q X := fun {Q X} kk => greatest_s h fun s r => by rw [gst_eq]; exact kk s r
  unfold m__law_listed
  walk_at "go"
  refine groups_s n0 n1 fun _ _ => ?_
  walk_at "go"
  refine wp_lcp tuI (chs (rng n)) (stF rs) tuI (fun t ht => ⟨_, rfl, ?_⟩) ?_
  · have htl := c6 t ht
    unfold tuI
    by_cases c : (0 : Int) < t.length
    · have e : stF rs t = decide (((insN rs t).length : Int) = 0) := by
        unfold stF
        have : 0 < t.length := by omega
        simp [this]
      rw [e]
      walk_at "go"
      refine inside_s hr (.inr rfl) fun _ _ _ => ?_
      walk_at "go"
    · have e : stF rs t = false := by
        unfold stF
        have : ¬ 0 < t.length := by omega
        simp [this]
      walk_at "go"
      rw [e]
  rw [List.nil_append]
  walk_at "go"
  rw [o_srtX fun x hx => by
    have := (List.mem_filter.mp hx).2
    unfold stF at this
    intro e; subst e; simp at this]
  rw [show srtX ((chs (rng n)).filter (stF rs)) = stgs n rs from rfl]
  walk_at "go"
  refine wp_for tuI (stgs n rs) (fun done _ ρ => ∃ s5, ρ = [.val (crT xs rs), .val (.lst (rs.map rvT)), .val (.int n), .val (.lst ((chs (rng n)).map tuI)), .val (.lst ((stgs n rs).map tuI)), s5, .own ((done.filter (fullB n rs)).map tuI), .no, .no, .no, .no] ∧ s5.plain = true) ⟨_, rfl, rfl⟩ ?_ ?_
  · rintro done t rest _ e ⟨s5, rfl, ps5⟩
    have ht : t ∈ stgs n rs := by rw [e]; simp
    have htl := itS t ht
    have hdl : done.length + (rest.length + 1) = (stgs n rs).length := by rw [e]; simp
    have hD : ((done.filter (fullB n rs)).map tuI).length ≤ 64 := by
      rw [List.length_map]
      have := List.length_filter_le (fullB n rs) done
      omega
    refine ⟨_, rfl, ?_⟩
    walk_at "go"
    refine wp_lcp T.int (rng n) (fun s => decide (s ∉ t) && decide ((insN rs (t ++ [s])).length = 0)) T.int (fun s hs => ⟨_, rfl, ?_⟩) ?_
    · unfold tuI
      by_cases c : s ∈ t
      · walk_at "go"
        simp [c]
      · have e : (decide (s ∉ t) && decide ((insN rs (t ++ [s])).length = 0)) = decide (((insN rs (t ++ [s])).length : Int) = 0) := by simp [c]
        rw [e]
        walk_at "go"
        rw [addTT (by rw [List.length_map]; simp; omega)]
        walk_at "go"
        refine inside_s (g := t ++ [s]) hr (.inr (by rw [List.map_append]; rfl)) fun _ _ _ => ?_
        walk_at "go"
    rw [List.nil_append, show (rng n).filter (fun s => decide (s ∉ t) && decide ((insN rs (t ++ [s])).length = 0)) = ext n rs t from rfl]
    have hE : (ext n rs t).length ≤ 6 := by
      have h1 := List.length_filter_le (fun s => decide (s ∉ t) && decide ((insN rs (t ++ [s])).length = 0)) (rng n)
      rw [len_rng] at h1
      unfold ext; omega
    have hz : fullB n rs t = decide (((ext n rs t).length : Int) = 0) := by unfold fullB; simp
    by_cases c : ((ext n rs t).length : Int) = 0
    · walk_at "go"
      have ef : (done ++ [t]).filter (fullB n rs) = done.filter (fullB n rs) ++ [t] := by
        rw [List.filter_append, List.filter_cons_of_pos (by rw [hz]; simpa using c), List.filter_nil]
      rw [ef, List.map_append]
      exact ⟨_, rfl, rfl⟩
    · walk_at "go"
      have ef : (done ++ [t]).filter (fullB n rs) = done.filter (fullB n rs) := by
        rw [List.filter_append, List.filter_cons_of_neg (by rw [hz]; simpa using c), List.filter_nil, List.append_nil]
      rw [ef]
      exact ⟨_, rfl, rfl⟩
  rintro _ ⟨s5, rfl, ps5⟩
  walk_at "go"
  refine stages_s h fun _ _ => ?_
  walk_at "go"
  refine same_ok 4 pS (by first | exact .inl rfl | exact .inr rfl) (by first | exact .inl rfl | exact .inr rfl) fun _ _ _ => ?_
  walk_at "go"
  refine gtn fun _ _ => ?_
  walk_at "go"
  refine same_ok 4 pF (by first | exact .inl rfl | exact .inr rfl) (by first | exact .inl rfl | exact .inr rfl) fun _ _ _ => ?_
  walk_at "go"
  refine stages_s h fun _ _ => ?_
  walk_at "go"
  refine same_ok 4 pS (by first | exact .inl rfl | exact .inr rfl) (by first | exact .inl rfl | exact .inr rfl) fun _ _ _ => ?_
  walk_at "go"
  refine gtn fun _ _ => ?_
  walk_at "go"
  refine same_ok 4 pF (by first | exact .inl rfl | exact .inr rfl) (by first | exact .inl rfl | exact .inr rfl) fun _ _ _ => ?_
  walk_at "go"
  refine wp_lcp tuI (chs (rng n)) (crF rs) tuI (fun t ht => ⟨_, rfl, ?_⟩) ?_
  · have htl := c6 t ht
    unfold tuI
    by_cases c : (0 : Int) < t.length
    · have e : crF rs t = decide (2 * ((insN rs t).length : Int) = t.length * ((t.length : Int) - 1)) := by
        unfold crF
        have : 0 < t.length := by omega
        simp [this]
      rw [e]
      have hI : (insN rs t).length ≤ 100 := Nat.le_trans (List.length_filter_le _ _) hr
      obtain ⟨l, hl⟩ : ∃ l : Int, l = t.length := ⟨_, rfl⟩
      have hl1 : 0 ≤ l * (l - 1) := Int.mul_nonneg (by omega) (by omega)
      have hl2 : l * (l - 1) ≤ 6 * 5 := Int.mul_le_mul (by omega) (by omega) (by omega) (by omega)
      rw [← hl]
      walk_at "go"
      refine inside_s hr (.inr rfl) fun _ _ _ => ?_
      walk_at "go"
      simp only [← hl]
      walk_at "go"
    · have e : crF rs t = false := by
        unfold crF
        have : ¬ 0 < t.length := by omega
        simp [this]
      walk_at "go"
      rw [e]
  rw [List.nil_append, show (chs (rng n)).filter (crF rs) = crds n rs from rfl]
  walk_at "go"
  refine wp_lcm tuI (crds n rs) (fun t => T.int (t.length : Int)) (fun t ht => ⟨_, rfl, ?_⟩) ?_
  · unfold tuI
    walk_at "go"
  rw [List.nil_append, lns_T]
  walk_at "go"
  refine crowd_s h fun _ _ => ?_
  walk_at "go"
  obtain ⟨m, hm⟩ : ∃ m, m = maxI (lns (crds n rs)) := ⟨_, rfl⟩
  rw [← hm]
  refine wp_lcp tuI (crds n rs) (fun t => decide ((t.length : Int) = m)) tuI (fun t ht => ⟨_, rfl, ?_⟩) ?_
  · unfold tuI
    walk_at "go"
  rw [List.nil_append, hm]
  walk_at "go"
  rw [o_mnX hfne]
  walk_at "go"
  refine same_ok 4 (t := tuI (grc n rs)) (plain_tu (by omega)) (by first | exact .inl rfl | exact .inr rfl) (by first | exact .inl rfl | exact .inr rfl) fun _ _ _ => ?_
  walk_at "go"
  exact k _ _ _ _
end Q

set_option Elab.async false
set_option linter.all false
set_option maxRecDepth 100000
set_option maxHeartbeats 4000000
namespace Q
open PySem L2 PySem.Spec VI
set_option hygiene false
local macro_rules | `(tactic| walk_at "go") => `(tactic| repeat (first | with_reducible refine seqW fun Kz kz1 kz2 kz3 kz4 => ?_ | (with_reducible refine kz1 _ ?_; clear kz1 kz2 kz3 kz4 Kz) | (with_reducible refine kz2 _ _ ?_; clear kz1 kz2 kz3 kz4 Kz) | (with_reducible refine kz3 _ ?_; clear kz1 kz2 kz3 kz4 Kz) | (with_reducible refine kz4 _ ?_; clear kz1 kz2 kz3 kz4 Kz) | walk_at "vw"))
set_option hygiene true
local macro_rules | `(tactic| walk_at "vw") => `(tactic| simp (disch := first | assumption | omega | (simp only [List.length_cons, List.length_nil, List.length_map, List.length_append, List.length_take, List.length_drop, List.length_set, List.length_replicate, List.length_range, len_rangeT, len_rng]; omega) | decide) only [↓Wp_cong, ↓Wp_ok, ↓Wp_ex, ↓Wp_bad, ↓Wp_bind, ↓Wp_tt, ↓Wp_ff, ↓Wp_dec, ↓Wp_notb, ↓Wp_not, ↓Wp_out, ↓Wp_e1, ↓Wp_e2, ↓Wp_eN, ↓Wp_eC, ↓Wp_aNil, ↓Wp_aCons, ↓Wp_aStar, ↓Wp_eTup, ↓Wp_eLst, ↓Wp_tOf, ↓Wp_tTrue, ↓Wp_tNot, ↓Wp_tAnd, ↓Wp_tOr, ↓Wp_eAnd, ↓Wp_eOr, ↓Wp_eNot, ↓Wp_eIf, ↓Wp_eFrz, ↓Wp_eChain, ↓Wp_sNx, ↓Wp_sBk, ↓Wp_sExpr, ↓Wp_sIf, ↓Wp_sRet, ↓Wp_sSet, ↓Wp_sAsg, ↓Wp_sFor, ↓Wp_sRaise, ↓Wp_sRaiseN, ↓Wp_sRaiseT, ↓Wp_sSub, ↓Wp_sAug, ↓Wp_runF, ↓Wp_eBmM, ↓Wp_eCall, ↓Wp_eOwn2, ↓Wp_eOwnI, ↓Wp_eOwn1, ↓Wp_eOwnIn, ↓Wp_eMeth, ↓Wp_eLenI, ↓Wp_eBlI, ↓Wp_eMake, ↓Wp_eCallO, ↓Wp_eCallO1, ↓Wp_eListOwn, ↓Wp_iAny, ↓Wp_iOwn, ↓Wp_iRange1, ↓Wp_iRange2, ↓Wp_iEnumL, ↓Wp_eLc, ↓Wp_eLc2, ↓Wp_vSc, ↓Wp_eSortedV, ↓Wp_vSet, ↓Wp_eSl, ↓Wp_oNone, ↓Wp_oSome, ↓Wp_eFld, ↓Wp_eIsi, ↓Wp_sFld, ↓Wp_eIsx, ↓Wp_sTryOnly, ↓Wp_sTryAs, ↓Wp_noX, ↓Wp_eIsq, ↓Wp_eXf, ↓Wp_eChain3, ↓Wp_sDcNew, ↓Wp_tDcIn, ↓Wp_sDcSet, ↓Wp_eDcGet, ↓Wp_sFz, ↓Wp_aDfl, ↓Wp_eWk, ↓Wp_eTf, ↓Wp_idxT, ↓Wp_cntT, ↓Wp_eCnt, ↓Wp_eIdx, ↓Wp_iSg, ↓Wp_iEnA, ↓Wp_hndNil, ↓Wp_hndAs, ↓Wp_hndOnly, ↓Wp_sTryH, ↓Wp_eOwnR, ↓Wp_pos, ↓Wp_neg, outK_v, outK_l, outK_u, e1K_some, e2K_some, eNK_some, optTK_some, derefs_nil, consO_some, derefs_cons, deref_val, deref_own, grounds_nil, grounds_val, grounds_own, grounds_vals, ground1_val, ground1_own, tupK_t, tupK_l, tK_bl, blK_bl, frzK_own, frzK_val, chB_some, chK_some, blOf_v, sqK_nx, sqK_rt, sqK_bk, sqK_ct, retK_val, retK_own, asgK_some, asgG_some, rsK_some, rtK_tup, ltK_some, subK_some, augK_some, augS_some, runK_rt, runK_nx, bmK_append, bmK_clear, bmK_reverse, er_map, bmK_index, bmK_popAt, bmK_insert, kE_val, kE_own, kF_some, kR_ev, kX_ev, callA_some, argSl_nil, consS_some, argSl_cons, argS_val, argS_own, backs_nil, backs_v, backs_ioV, backs_ioO, ownK_some, own2K_some, ownIK_some, inK_bl, inK_nb, methK_ins, methK_01, lenK_int, bliK_bl, rawK_some, mkK_non, mkX_ev, tkK_val, tkK_own, coK_own, co1K_own, co0K_val, lnK_int, heldK_some, itK_some, still_val, still_own, itemsT_lst, itemsT_tup, itemsT_sq, rgK_1, rgK_2, isR1_ok, isR2_ok, enK_some, plK_ok, plK_tt, lnP_ok, svK_ok, vsK_some, cutK_some, oiK_int, fldK_some, tryX_ev, trK_t, trK_f, isyK_ok, isxK_exn, isqK_exn, optK_some, xfK_exn, ch3K_some, fzK_nx, fzK_rt, frzSl_own, frzSl_val, frzSl_odc, dcInK_some, dcSetK_some, dcPutK_some, dcGetK_some, dcKeyK_some, keyOf_two, wkV_lst, wkV_tup, wkV_tf, wkV_sq, wkV_own, wkV_pk, tfK_lst, tfK_sq, ixB_ok, ctB_ok, ctA_ok, ixA_tf, ixA_lst, ixA_sq, idxL_ints, idxF_ints, sgK_some, enA_l, enA_t, hdK_t, hdK_f, hndX_ev, ownRK_some, ↓Wp_eVar, k_varV, k_varO, k_varI, k_varR, k_varP, ↓Wp_eVarF, k_vafV, k_vafO, k_setV, k_setO, k_der, k_derV, k_derO, k_derI, k_derR, k_derP, k_argV, k_argI, k_agvO, k_agvI, k_agvR, k_agvP, k_agvV, k_agiO, k_agiI, k_agiR, k_lat, k_lsO, k_lsI, k_put, k_ptO, k_ptI, k_stl, k_stP, k_bk, k_bkO, k_bkI, k_bkR, k_gNm, o_addI, o_addL, o_addT, o_pow6, o_pow5, o_sub, o_mul, o_mulL, o_fdiv, o_mod, o_neg, o_lt, o_le, o_gt, o_ge, o_abs, o_int, o_intB, o_min, o_max, o_lenL, o_lenT, o_lenQ, o_lenS, o_inS, o_notInS, o_listL, o_listT, o_listQ, o_tupL, o_tupQ, o_tupT, o_boolT, o_boolL, o_rev, o_revT, o_rg1, o_rg2, o_sum, o_maxL, o_minL, o_any, o_all, o_minT3, o_sortedP, o_sorted, o_gcd, o_cutLo, o_cutHi, o_cutHiT, o_cutLoT, o_tkMap, o_drMap, o_inLs, o_inTs, o_ixL, o_ixT, o_ixQ, o_ixLn, o_ixTn, o_ixL0, o_ixL1, o_ixL2, o_ixL3, o_ixT0, o_ixT1, o_ixT2, o_ixT3, o_ixR, o_ixRT, eqD_int, neD_int, eqD_bl, neD_bl, eqD_li, neD_li, eqD_tu, opIn_li, opIn_tu, opNotIn_li, opNotIn_tu, neD_lb, pow_10_18, pow_10_9, blOf_v, plain_no, mark1, mark1', plain_val, q_tf, q_ft, nth_0, nth_1, nth_2, nth_3, nth_map, nth_rng, mk_set, mk_zero, eqD_str, neD_str, rangeT_rng, T.isD, okIx, ioIx, pnIx, bIsi, kIs, kindOf, kInt, kBool, kStr, VI.kTup, VI.kLst, kNo, isNo, notNo, isCo, notCo, opIsN, isN, isB, gnd, ground1, putKs, putTs, fget, fldG, heldT, wipeR, backR, plainAt, gTp, gsCons, gsNil, clsO, Nat.reduceBEq, beq_self_eq_true, Nat.reduceEqDiff, Int.reduceAdd, Int.reduceSub, Int.reduceMul, Int.reduceEq, Int.reduceNe, decide_true, decide_false, decide_not, decide_eq_true_eq, Option.bind_some, Option.bind_none, implies_true, forall_const, Option.map_some, Option.map_none, List.cons_append, List.nil_append, List.replicate_succ, List.replicate_zero, List.getElem?_cons_zero, List.getElem?_cons_succ, List.getElem?_nil, List.set_cons_zero, List.set_cons_succ, List.length_cons, List.length_nil, List.map_cons, List.map_nil, List.take_succ_cons, List.take_zero, List.length_map, List.getD_cons_zero, List.getD_cons_succ, List.nodup_nil, List.nodup_cons, List.not_mem_nil, not_false_eq_true, not_true_eq_false, and_self, and_true, true_and, and_false, false_and, List.all_nil, List.all_cons, List.contains_nil, List.contains_cons, Bool.and_true, Bool.true_and, Bool.and_false, Bool.false_and, Bool.and_self, Bool.or_false, Bool.false_or, Bool.or_true, Bool.true_or, Bool.false_eq_true, Bool.true_eq_false, if_true, if_false, ite_true, ite_false, Bool.not_true, Bool.not_false, Bool.not_not, reduceIte, reduceCtorEq, Nat.reduceAdd, Nat.reduceLT, Nat.reduceLeDiff, Int.reduceLT, Int.reduceLE, Int.reduceToNat, Int.reduceNeg, Int.cast_ofNat_Int, Bool.decide_eq_true, List.reverse_cons, List.reverse_nil, List.append_assoc, List.lookup_cons, List.lookup_nil])
/-! ### the questions -/
theorem free_s {n : Int} {rs : List Rv} {ys : List Int} (ho : ∀ r ∈ rs, OkRv n r) (hr : rs.length ≤ 100) (hy : ys.length ≤ 100) (n1 : n ≤ 6) {Q : EV → Ro → Prop} {X : EQ} (k : ∀ b : Bool, (b = true ↔ StageP n rs ys) → ∀ s s1 s2 r, Q (.val (.bl b)) (s :: s1 :: s2 :: r)) : Wp (m__law_is_free [.val (.lst (rs.map rvT)), .val (.int n), .val (.lst (ys.map T.int))]) Q X := by
  have hY : (ys.map T.int).length ≤ 100 := by rw [List.length_map]; exact hy
  have bad : ∀ x ∈ ys, ¬ ((0 ≤ x ∧ x < n) ∧ ((ys.count x : Nat) : Int) = 1) → (false = true ↔ StageP n rs ys) := fun x hx c => by
    constructor
    · intro z; cases z
    · intro z
      have h2 := z.1.2.count (a := x)
      rw [if_pos hx] at h2
      exact absurd ⟨z.1.1 x hx, by omega⟩ c
  unfold m__law_is_free
  walk_at "go"
  refine wp_for T.int ys (fun done _ ρ => ∃ s3, ρ = [.val (.lst (rs.map rvT)), .val (.int n), .val (.lst (ys.map T.int)), s3] ∧ ∀ x ∈ done, (0 ≤ x ∧ x < n) ∧ ys.count x = 1) ⟨_, rfl, fun x z => by simp at z⟩ ?_ ?_
  · rintro done x rest _ e ⟨s3, rfl, hd⟩
    have hx : x ∈ ys := by rw [e]; simp
    have fin := bad x hx
    refine ⟨_, rfl, ?_⟩
    by_cases c0 : 0 ≤ x
    · by_cases c1 : x < n
      · by_cases c2 : ((ys.count x : Nat) : Int) = 1
        · walk_at "go"
          refine ⟨_, rfl, fun y hy => ?_⟩
          rcases List.mem_append.mp hy with hy | hy
          · exact hd y hy
          · rw [List.mem_singleton] at hy
            subst hy
            exact ⟨⟨c0, c1⟩, by omega⟩
        · walk_at "go"
          exact k false (fin fun z => c2 z.2) _ _ _ _
      · walk_at "go"
        exact k false (fin fun z => c1 z.1.2) _ _ _ _
    · walk_at "go"
      exact k false (fin fun z => c0 z.1.1) _ _ _ _
  · rintro _ ⟨s3, rfl, hd⟩
    have nd : ys.Nodup := List.nodup_iff_count.mpr fun a => by
      by_cases c : a ∈ ys
      · exact Nat.le_of_eq (hd a c).2
      · rw [List.count_eq_zero_of_not_mem c]; omega
    walk_at "go"
    refine inside_s hr (.inl rfl) fun _ _ _ => ?_
    walk_at "go"
    refine k _ ?_ _ _ _ _
    unfold StageP
    rw [← ins_none ho nd, decide_eq_true_eq]
    constructor
    · intro z; exact ⟨⟨fun x hx => (hd x hx).1, nd⟩, by omega⟩
    · intro z; have := z.2; omega
theorem decides_s {n : Int} {xs : List Str} {rs : List Rv} {ys : List Int} (h : OkC n xs rs) (hr : rs.length ≤ 100) (hy : ys.length ≤ 100) {Q : EV → Ro → Prop} {X : EQ} (k : ∀ s s1 s2 s3 r, Q (.val (.bl true)) (s :: s1 :: s2 :: s3 :: r)) : Wp (m__law_decides [.val (crT xs rs), .val (.lst (rs.map rvT)), .val (.int n), .val (.lst (ys.map T.int))]) Q X := by
  have hY : (ys.map T.int).length ≤ 100 := by rw [List.length_map]; exact hy
  unfold m__law_decides
  walk_at "go"
  refine free_s h.ho hr hy h.n1 fun b hb _ _ _ _ => ?_
  walk_at "go"
  refine isstage_s h hy (.inl rfl) fun b2 hb2 _ _ _ => ?_
  have e2 : b2 = b := by rw [Bool.eq_iff_iff, hb, hb2]
  rw [e2]
  walk_at "go"
  refine same_vv Plain.bl fun _ _ _ => ?_
  walk_at "go"
  refine isstage_s h hy (.inr rfl) fun b3 hb3 _ _ _ => ?_
  have e3 : b3 = b := by rw [Bool.eq_iff_iff, hb, hb3]
  rw [e3]
  walk_at "go"
  refine same_vv Plain.bl fun _ _ _ => ?_
  walk_at "go"
  exact k _ _ _ _ _
end Q

set_option Elab.async false
set_option linter.all false
set_option maxRecDepth 100000
set_option maxHeartbeats 4000000
namespace Q
open PySem L2 PySem.Spec VI
set_option hygiene false
local macro_rules | `(tactic| walk_at "go") => `(tactic| repeat (first | with_reducible refine seqW fun Kz kz1 kz2 kz3 kz4 => ?_ | (with_reducible refine kz1 _ ?_; clear kz1 kz2 kz3 kz4 Kz) | (with_reducible refine kz2 _ _ ?_; clear kz1 kz2 kz3 kz4 Kz) | (with_reducible refine kz3 _ ?_; clear kz1 kz2 kz3 kz4 Kz) | (with_reducible refine kz4 _ ?_; clear kz1 kz2 kz3 kz4 Kz) | walk_at "vw"))
set_option hygiene true
local macro_rules | `(tactic| walk_at "vw") => `(tactic| simp (disch := first | assumption | omega | (simp only [List.length_cons, List.length_nil, List.length_map, List.length_append, List.length_take, List.length_drop, List.length_set, List.length_replicate, List.length_range, len_rangeT, len_rng]; omega) | decide) only [↓Wp_cong, ↓Wp_ok, ↓Wp_ex, ↓Wp_bad, ↓Wp_bind, ↓Wp_tt, ↓Wp_ff, ↓Wp_dec, ↓Wp_notb, ↓Wp_not, ↓Wp_out, ↓Wp_e1, ↓Wp_e2, ↓Wp_eN, ↓Wp_eC, ↓Wp_aNil, ↓Wp_aCons, ↓Wp_aStar, ↓Wp_eTup, ↓Wp_eLst, ↓Wp_tOf, ↓Wp_tTrue, ↓Wp_tNot, ↓Wp_tAnd, ↓Wp_tOr, ↓Wp_eAnd, ↓Wp_eOr, ↓Wp_eNot, ↓Wp_eIf, ↓Wp_eFrz, ↓Wp_eChain, ↓Wp_sNx, ↓Wp_sBk, ↓Wp_sExpr, ↓Wp_sIf, ↓Wp_sRet, ↓Wp_sSet, ↓Wp_sAsg, ↓Wp_sFor, ↓Wp_sRaise, ↓Wp_sRaiseN, ↓Wp_sRaiseT, ↓Wp_sSub, ↓Wp_sAug, ↓Wp_runF, ↓Wp_eBmM, ↓Wp_eCall, ↓Wp_eOwn2, ↓Wp_eOwnI, ↓Wp_eOwn1, ↓Wp_eOwnIn, ↓Wp_eMeth, ↓Wp_eLenI, ↓Wp_eBlI, ↓Wp_eMake, ↓Wp_eCallO, ↓Wp_eCallO1, ↓Wp_eListOwn, ↓Wp_iAny, ↓Wp_iOwn, ↓Wp_iRange1, ↓Wp_iRange2, ↓Wp_iEnumL, ↓Wp_eLc, ↓Wp_eLc2, ↓Wp_vSc, ↓Wp_eSortedV, ↓Wp_vSet, ↓Wp_eSl, ↓Wp_oNone, ↓Wp_oSome, ↓Wp_eFld, ↓Wp_eIsi, ↓Wp_sFld, ↓Wp_eIsx, ↓Wp_sTryOnly, ↓Wp_sTryAs, ↓Wp_noX, ↓Wp_eIsq, ↓Wp_eXf, ↓Wp_eChain3, ↓Wp_sDcNew, ↓Wp_tDcIn, ↓Wp_sDcSet, ↓Wp_eDcGet, ↓Wp_sFz, ↓Wp_aDfl, ↓Wp_eWk, ↓Wp_eTf, ↓Wp_idxT, ↓Wp_cntT, ↓Wp_eCnt, ↓Wp_eIdx, ↓Wp_iSg, ↓Wp_iEnA, ↓Wp_hndNil, ↓Wp_hndAs, ↓Wp_hndOnly, ↓Wp_sTryH, ↓Wp_eOwnR, ↓Wp_pos, ↓Wp_neg, outK_v, outK_l, outK_u, e1K_some, e2K_some, eNK_some, optTK_some, derefs_nil, consO_some, derefs_cons, deref_val, deref_own, grounds_nil, grounds_val, grounds_own, grounds_vals, ground1_val, ground1_own, tupK_t, tupK_l, tK_bl, blK_bl, frzK_own, frzK_val, chB_some, chK_some, blOf_v, sqK_nx, sqK_rt, sqK_bk, sqK_ct, retK_val, retK_own, asgK_some, asgG_some, rsK_some, rtK_tup, ltK_some, subK_some, augK_some, augS_some, runK_rt, runK_nx, bmK_append, bmK_clear, bmK_reverse, er_map, bmK_index, bmK_popAt, bmK_insert, kE_val, kE_own, kF_some, kR_ev, kX_ev, callA_some, argSl_nil, consS_some, argSl_cons, argS_val, argS_own, backs_nil, backs_v, backs_ioV, backs_ioO, ownK_some, own2K_some, ownIK_some, inK_bl, inK_nb, methK_ins, methK_01, lenK_int, bliK_bl, rawK_some, mkK_non, mkX_ev, tkK_val, tkK_own, coK_own, co1K_own, co0K_val, lnK_int, heldK_some, itK_some, still_val, still_own, itemsT_lst, itemsT_tup, itemsT_sq, rgK_1, rgK_2, isR1_ok, isR2_ok, enK_some, plK_ok, plK_tt, lnP_ok, svK_ok, vsK_some, cutK_some, oiK_int, fldK_some, tryX_ev, trK_t, trK_f, isyK_ok, isxK_exn, isqK_exn, optK_some, xfK_exn, ch3K_some, fzK_nx, fzK_rt, frzSl_own, frzSl_val, frzSl_odc, dcInK_some, dcSetK_some, dcPutK_some, dcGetK_some, dcKeyK_some, keyOf_two, wkV_lst, wkV_tup, wkV_tf, wkV_sq, wkV_own, wkV_pk, tfK_lst, tfK_sq, ixB_ok, ctB_ok, ctA_ok, ixA_tf, ixA_lst, ixA_sq, idxL_ints, idxF_ints, sgK_some, enA_l, enA_t, hdK_t, hdK_f, hndX_ev, ownRK_some, ↓Wp_eVar, k_varV, k_varO, k_varI, k_varR, k_varP, ↓Wp_eVarF, k_vafV, k_vafO, k_setV, k_setO, k_der, k_derV, k_derO, k_derI, k_derR, k_derP, k_argV, k_argI, k_agvO, k_agvI, k_agvR, k_agvP, k_agvV, k_agiO, k_agiI, k_agiR, k_lat, k_lsO, k_lsI, k_put, k_ptO, k_ptI, k_stl, k_stP, k_bk, k_bkO, k_bkI, k_bkR, k_gNm, o_addI, o_addL, o_addT, o_pow6, o_pow5, o_sub, o_mul, o_mulL, o_fdiv, o_mod, o_neg, o_lt, o_le, o_gt, o_ge, o_abs, o_int, o_intB, o_min, o_max, o_lenL, o_lenT, o_lenQ, o_lenS, o_inS, o_notInS, o_listL, o_listT, o_listQ, o_tupL, o_tupQ, o_tupT, o_boolT, o_boolL, o_rev, o_revT, o_rg1, o_rg2, o_sum, o_maxL, o_minL, o_any, o_all, o_minT3, o_sortedP, o_sorted, o_gcd, o_cutLo, o_cutHi, o_cutHiT, o_cutLoT, o_tkMap, o_drMap, o_inLs, o_inTs, o_ixL, o_ixT, o_ixQ, o_ixLn, o_ixTn, o_ixL0, o_ixL1, o_ixL2, o_ixL3, o_ixT0, o_ixT1, o_ixT2, o_ixT3, o_ixR, o_ixRT, eqD_int, neD_int, eqD_bl, neD_bl, eqD_li, neD_li, eqD_tu, opIn_li, opIn_tu, opNotIn_li, opNotIn_tu, neD_lb, pow_10_18, pow_10_9, blOf_v, plain_no, mark1, mark1', plain_val, q_tf, q_ft, nth_0, nth_1, nth_2, nth_3, nth_map, nth_rng, mk_set, mk_zero, eqD_str, neD_str, rangeT_rng, T.isD, okIx, ioIx, pnIx, bIsi, kIs, kindOf, kInt, kBool, kStr, VI.kTup, VI.kLst, kNo, isNo, notNo, isCo, notCo, opIsN, isN, isB, gnd, ground1, putKs, putTs, fget, fldG, heldT, wipeR, backR, plainAt, gTp, gsCons, gsNil, clsO, Nat.reduceBEq, beq_self_eq_true, Nat.reduceEqDiff, Int.reduceAdd, Int.reduceSub, Int.reduceMul, Int.reduceEq, Int.reduceNe, decide_true, decide_false, decide_not, decide_eq_true_eq, Option.bind_some, Option.bind_none, implies_true, forall_const, Option.map_some, Option.map_none, List.cons_append, List.nil_append, List.replicate_succ, List.replicate_zero, List.getElem?_cons_zero, List.getElem?_cons_succ, List.getElem?_nil, List.set_cons_zero, List.set_cons_succ, List.length_cons, List.length_nil, List.map_cons, List.map_nil, List.take_succ_cons, List.take_zero, List.length_map, List.getD_cons_zero, List.getD_cons_succ, List.nodup_nil, List.nodup_cons, List.not_mem_nil, not_false_eq_true, not_true_eq_false, and_self, and_true, true_and, and_false, false_and, List.all_nil, List.all_cons, List.contains_nil, List.contains_cons, Bool.and_true, Bool.true_and, Bool.and_false, Bool.false_and, Bool.and_self, Bool.or_false, Bool.false_or, Bool.or_true, Bool.true_or, Bool.false_eq_true, Bool.true_eq_false, if_true, if_false, ite_true, ite_false, Bool.not_true, Bool.not_false, Bool.not_not, reduceIte, reduceCtorEq, Nat.reduceAdd, Nat.reduceLT, Nat.reduceLeDiff, Int.reduceLT, Int.reduceLE, Int.reduceToNat, Int.reduceNeg, Int.cast_ofNat_Int, Bool.decide_eq_true, List.reverse_cons, List.reverse_nil, List.append_assoc, List.lookup_cons, List.lookup_nil])
def lsI (x : List Int) : T := .lst (x.map T.int)
theorem lists_s {N n : Int} {h : List T} {t : List Int} (hk : HandOk N h) (hN : N ≤ 100000) (n0 : 1 ≤ n) (n1 : n ≤ 6) (ht : t.length ≤ 6) {Q : EV → Ro → Prop} {X : EQ}
    (k : ∀ (L : List (List Int)) h' s1 s2 r, (∀ g ∈ L, g.length ≤ 100) → L.length ≤ 100 → Q (.own (L.map lsI)) (.io h' :: s1 :: s2 :: r)) : Wp (m__law_lists [.io h, .val (.int n), .val (tuI t)]) Q X := by
  have hT : (t.map T.int).length ≤ 6 := by rw [List.length_map]; exact ht
  unfold m__law_lists tuI
  walk_at "go"
  refine wp_for T.int t (fun done _ ρ => ∃ (h' : List T) (ys : List Int) (s4 : Sl), ρ = [.io h', .val (.int n), .val (.tup (t.map T.int)), .own (ys.map T.int), s4, .no, .no, .no, .no] ∧ s4.plain = true ∧ HandOk (N + done.length) h' ∧ ys.length = done.length) ⟨h, [], _, rfl, rfl, by simpa using hk, rfl⟩ ?_ ?_
  · rintro done x rest _ e ⟨h', ys, s4, rfl, p4, k1, hyl⟩
    have hdl : done.length + (rest.length + 1) = t.length := by rw [e]; simp
    have hz : (done ++ [x]).length = done.length + 1 := by simp
    have hY : (ys.map T.int).length ≤ 6 := by rw [List.length_map]; omega
    obtain ⟨l, hl'⟩ : ∃ l : Int, l = ys.length := ⟨_, rfl⟩
    refine ⟨_, rfl, ?_⟩
    walk_at "go"
    simp only [← hl']
    refine take_s k1 (by omega) (by omega) (by omega) fun d h2 _ _ k2 d0 d1 => ?_
    walk_at "go"
    exact ⟨h2, ys.take d.toNat ++ x :: ys.drop d.toNat, _, by rw [List.map_append, List.map_cons], rfl, k2.mono (by rw [hz]; omega), by simp only [List.length_append, List.length_take, List.length_cons, List.length_drop, List.length_nil]; omega⟩
  rintro _ ⟨h2, ys, s4, rfl, p4, k2, hyl⟩
  have hY : (ys.map T.int).length ≤ 6 := by rw [List.length_map]; omega
  obtain ⟨l, hl'⟩ : ∃ l : Int, l = ys.length := ⟨_, rfl⟩
  walk_at "go"
  refine take_s k2 (by omega) (by omega) (by omega) fun far h3 _ _ k3 f0 f1 => ?_
  walk_at "go"
  simp only [← hl']
  refine take_s k3 (by omega) (by omega) (by omega) fun d h4 _ _ k4 d0 d1 => ?_
  walk_at "go"
  refine take_s k4 (by omega) (by omega) (by omega) fun a h5 _ _ k5 a0 a1 => ?_
  walk_at "go"
  refine take_s k5 (by omega) (by omega) (by omega) fun b h6 _ _ k6 b0 b1 => ?_
  walk_at "go"
  obtain ⟨A, hA⟩ : ∃ A : List Int, A = [-1, n, far - 1000000000, a, b] := ⟨_, rfl⟩
  have al : A.length = 5 := by rw [hA]; rfl
  rw [show [T.int (-1), T.int n, T.int (far - 1000000000), T.int a, T.int b] = A.map T.int by rw [hA]; rfl]
  have hA5 : (A.map T.int).length = 5 := by rw [List.length_map, al]
  walk_at "go"
  refine wp_for T.int A (fun done _ ρ => ∃ (L : List (List Int)) (s4 : Sl), ρ = [.io h6, .val (.int n), .val (.tup (t.map T.int)), .own (ys.map T.int), s4, .val (.int (far - 1000000000)), .val (.int d), .own (L.map lsI), .no] ∧ s4.plain = true ∧ (∀ g ∈ L, g.length ≤ 100) ∧ L.length = 2 + done.length) ⟨[ys, []], _, rfl, by assumption, fun g hg => by
    simp only [List.mem_cons, List.mem_nil_iff, or_false] at hg
    rcases hg with rfl | rfl
    · omega
    · simp, rfl⟩ ?_ ?_
  · rintro done x rest _ ee ⟨L, s4, rfl, p4, hL, hLl⟩
    have hdl : done.length + (rest.length + 1) = A.length := by rw [ee]; simp
    have hz : (done ++ [x]).length = done.length + 1 := by simp
    have hLL : (L.map lsI).length ≤ 10 := by rw [List.length_map]; omega
    refine ⟨_, rfl, ?_⟩
    walk_at "go"
    refine ⟨L ++ [ys.take d.toNat ++ x :: ys.drop d.toNat], .val (.int x), by simp [lsI], rfl, fun g hg => ?_, by rw [List.length_append, hz, hLl]; rfl⟩
    rcases List.mem_append.mp hg with hg | hg
    · exact hL g hg
    · rw [List.mem_singleton] at hg
      subst hg
      simp only [List.length_append, List.length_take, List.length_cons, List.length_drop, List.length_nil]
      omega
  rintro _ ⟨L, s4, rfl, p4, hL, hLl⟩
  have hLL : (L.map lsI).length ≤ 10 := by rw [List.length_map]; omega
  walk_at "go"
  refine take_s k6 (by omega) (by omega) (by omega) fun c h7 _ _ k7 c0 c1 => ?_
  walk_at "go"
  refine wp_lc T.int (rng c) (fun done _ acc ρ => ∃ (h' : List T) (gs : List Int), ρ = [.io h', .val (.int n), .val (.tup (t.map T.int)), .own (ys.map T.int), s4, .val (.int (far - 1000000000)), .val (.int d), .own (L.map lsI ++ [.lst (ys.map T.int ++ ys.map T.int)]), .no] ∧ acc = gs.map T.int ∧ HandOk (N + 20 + done.length) h' ∧ gs.length = done.length) ⟨h7, [], rfl, rfl, k7.mono (by simp; omega), rfl⟩ ?_ ?_
  · rintro done x rest _ _ ee ⟨h', gs, rfl, rfl, k8, hgl⟩
    have hz : (done ++ [x]).length = done.length + 1 := by simp
    have hdl : done.length + (rest.length + 1) = c.toNat := by
      have := congrArg List.length ee
      rw [len_rng] at this; simp at this; omega
    refine ⟨_, rfl, ?_⟩
    walk_at "go"
    refine ⟨?_, fun z => z.elim⟩
    refine take_s k8 (by omega) (by omega) (by omega) fun v h9 _ _ k9 v0 v1 => ?_
    walk_at "go"
    exact ⟨h9, gs ++ [v - 1], rfl, by rw [List.map_append]; rfl, k9.mono (by rw [hz]; omega), by rw [List.length_append, hz, hgl]; rfl⟩
  rintro _ _ ⟨h9, gs, rfl, rfl, k9, hgl⟩
  rw [len_rng] at k9 hgl
  have hGl : (gs.map T.int).length ≤ 8 := by rw [List.length_map]; omega
  have hL2 : (L.map lsI ++ [T.lst (ys.map T.int ++ ys.map T.int)]).length ≤ 20 := by rw [List.length_append, List.length_singleton]; omega
  walk_at "go"
  refine take_s k9 (by omega) (by omega) (by omega) fun c2 h10 _ _ k10 c20 c21 => ?_
  walk_at "go"
  refine wp_lc T.int (rng c2) (fun done _ acc ρ => ∃ (h' : List T) (us : List Int), ρ = [.io h', .val (.int n), .val (.tup (t.map T.int)), .own (ys.map T.int), s4, .val (.int (far - 1000000000)), .val (.int d), .own (L.map lsI ++ [.lst (ys.map T.int ++ ys.map T.int), .lst (gs.map T.int)]), .no] ∧ acc = us.map T.int ∧ HandOk (N + 40 + done.length) h' ∧ us.length = done.length) ⟨h10, [], rfl, rfl, k10.mono (by simp; omega), rfl⟩ ?_ ?_
  · rintro done x rest _ _ ee ⟨h', us, rfl, rfl, k8, hgl2⟩
    have hz : (done ++ [x]).length = done.length + 1 := by simp
    have hdl : done.length + (rest.length + 1) = c2.toNat := by
      have := congrArg List.length ee
      rw [len_rng] at this; simp at this; omega
    refine ⟨_, rfl, ?_⟩
    walk_at "go"
    refine ⟨?_, fun z => z.elim⟩
    refine take_s k8 (by omega) (by omega) (by omega) fun v h9 _ _ k9 v0 v1 => ?_
    walk_at "go"
    exact ⟨h9, us ++ [v], rfl, by rw [List.map_append]; rfl, k9.mono (by rw [hz]; omega), by rw [List.length_append, hz, hgl2]; rfl⟩
  rintro _ _ ⟨h11, us, rfl, rfl, k11, hul⟩
  rw [len_rng] at k11 hul
  have hUl : (us.map T.int).length ≤ 8 := by rw [List.length_map]; omega
  have hL3 : (L.map lsI ++ [T.lst (ys.map T.int ++ ys.map T.int), T.lst (gs.map T.int)]).length ≤ 20 := by rw [List.length_append]; simp only [List.length_cons, List.length_nil]; omega
  walk_at "go"
  have fin := k (L ++ [ys ++ ys, gs, us]) h11
  rw [List.map_append] at fin
  simp only [List.map_cons, List.map_nil, lsI, List.map_append] at fin ⊢
  refine fin _ _ _ (fun g hg => ?_) (by rw [List.length_append]; simp only [List.length_cons, List.length_nil]; omega)
  rcases List.mem_append.mp hg with hg | hg
  · exact hL g hg
  · simp only [List.mem_cons, List.mem_nil_iff, or_false] at hg
    rcases hg with rfl | rfl | rfl
    · rw [List.length_append]; omega
    · omega
    · omega
end Q

set_option Elab.async false
set_option linter.all false
set_option maxRecDepth 100000
set_option maxHeartbeats 4000000
namespace Q
open PySem L2 PySem.Spec VI
set_option hygiene false
local macro_rules | `(tactic| walk_at "go") => `(tactic| repeat (first | with_reducible refine seqW fun Kz kz1 kz2 kz3 kz4 => ?_ | (with_reducible refine kz1 _ ?_; clear kz1 kz2 kz3 kz4 Kz) | (with_reducible refine kz2 _ _ ?_; clear kz1 kz2 kz3 kz4 Kz) | (with_reducible refine kz3 _ ?_; clear kz1 kz2 kz3 kz4 Kz) | (with_reducible refine kz4 _ ?_; clear kz1 kz2 kz3 kz4 Kz) | walk_at "vw"))
set_option hygiene true
local macro_rules | `(tactic| walk_at "vw") => `(tactic| simp (disch := first | assumption | omega | (simp only [List.length_cons, List.length_nil, List.length_map, List.length_append, List.length_take, List.length_drop, List.length_set, List.length_replicate, List.length_range, len_rangeT, len_rng]; omega) | decide) only [↓Wp_cong, ↓Wp_ok, ↓Wp_ex, ↓Wp_bad, ↓Wp_bind, ↓Wp_tt, ↓Wp_ff, ↓Wp_dec, ↓Wp_notb, ↓Wp_not, ↓Wp_out, ↓Wp_e1, ↓Wp_e2, ↓Wp_eN, ↓Wp_eC, ↓Wp_aNil, ↓Wp_aCons, ↓Wp_aStar, ↓Wp_eTup, ↓Wp_eLst, ↓Wp_tOf, ↓Wp_tTrue, ↓Wp_tNot, ↓Wp_tAnd, ↓Wp_tOr, ↓Wp_eAnd, ↓Wp_eOr, ↓Wp_eNot, ↓Wp_eIf, ↓Wp_eFrz, ↓Wp_eChain, ↓Wp_sNx, ↓Wp_sBk, ↓Wp_sExpr, ↓Wp_sIf, ↓Wp_sRet, ↓Wp_sSet, ↓Wp_sAsg, ↓Wp_sFor, ↓Wp_sRaise, ↓Wp_sRaiseN, ↓Wp_sRaiseT, ↓Wp_sSub, ↓Wp_sAug, ↓Wp_runF, ↓Wp_eBmM, ↓Wp_eCall, ↓Wp_eOwn2, ↓Wp_eOwnI, ↓Wp_eOwn1, ↓Wp_eOwnIn, ↓Wp_eMeth, ↓Wp_eLenI, ↓Wp_eBlI, ↓Wp_eMake, ↓Wp_eCallO, ↓Wp_eCallO1, ↓Wp_eListOwn, ↓Wp_iAny, ↓Wp_iOwn, ↓Wp_iRange1, ↓Wp_iRange2, ↓Wp_iEnumL, ↓Wp_eLc, ↓Wp_eLc2, ↓Wp_vSc, ↓Wp_eSortedV, ↓Wp_vSet, ↓Wp_eSl, ↓Wp_oNone, ↓Wp_oSome, ↓Wp_eFld, ↓Wp_eIsi, ↓Wp_sFld, ↓Wp_eIsx, ↓Wp_sTryOnly, ↓Wp_sTryAs, ↓Wp_noX, ↓Wp_eIsq, ↓Wp_eXf, ↓Wp_eChain3, ↓Wp_sDcNew, ↓Wp_tDcIn, ↓Wp_sDcSet, ↓Wp_eDcGet, ↓Wp_sFz, ↓Wp_aDfl, ↓Wp_eWk, ↓Wp_eTf, ↓Wp_idxT, ↓Wp_cntT, ↓Wp_eCnt, ↓Wp_eIdx, ↓Wp_iSg, ↓Wp_iEnA, ↓Wp_hndNil, ↓Wp_hndAs, ↓Wp_hndOnly, ↓Wp_sTryH, ↓Wp_eOwnR, ↓Wp_pos, ↓Wp_neg, outK_v, outK_l, outK_u, e1K_some, e2K_some, eNK_some, optTK_some, derefs_nil, consO_some, derefs_cons, deref_val, deref_own, grounds_nil, grounds_val, grounds_own, grounds_vals, ground1_val, ground1_own, tupK_t, tupK_l, tK_bl, blK_bl, frzK_own, frzK_val, chB_some, chK_some, blOf_v, sqK_nx, sqK_rt, sqK_bk, sqK_ct, retK_val, retK_own, asgK_some, asgG_some, rsK_some, rtK_tup, ltK_some, subK_some, augK_some, augS_some, runK_rt, runK_nx, bmK_append, bmK_clear, bmK_reverse, er_map, bmK_index, bmK_popAt, bmK_insert, kE_val, kE_own, kF_some, kR_ev, kX_ev, callA_some, argSl_nil, consS_some, argSl_cons, argS_val, argS_own, backs_nil, backs_v, backs_ioV, backs_ioO, ownK_some, own2K_some, ownIK_some, inK_bl, inK_nb, methK_ins, methK_01, lenK_int, bliK_bl, rawK_some, mkK_non, mkX_ev, tkK_val, tkK_own, coK_own, co1K_own, co0K_val, lnK_int, heldK_some, itK_some, still_val, still_own, itemsT_lst, itemsT_tup, itemsT_sq, rgK_1, rgK_2, isR1_ok, isR2_ok, enK_some, plK_ok, plK_tt, lnP_ok, svK_ok, vsK_some, cutK_some, oiK_int, fldK_some, tryX_ev, trK_t, trK_f, isyK_ok, isxK_exn, isqK_exn, optK_some, xfK_exn, ch3K_some, fzK_nx, fzK_rt, frzSl_own, frzSl_val, frzSl_odc, dcInK_some, dcSetK_some, dcPutK_some, dcGetK_some, dcKeyK_some, keyOf_two, wkV_lst, wkV_tup, wkV_tf, wkV_sq, wkV_own, wkV_pk, tfK_lst, tfK_sq, ixB_ok, ctB_ok, ctA_ok, ixA_tf, ixA_lst, ixA_sq, idxL_ints, idxF_ints, sgK_some, enA_l, enA_t, hdK_t, hdK_f, hndX_ev, ownRK_some, ↓Wp_eVar, k_varV, k_varO, k_varI, k_varR, k_varP, ↓Wp_eVarF, k_vafV, k_vafO, k_setV, k_setO, k_der, k_derV, k_derO, k_derI, k_derR, k_derP, k_argV, k_argI, k_agvO, k_agvI, k_agvR, k_agvP, k_agvV, k_agiO, k_agiI, k_agiR, k_lat, k_lsO, k_lsI, k_put, k_ptO, k_ptI, k_stl, k_stP, k_bk, k_bkO, k_bkI, k_bkR, k_gNm, o_addI, o_addL, o_addT, o_pow6, o_pow5, o_sub, o_mul, o_mulL, o_fdiv, o_mod, o_neg, o_lt, o_le, o_gt, o_ge, o_abs, o_int, o_intB, o_min, o_max, o_lenL, o_lenT, o_lenQ, o_lenS, o_inS, o_notInS, o_listL, o_listT, o_listQ, o_tupL, o_tupQ, o_tupT, o_boolT, o_boolL, o_rev, o_revT, o_rg1, o_rg2, o_sum, o_maxL, o_minL, o_any, o_all, o_minT3, o_sortedP, o_sorted, o_gcd, o_cutLo, o_cutHi, o_cutHiT, o_cutLoT, o_tkMap, o_drMap, o_inLs, o_inTs, o_ixL, o_ixT, o_ixQ, o_ixLn, o_ixTn, o_ixL0, o_ixL1, o_ixL2, o_ixL3, o_ixT0, o_ixT1, o_ixT2, o_ixT3, o_ixR, o_ixRT, eqD_int, neD_int, eqD_bl, neD_bl, eqD_li, neD_li, eqD_tu, opIn_li, opIn_tu, opNotIn_li, opNotIn_tu, neD_lb, pow_10_18, pow_10_9, blOf_v, plain_no, mark1, mark1', plain_val, q_tf, q_ft, nth_0, nth_1, nth_2, nth_3, nth_map, nth_rng, mk_set, mk_zero, eqD_str, neD_str, rangeT_rng, T.isD, okIx, ioIx, pnIx, bIsi, kIs, kindOf, kInt, kBool, kStr, VI.kTup, VI.kLst, kNo, isNo, notNo, isCo, notCo, opIsN, isN, isB, gnd, ground1, putKs, putTs, fget, fldG, heldT, wipeR, backR, plainAt, gTp, gsCons, gsNil, clsO, Nat.reduceBEq, beq_self_eq_true, Nat.reduceEqDiff, Int.reduceAdd, Int.reduceSub, Int.reduceMul, Int.reduceEq, Int.reduceNe, decide_true, decide_false, decide_not, decide_eq_true_eq, Option.bind_some, Option.bind_none, implies_true, forall_const, Option.map_some, Option.map_none, List.cons_append, List.nil_append, List.replicate_succ, List.replicate_zero, List.getElem?_cons_zero, List.getElem?_cons_succ, List.getElem?_nil, List.set_cons_zero, List.set_cons_succ, List.length_cons, List.length_nil, List.map_cons, List.map_nil, List.take_succ_cons, List.take_zero, List.length_map, List.getD_cons_zero, List.getD_cons_succ, List.nodup_nil, List.nodup_cons, List.not_mem_nil, not_false_eq_true, not_true_eq_false, and_self, and_true, true_and, and_false, false_and, List.all_nil, List.all_cons, List.contains_nil, List.contains_cons, Bool.and_true, Bool.true_and, Bool.and_false, Bool.false_and, Bool.and_self, Bool.or_false, Bool.false_or, Bool.or_true, Bool.true_or, Bool.false_eq_true, Bool.true_eq_false, if_true, if_false, ite_true, ite_false, Bool.not_true, Bool.not_false, Bool.not_not, reduceIte, reduceCtorEq, Nat.reduceAdd, Nat.reduceLT, Nat.reduceLeDiff, Int.reduceLT, Int.reduceLE, Int.reduceToNat, Int.reduceNeg, Int.cast_ofNat_Int, Bool.decide_eq_true, List.reverse_cons, List.reverse_nil, List.append_assoc, List.lookup_cons, List.lookup_nil])
/-! ### the law's draws -/
theorem apart_perm {rs ss : List Rv} (p : rs.Perm ss) (h : Apart ss) : Apart rs := by
  unfold Apart at *
  exact (p.pairwise_iff fun {x y} hh => by unfold Meets at *; omega).mpr h
theorem drawn_s {N n : Int} {h : List T} (hk : HandOk N h) (hN : N ≤ 1000) (n0 : 1 ≤ n) (n1 : n ≤ 6) {Q : EV → Ro → Prop} {X : EQ}
    (k : ∀ (rs : List Rv) h' s1 r, (∀ r ∈ rs, OkRv n r) → Apart rs → rs.length ≤ 36 → HandOk (N + 400) h' → Q (.own (rs.map rvT)) (.io h' :: s1 :: r)) : Wp (m__law_drawn_rivals [.io h, .val (.int n)]) Q X := by
  unfold m__law_drawn_rivals
  walk_at "go"
  refine take_s hk (by omega) (by omega) (by omega) fun sh h1 _ _ k1 sh0 sh1 => ?_
  walk_at "go"
  refine wp_for T.int (rng n) (fun done _ ρ => ∃ (h' : List T) (rs : List Rv) (s4 s5 s6 s7 : Sl), ρ = [.io h', .val (.int n), .val (.int sh), .own (rs.map rvT), s4, s5, s6, s7] ∧ HandOk (N + 1 + 48 * done.length) h' ∧ (∀ r ∈ rs, OkRv n r ∧ min r.a r.b < done.length) ∧ Apart rs ∧ rs.length ≤ 6 * done.length) ⟨h1, [], _, _, _, _, rfl, by simpa using k1, fun r z => by simp at z, List.Pairwise.nil, by simp⟩ ?_ ?_
  · rintro done x rest _ e ⟨h', rs, s4, s5, s6, s7, rfl, k1, hr, ha, hl⟩
    have hdl : done.length + (rest.length + 1) = n.toNat := by
      have := congrArg List.length e
      rw [len_rng] at this; simp at this; omega
    have hx := rng_at e
    subst hx
    obtain ⟨a, haa⟩ : ∃ a : Int, a = done.length := ⟨_, rfl⟩
    rw [← haa] at k1 hr ⊢
    have hz : (((done ++ [a]).length : Nat) : Int) = a + 1 := by rw [haa]; simp
    have hz2 : (done ++ [a]).length = done.length + 1 := by simp
    refine ⟨_, rfl, ?_⟩
    walk_at "go"
    rw [rangeT_from]
    refine wp_for (fun k : Nat => T.int (a + 1 + (k : Int))) (List.range (n - (a + 1)).toNat) (fun dn _ ρ => ∃ (h' : List T) (rs : List Rv) (s5 s6 s7 : Sl), ρ = [.io h', .val (.int n), .val (.int sh), .own (rs.map rvT), .val (.int a), s5, s6, s7] ∧ HandOk (N + 1 + 48 * a + 8 * dn.length) h' ∧ (∀ r ∈ rs, OkRv n r ∧ (min r.a r.b < a ∨ min r.a r.b = a ∧ max r.a r.b < a + 1 + dn.length)) ∧ Apart rs ∧ rs.length ≤ 6 * done.length + dn.length) ⟨h', rs, _, _, _, rfl, by simpa using k1, fun r z => ⟨(hr r z).1, .inl (hr r z).2⟩, ha, by simpa using hl⟩ ?_ ?_
    · rintro dn y rst _ ey ⟨h2, rs2, s5, s6, s7, rfl, k2, hr2, ha2, hl2⟩
      have hyl : dn.length + (rst.length + 1) = (n - (a + 1)).toNat := by
        have := congrArg List.length ey
        simp at this; omega
      have hy := range_at ey
      subst hy
      obtain ⟨b, hb⟩ : ∃ b : Int, b = a + 1 + (dn.length : Int) := ⟨_, rfl⟩
      have hb2 : b < n := by omega
      have hy2 : (((dn ++ [dn.length]).length : Nat) : Int) = dn.length + 1 := by simp
      have hy3 : (dn ++ [dn.length]).length = dn.length + 1 := by simp
      have hR : (rs2.map rvT).length ≤ 1000 := by rw [List.length_map]; omega
      obtain ⟨l, hll⟩ : ∃ l : Int, l = rs2.length := ⟨_, rfl⟩
      rw [← hb]
      have new : ∀ (p q f g : Int) (i : Nat) (h9 : List T) (s5 s6 s7 : Sl), (p = a ∧ q = b ∨ p = b ∧ q = a) → 0 ≤ f → f < 10 → 0 ≤ g → g < 10 → HandOk (N + 1 + 48 * a + 8 * dn.length + 8) h9 →
          ∃ (h' : List T) (rs : List Rv) (t5 t6 t7 : Sl), ([.io h9, .val (.int n), .val (.int sh), .own ((rs2.take i).map rvT ++ .tup [.int p, .int q, .int f, .int g] :: (rs2.drop i).map rvT), .val (.int a), s5, s6, s7] : Ro) = [.io h', .val (.int n), .val (.int sh), .own (rs.map rvT), .val (.int a), t5, t6, t7] ∧ HandOk (N + 1 + 48 * a + 8 * ((dn ++ [dn.length]).length : Nat)) h' ∧
            (∀ r ∈ rs, OkRv n r ∧ (min r.a r.b < a ∨ min r.a r.b = a ∧ max r.a r.b < a + 1 + ((dn ++ [dn.length]).length : Nat))) ∧ Apart rs ∧ rs.length ≤ 6 * done.length + (dn ++ [dn.length]).length := fun p q f g i h9 s5 s6 s7 hpq f0 f1 g0 g1 k9 => by
        have p1 : (rs2.take i ++ (⟨p, q, f, g⟩ : Rv) :: rs2.drop i).Perm ((⟨p, q, f, g⟩ : Rv) :: (rs2.take i ++ rs2.drop i)) := List.perm_middle
        rw [List.take_append_drop] at p1
        have p2 := p1.trans (List.perm_append_singleton (⟨p, q, f, g⟩ : Rv) rs2).symm
        refine ⟨h9, rs2.take i ++ ⟨p, q, f, g⟩ :: rs2.drop i, s5, s6, s7, by rw [List.map_append, List.map_cons]; rfl, k9.mono (by rw [hy2]; omega), fun r z => ?_, apart_perm p2 (apart_snoc.mpr ⟨ha2, fun r z => ?_⟩), by rw [p2.length_eq, List.length_append, hy3]; simp; omega⟩
        · rw [hy2]
          rcases List.mem_append.mp (p2.mem_iff.mp z) with z | z
          · obtain ⟨z1, z2⟩ := hr2 r z
            exact ⟨z1, by omega⟩
          · rw [List.mem_singleton] at z
            subst z
            refine ⟨⟨?_, ?_, ?_, ?_, ?_, f0, by show f ≤ 9; omega, g0, by show g ≤ 9; omega⟩, ?_⟩ <;> simp only <;> omega
        · obtain ⟨z1, z2⟩ := hr2 r z
          simp only [Meets]
          omega
      refine ⟨_, rfl, ?_⟩
      walk_at "go"
      refine take_s k2 (by omega) (by omega) (by omega) fun d1 h3 _ _ k3 d10 d11 => ?_
      walk_at "go"
      refine Wp_split (fun c1 => ?_) fun c1 => ?_
      · walk_at "go"
        refine take_s k3 (by omega) (by omega) (by omega) fun f h4 _ _ k4 f0 f1 => ?_
        walk_at "go"
        refine take_s k4 (by omega) (by omega) (by omega) fun g h5 _ _ k5 g0 g1 => ?_
        walk_at "go"
        refine take_s k5 (by omega) (by omega) (by omega) fun d2 h6 _ _ k6 d20 d21 => ?_
        by_cases c2 : d2 = 1
        · walk_at "go"
          refine take_s k6 (by omega) (by omega) (by omega) fun f2 h7 _ _ k7 f20 f21 => ?_
          walk_at "go"
          refine take_s k7 (by omega) (by omega) (by omega) fun g2 h8 _ _ k8 g20 g21 => ?_
          walk_at "go"
          simp only [← hll]
          refine take_s k8 (by omega) (by omega) (by omega) fun sp h9 _ _ k9 sp0 sp1 => ?_
          walk_at "go"
          exact new b a f2 g2 sp.toNat h9 _ _ _ (.inr ⟨rfl, rfl⟩) f20 f21 g20 g21 (k9.mono (by omega))
        · walk_at "go"
          simp only [← hll]
          refine take_s k6 (by omega) (by omega) (by omega) fun sp h9 _ _ k9 sp0 sp1 => ?_
          walk_at "go"
          exact new a b f g sp.toNat h9 _ _ _ (.inl ⟨rfl, rfl⟩) f0 f1 g0 g1 (k9.mono (by omega))
      · walk_at "go"
        refine ⟨h3, rs2, _, _, _, rfl, k3.mono (by rw [hy2]; omega), fun r z => ?_, ha2, by rw [hy3]; omega⟩
        obtain ⟨z1, z2⟩ := hr2 r z
        exact ⟨z1, by rw [hy2]; omega⟩
    · rintro _ ⟨h2, rs2, s5, s6, s7, rfl, k2, hr2, ha2, hl2⟩
      rw [List.length_range] at k2 hr2 hl2
      walk_at "go"
      refine ⟨h2, rs2, _, _, _, _, rfl, k2.mono (by rw [hz]; omega), fun r z => ⟨(hr2 r z).1, ?_⟩, ha2, by rw [hz2]; omega⟩
      have := (hr2 r z).2
      rw [hz]; omega
  · rintro _ ⟨h', rs, s4, s5, s6, s7, rfl, k1, hr, ha, hl⟩
    rw [len_rng] at k1 hl
    walk_at "go"
    exact k _ _ _ _ (fun r z => (hr r z).1) ha (by omega) (k1.mono (by omega))
end Q

set_option Elab.async false
set_option linter.all false
set_option maxRecDepth 100000
set_option maxHeartbeats 4000000
namespace Q
open PySem L2 PySem.Spec VI
set_option hygiene false
local macro_rules | `(tactic| walk_at "go") => `(tactic| repeat (first | with_reducible refine seqW fun Kz kz1 kz2 kz3 kz4 => ?_ | (with_reducible refine kz1 _ ?_; clear kz1 kz2 kz3 kz4 Kz) | (with_reducible refine kz2 _ _ ?_; clear kz1 kz2 kz3 kz4 Kz) | (with_reducible refine kz3 _ ?_; clear kz1 kz2 kz3 kz4 Kz) | (with_reducible refine kz4 _ ?_; clear kz1 kz2 kz3 kz4 Kz) | walk_at "vw"))
set_option hygiene true
local macro_rules | `(tactic| walk_at "vw") => `(tactic| simp (disch := first | assumption | omega | (simp only [List.length_cons, List.length_nil, List.length_map, List.length_append, List.length_take, List.length_drop, List.length_set, List.length_replicate, List.length_range, len_rangeT, len_rng]; omega) | decide) only [↓Wp_cong, ↓Wp_ok, ↓Wp_ex, ↓Wp_bad, ↓Wp_bind, ↓Wp_tt, ↓Wp_ff, ↓Wp_dec, ↓Wp_notb, ↓Wp_not, ↓Wp_out, ↓Wp_e1, ↓Wp_e2, ↓Wp_eN, ↓Wp_eC, ↓Wp_aNil, ↓Wp_aCons, ↓Wp_aStar, ↓Wp_eTup, ↓Wp_eLst, ↓Wp_tOf, ↓Wp_tTrue, ↓Wp_tNot, ↓Wp_tAnd, ↓Wp_tOr, ↓Wp_eAnd, ↓Wp_eOr, ↓Wp_eNot, ↓Wp_eIf, ↓Wp_eFrz, ↓Wp_eChain, ↓Wp_sNx, ↓Wp_sBk, ↓Wp_sExpr, ↓Wp_sIf, ↓Wp_sRet, ↓Wp_sSet, ↓Wp_sAsg, ↓Wp_sFor, ↓Wp_sRaise, ↓Wp_sRaiseN, ↓Wp_sRaiseT, ↓Wp_sSub, ↓Wp_sAug, ↓Wp_runF, ↓Wp_eBmM, ↓Wp_eCall, ↓Wp_eOwn2, ↓Wp_eOwnI, ↓Wp_eOwn1, ↓Wp_eOwnIn, ↓Wp_eMeth, ↓Wp_eLenI, ↓Wp_eBlI, ↓Wp_eMake, ↓Wp_eCallO, ↓Wp_eCallO1, ↓Wp_eListOwn, ↓Wp_iAny, ↓Wp_iOwn, ↓Wp_iRange1, ↓Wp_iRange2, ↓Wp_iEnumL, ↓Wp_eLc, ↓Wp_eLc2, ↓Wp_vSc, ↓Wp_eSortedV, ↓Wp_vSet, ↓Wp_eSl, ↓Wp_oNone, ↓Wp_oSome, ↓Wp_eFld, ↓Wp_eIsi, ↓Wp_sFld, ↓Wp_eIsx, ↓Wp_sTryOnly, ↓Wp_sTryAs, ↓Wp_noX, ↓Wp_eIsq, ↓Wp_eXf, ↓Wp_eChain3, ↓Wp_sDcNew, ↓Wp_tDcIn, ↓Wp_sDcSet, ↓Wp_eDcGet, ↓Wp_sFz, ↓Wp_aDfl, ↓Wp_eWk, ↓Wp_eTf, ↓Wp_idxT, ↓Wp_cntT, ↓Wp_eCnt, ↓Wp_eIdx, ↓Wp_iSg, ↓Wp_iEnA, ↓Wp_hndNil, ↓Wp_hndAs, ↓Wp_hndOnly, ↓Wp_sTryH, ↓Wp_eOwnR, ↓Wp_pos, ↓Wp_neg, outK_v, outK_l, outK_u, e1K_some, e2K_some, eNK_some, optTK_some, derefs_nil, consO_some, derefs_cons, deref_val, deref_own, grounds_nil, grounds_val, grounds_own, grounds_vals, ground1_val, ground1_own, tupK_t, tupK_l, tK_bl, blK_bl, frzK_own, frzK_val, chB_some, chK_some, blOf_v, sqK_nx, sqK_rt, sqK_bk, sqK_ct, retK_val, retK_own, asgK_some, asgG_some, rsK_some, rtK_tup, ltK_some, subK_some, augK_some, augS_some, runK_rt, runK_nx, bmK_append, bmK_clear, bmK_reverse, er_map, bmK_index, bmK_popAt, bmK_insert, kE_val, kE_own, kF_some, kR_ev, kX_ev, callA_some, argSl_nil, consS_some, argSl_cons, argS_val, argS_own, backs_nil, backs_v, backs_ioV, backs_ioO, ownK_some, own2K_some, ownIK_some, inK_bl, inK_nb, methK_ins, methK_01, lenK_int, bliK_bl, rawK_some, mkK_non, mkX_ev, tkK_val, tkK_own, coK_own, co1K_own, co0K_val, lnK_int, heldK_some, itK_some, still_val, still_own, itemsT_lst, itemsT_tup, itemsT_sq, rgK_1, rgK_2, isR1_ok, isR2_ok, enK_some, plK_ok, plK_tt, lnP_ok, svK_ok, vsK_some, cutK_some, oiK_int, fldK_some, tryX_ev, trK_t, trK_f, isyK_ok, isxK_exn, isqK_exn, optK_some, xfK_exn, ch3K_some, fzK_nx, fzK_rt, frzSl_own, frzSl_val, frzSl_odc, dcInK_some, dcSetK_some, dcPutK_some, dcGetK_some, dcKeyK_some, keyOf_two, wkV_lst, wkV_tup, wkV_tf, wkV_sq, wkV_own, wkV_pk, tfK_lst, tfK_sq, ixB_ok, ctB_ok, ctA_ok, ixA_tf, ixA_lst, ixA_sq, idxL_ints, idxF_ints, sgK_some, enA_l, enA_t, hdK_t, hdK_f, hndX_ev, ownRK_some, ↓Wp_eVar, k_varV, k_varO, k_varI, k_varR, k_varP, ↓Wp_eVarF, k_vafV, k_vafO, k_setV, k_setO, k_der, k_derV, k_derO, k_derI, k_derR, k_derP, k_argV, k_argI, k_agvO, k_agvI, k_agvR, k_agvP, k_agvV, k_agiO, k_agiI, k_agiR, k_lat, k_lsO, k_lsI, k_put, k_ptO, k_ptI, k_stl, k_stP, k_bk, k_bkO, k_bkI, k_bkR, k_gNm, o_addI, o_addL, o_addT, o_pow6, o_pow5, o_sub, o_mul, o_mulL, o_fdiv, o_mod, o_neg, o_lt, o_le, o_gt, o_ge, o_abs, o_int, o_intB, o_min, o_max, o_lenL, o_lenT, o_lenQ, o_lenS, o_inS, o_notInS, o_listL, o_listT, o_listQ, o_tupL, o_tupQ, o_tupT, o_boolT, o_boolL, o_rev, o_revT, o_rg1, o_rg2, o_sum, o_maxL, o_minL, o_any, o_all, o_minT3, o_sortedP, o_sorted, o_gcd, o_cutLo, o_cutHi, o_cutHiT, o_cutLoT, o_tkMap, o_drMap, o_inLs, o_inTs, o_ixL, o_ixT, o_ixQ, o_ixLn, o_ixTn, o_ixL0, o_ixL1, o_ixL2, o_ixL3, o_ixT0, o_ixT1, o_ixT2, o_ixT3, o_ixR, o_ixRT, eqD_int, neD_int, eqD_bl, neD_bl, eqD_li, neD_li, eqD_tu, opIn_li, opIn_tu, opNotIn_li, opNotIn_tu, neD_lb, pow_10_18, pow_10_9, blOf_v, plain_no, mark1, mark1', plain_val, q_tf, q_ft, nth_0, nth_1, nth_2, nth_3, nth_map, nth_rng, mk_set, mk_zero, eqD_str, neD_str, rangeT_rng, T.isD, okIx, ioIx, pnIx, bIsi, kIs, kindOf, kInt, kBool, kStr, VI.kTup, VI.kLst, kNo, isNo, notNo, isCo, notCo, opIsN, isN, isB, gnd, ground1, putKs, putTs, fget, fldG, heldT, wipeR, backR, plainAt, gTp, gsCons, gsNil, clsO, Nat.reduceBEq, beq_self_eq_true, Nat.reduceEqDiff, Int.reduceAdd, Int.reduceSub, Int.reduceMul, Int.reduceEq, Int.reduceNe, decide_true, decide_false, decide_not, decide_eq_true_eq, Option.bind_some, Option.bind_none, implies_true, forall_const, Option.map_some, Option.map_none, List.cons_append, List.nil_append, List.replicate_succ, List.replicate_zero, List.getElem?_cons_zero, List.getElem?_cons_succ, List.getElem?_nil, List.set_cons_zero, List.set_cons_succ, List.length_cons, List.length_nil, List.map_cons, List.map_nil, List.take_succ_cons, List.take_zero, List.length_map, List.getD_cons_zero, List.getD_cons_succ, List.nodup_nil, List.nodup_cons, List.not_mem_nil, not_false_eq_true, not_true_eq_false, and_self, and_true, true_and, and_false, false_and, List.all_nil, List.all_cons, List.contains_nil, List.contains_cons, Bool.and_true, Bool.true_and, Bool.and_false, Bool.false_and, Bool.and_self, Bool.or_false, Bool.false_or, Bool.or_true, Bool.true_or, Bool.false_eq_true, Bool.true_eq_false, if_true, if_false, ite_true, ite_false, Bool.not_true, Bool.not_false, Bool.not_not, reduceIte, reduceCtorEq, Nat.reduceAdd, Nat.reduceLT, Nat.reduceLeDiff, Int.reduceLT, Int.reduceLE, Int.reduceToNat, Int.reduceNeg, Int.cast_ofNat_Int, Bool.decide_eq_true, List.reverse_cons, List.reverse_nil, List.append_assoc, List.lookup_cons, List.lookup_nil])
/-! ### the law -/
theorem law09_s (ns : List Int) {Q : EV → Ro → Prop} {X : EQ} (k : ∀ r, Q (.val (.bl true)) r) : Wp (m_law [.val (.sq (ns.map T.int))]) Q X := by
  unfold m_law
  walk_at "go"
  refine hand_s (by omega) (by omega) fun h0 _ _ _ k0 => ?_
  walk_at "go"
  refine take_s k0 (by omega) (by omega) (by omega) fun d1 h1 _ _ k1 d10 d11 => ?_
  walk_at "go"
  obtain ⟨n, hn⟩ : ∃ n, n = 1 + d1 := ⟨_, rfl⟩
  have n0 : 1 ≤ n := by omega
  have n1 : n ≤ 6 := by omega
  rw [← hn]
  obtain ⟨o1, o2⟩ := nm6_ok n0 n1
  obtain ⟨xs, hxs⟩ : ∃ xs, xs = nm6.take n.toNat := ⟨_, rfl⟩
  rw [← hxs] at o1 o2
  obtain ⟨c64, c6⟩ := chs6 n0 n1
  have hC : ((chs (rng n)).map tuI).length ≤ 64 := by rw [List.length_map]; exact c64
  refine drawn_s k1 (by omega) n0 n1 fun rs h2 _ _ hr ha hl k2 => ?_
  have hR : (rs.map rvT).length ≤ 36 := by rw [List.length_map]; exact hl
  walk_at "go"
  refine names_s n0 n1 fun _ _ => ?_
  rw [← hxs]
  walk_at "go"
  refine cinit_s o1 (by rw [o2]; exact hr) ha (by omega) fun _ _ _ => ?_
  walk_at "go"
  have hc : OkC n xs rs := ⟨o2, n0, n1, hr, ha⟩
  refine listed_s hc (by omega) fun _ _ _ _ => ?_
  walk_at "go"
  refine groups_s n0 n1 fun _ _ => ?_
  walk_at "go"
  refine wp_for tuI (chs (rng n)) (fun _ _ ρ => ∃ s5, ρ = [.val (.sq (ns.map T.int)), .own h2, .val (.int n), .val (.lst (rs.map rvT)), .val (crT xs rs), s5, .no, .no, .no, .no, .no, .no] ∧ s5.plain = true) ⟨_, rfl, rfl⟩ ?_ ?_
  · rintro done t rest _ e ⟨s5, rfl, p5⟩
    have htl := c6 t (show t ∈ chs (rng n) by rw [e]; simp)
    refine ⟨_, rfl, ?_⟩
    unfold tuI
    walk_at "go"
    rw [show (t.map T.int).reverse = t.reverse.map T.int by rw [List.map_reverse]]
    refine decides_s hc (by omega) (by rw [List.length_reverse]; omega) fun _ _ _ _ _ => ?_
    walk_at "go"
    exact ⟨_, rfl, rfl⟩
  rintro _ ⟨s5, rfl, p5⟩
  walk_at "go"
  refine hand_s (by omega) (by omega) fun h3 _ _ _ k3 => ?_
  walk_at "go"
  refine groups_s n0 n1 fun _ _ => ?_
  walk_at "go"
  obtain ⟨F, hF⟩ : ∃ F, F = (chs (rng n)).filter fun t => decide (((insN rs t).length : Int) = 0) := ⟨_, rfl⟩
  refine wp_lcp tuI (chs (rng n)) (fun t => decide (((insN rs t).length : Int) = 0)) tuI (fun t ht => ⟨_, rfl, ?_⟩) ?_
  · have htl := c6 t ht
    unfold tuI
    walk_at "go"
    refine inside_s (by omega) (.inr rfl) fun _ _ _ => ?_
    walk_at "go"
  rw [List.nil_append, ← hF]
  have F64 : F.length ≤ 64 := by rw [hF]; exact Nat.le_trans (List.length_filter_le _ _) c64
  have F0 : 0 < F.length := by
    rw [hF]
    refine List.length_pos_of_mem (a := []) (List.mem_filter.mpr ⟨(mem_chs _ _).mpr (List.nil_sublist _), ?_⟩)
    rw [decide_eq_true_eq]
    have : (insN rs []).length = 0 := ins0.mpr fun r _ m => by simp at m
    omega
  have hFl : (F.map tuI).length ≤ 64 := by rw [List.length_map]; exact F64
  obtain ⟨fl, hfl⟩ : ∃ fl : Int, fl = F.length := ⟨_, rfl⟩
  walk_at "go"
  simp only [← hfl]
  refine take_s k3 (by omega) (by omega) (by omega) fun d4 h4 _ _ k4 d40 d41 => ?_
  walk_at "go"
  obtain ⟨f, hf⟩ : ∃ f, f = nth F d4 := ⟨_, rfl⟩
  rw [← hf]
  have fm : f ∈ F := by rw [hf]; exact nth_mem d40 (by omega)
  have f6 : f.length ≤ 6 := by rw [hF] at fm; exact c6 f (List.mem_filter.mp fm).1
  refine lists_s k4 (by omega) n0 n1 f6 fun L h5 _ _ _ hL hLl => ?_
  have hLL : (L.map lsI).length ≤ 100 := by rw [List.length_map]; exact hLl
  walk_at "go"
  refine wp_for lsI L (fun _ _ ρ => ∃ s8, ρ = [.val (.sq (ns.map T.int)), .own h2, .val (.int n), .val (.lst (rs.map rvT)), .val (crT xs rs), s5, .own h5, .own (F.map tuI), s8, .no, .no, .no] ∧ s8.plain = true) ⟨_, rfl, rfl⟩ ?_ ?_
  · rintro done t rest _ e ⟨s8, rfl, p8⟩
    have htl := hL t (show t ∈ L by rw [e]; simp)
    refine ⟨_, rfl, ?_⟩
    unfold lsI
    walk_at "go"
    refine decides_s hc (by omega) htl fun _ _ _ _ _ => ?_
    walk_at "go"
    exact ⟨_, rfl, rfl⟩
  rintro _ ⟨s8, rfl, p8⟩
  walk_at "go"
  refine hand_s (by omega) (by omega) fun h6 _ _ _ k6 => ?_
  walk_at "go"
  refine drawn_s k6 (by omega) n0 n1 fun rs2 h7 _ _ hr2 ha2 hl2 k7 => ?_
  have hR2 : (rs2.map rvT).length ≤ 36 := by rw [List.length_map]; exact hl2
  walk_at "go"
  refine names_s n0 n1 fun _ _ => ?_
  rw [← hxs]
  walk_at "go"
  refine cinit_s o1 (by rw [o2]; exact hr2) ha2 (by omega) fun _ _ _ => ?_
  walk_at "go"
  have hc2 : OkC n xs rs2 := ⟨o2, n0, n1, hr2, ha2⟩
  refine listed_s hc2 (by omega) fun _ _ _ _ => ?_
  walk_at "go"
  refine listed_s hc (by omega) fun _ _ _ _ => ?_
  walk_at "go"
  have pR : Plain 4 (.tup (rs.map rvT)) := .tup (by omega) fun t ht => by
    obtain ⟨r, _, rfl⟩ := List.mem_map.mp ht
    exact .tup (by simp) (plain_c .int (plain_c .int (plain_c .int (plain_c .int plain_0))))
  unfold crT
  walk_at "go"
  refine same_vv pR fun _ _ _ => ?_
  walk_at "go"
  refine lenC_s o2 fun _ _ => ?_
  walk_at "go"
  refine same_vv Plain.int fun _ _ _ => ?_
  walk_at "go"
  exact k _
theorem math : VI.LawT Q.m_law 63 := fun ns hn => wp_end (law09_s ns fun r => rfl)
end Q

set_option Elab.async false
set_option maxRecDepth 100000
open PySem PySem.W PyProof.Rows in
set_option maxRecDepth 100000 in
set_option maxHeartbeats 0 in
theorem PySem.Challenge.cw_crossinglights_k09_stages_crowds_holds : PySem.Challenge.rw_crossinglights_k09_stages_crowds.Holds := by
  w_on; o_law; k_head; (case hw => w_witness2)
  k_fill
  refine Q.walk (l := PySem.Challenge.rw_crossinglights_k09_stages_crowds) Q.math rfl rfl (fun w h Y => PySem.W.kIn_of Y) ?F
  case F =>
    intro w mg fa h KX G hmg
    refine' Q.all_mk KX G hmg ?q_l0 ?q_c0 ?q_k0 ?q_a0 ?q_l1 ?q_c1 ?q_k1 ?q_a1 ?q_l2 ?q_c2 ?q_k2 ?q_a2 ?q_l3 ?q_c3 ?q_k3 ?q_a3 ?q_l4 ?q_c4 ?q_k4 ?q_l5 ?q_c5 ?q_k5 ?q_a5 ?q_l6 ?q_c6 ?q_k6 ?q_a6 ?q_l7 ?q_c7 ?q_k7 ?q_a7 ?q_l8 ?q_c8 ?q_k8 ?q_a8 ?q_l9 ?q_c9 ?q_k9 ?q_l10 ?q_c10 ?q_k10 ?q_a10 ?q_l11 ?q_c11 ?q_k11 ?q_a11 ?q_l12 ?q_c12 ?q_k12 ?q_a12 ?q_l13 ?q_c13 ?q_k13 ?q_a13 ?q_l14 ?q_c14 ?q_k14 ?q_l15 ?q_c15 ?q_k15 ?q_a15 ?q_l16 ?q_c16 ?q_k16 ?q_a16 ?q_l17 ?q_c17 ?q_k17 ?q_l18 ?q_c18 ?q_k18 ?q_l19 ?q_c19 ?q_k19 ?q_l20 ?q_c20 ?q_k20 ?q_a20 ?q_l21 ?q_c21 ?q_k21 ?q_a21 ?q_l22 ?q_c22 ?q_k22 ?q_a22 ?q_l23 ?q_c23 ?q_k23 ?q_a23 ?q_l24 ?q_c24 ?q_k24 ?q_a24 ?q_l25 ?q_c25 ?q_k25 ?q_a25 ?q_l26 ?q_c26 ?q_k26 ?q_a26 ?q_l27 ?q_c27 ?q_k27 ?q_a27 ?q_l28 ?q_c28 ?q_k28 ?q_a28 ?q_l29 ?q_c29 ?q_k29 ?q_a29 ?q_l30 ?q_c30 ?q_k30 ?q_a30 ?q_l31 ?q_c31 ?q_k31 ?q_a31 ?q_l32 ?q_c32 ?q_k32 ?q_a32 ?q_l33 ?q_c33 ?q_k33 ?q_a33 ?q_z_len ?q_z_abs ?q_z_int ?q_z_range ?q_g_MOST_STREAMS ?q_sb_BadCrossing ?q_ty_BadCrossing ?q_kc_BadCrossing ?q_ox_BadCrossing_l ?q_ox_BadCrossing_r ?q_ox_BadCrossing_sa ?q_na_BadCrossing_part ?q_na_BadCrossing_place ?q_fi_BadCrossing_zinitz ?q_tf_BadCrossingz_initz ?q_mC_BadCrossing ?q_z_enumerate ?q_g_MOST_LETTERS ?q_g_LETTERS ?q_z_all ?q_g_MOST_SPAN ?q_cl_Crossing_pg ?q_cl_Crossing_hd ?q_cl_Crossing_po ?q_cl_Crossing_sa ?q_na_Crossing__spans ?q_z_tuple ?q_na_Crossing_streams ?q_na_Crossing_rivals ?q_z_list ?q_mk_Crossing ?q_fi_Crossing_zinitz ?q_if_Crossingz_initz ?q_kc_Crossing ?q_mC_Crossing ?q_z_sorted ?q_fi_Crossing_zlenz ?q_if_Crossingz_lenz ?q_sb_UnknownStream ?q_ty_UnknownStream ?q_kc_UnknownStream ?q_ox_UnknownStream_l ?q_ox_UnknownStream_r ?q_ox_UnknownStream_sa ?q_na_UnknownStream_number ?q_fi_UnknownStream_zinitz ?q_tf_UnknownStreamz_initz ?q_mC_UnknownStream ?q_fi_Crossing__check ?q_if_Crossingzcheck ?q_fi_Crossing_span ?q_if_Crossing_span ?q_z_any ?q_z_isinstance ?q_z_bool ?q_z_str ?q_z_max ?q_z_min
    (case q_a0 => k_is)
    (case q_a1 => k_is)
    (case q_a2 => k_is)
    (case q_a3 => k_is)
    (case q_a5 => k_is)
    (case q_a6 => k_is)
    (case q_a7 => k_is)
    (case q_a8 => k_is)
    (case q_a10 => k_is)
    (case q_a11 => k_is)
    (case q_a12 => k_is)
    (case q_a13 => k_is)
    (case q_a15 => k_is)
    (case q_a16 => k_is)
    (case q_a20 => k_is)
    (case q_a21 => k_is)
    (case q_a22 => k_is)
    (case q_a23 => k_is)
    (case q_a24 => k_is)
    (case q_a25 => k_is)
    (case q_a26 => k_is)
    (case q_a27 => k_is)
    (case q_a28 => k_is)
    (case q_a29 => k_is)
    (case q_a30 => k_is)
    (case q_a31 => k_is)
    (case q_a32 => k_is)
    (case q_a33 => k_is)
    (case q_g_MOST_STREAMS => k_is)
    (case q_mC_BadCrossing => k_is)
    (case q_g_MOST_LETTERS => k_is)
    (case q_g_LETTERS => k_is)
    (case q_g_MOST_SPAN => k_is)
    (case q_mC_Crossing => k_is)
    (case q_mC_UnknownStream => k_is)
    (case q_fi_BadCrossing_zinitz => k_is)
    (case q_fi_Crossing_zinitz => k_is)
    (case q_fi_Crossing_zlenz => k_is)
    (case q_fi_UnknownStream_zinitz => k_is)
    (case q_fi_Crossing__check => k_is)
    (case q_fi_Crossing_span => k_is)
    (case q_l0 => k_is)
    (case q_l1 => k_is)
    (case q_l2 => k_is)
    (case q_l3 => k_is)
    (case q_l4 => k_is)
    (case q_l5 => k_is)
    (case q_l6 => k_is)
    (case q_l7 => k_is)
    (case q_l8 => k_is)
    (case q_l9 => k_is)
    (case q_l10 => k_is)
    (case q_l11 => k_is)
    (case q_l12 => k_is)
    (case q_l13 => k_is)
    (case q_l14 => k_is)
    (case q_l15 => k_is)
    (case q_l16 => k_is)
    (case q_l17 => k_is)
    (case q_l18 => k_is)
    (case q_l19 => k_is)
    (case q_l20 => k_is)
    (case q_l21 => k_is)
    (case q_l22 => k_is)
    (case q_l23 => k_is)
    (case q_l24 => k_is)
    (case q_l25 => k_is)
    (case q_l26 => k_is)
    (case q_l27 => k_is)
    (case q_l28 => k_is)
    (case q_l29 => k_is)
    (case q_l30 => k_is)
    (case q_l31 => k_is)
    (case q_l32 => k_is)
    (case q_l33 => k_is)
    (case q_ox_BadCrossing_l => k_is)
    (case q_ox_UnknownStream_l => k_is)
    (case q_c0 => k_is)
    (case q_k0 => k_is)
    (case q_c1 => k_is)
    (case q_k1 => k_is)
    (case q_c2 => k_is)
    (case q_k2 => k_is)
    (case q_c3 => k_is)
    (case q_k3 => k_is)
    (case q_c4 => k_is)
    (case q_k4 => k_is)
    (case q_c5 => k_is)
    (case q_k5 => k_is)
    (case q_c6 => k_is)
    (case q_k6 => k_is)
    (case q_c7 => k_is)
    (case q_k7 => k_is)
    (case q_c8 => k_is)
    (case q_k8 => k_is)
    (case q_c9 => k_is)
    (case q_k9 => k_is)
    (case q_c10 => k_is)
    (case q_k10 => k_is)
    (case q_c11 => k_is)
    (case q_k11 => k_is)
    (case q_c12 => k_is)
    (case q_k12 => k_is)
    (case q_c13 => k_is)
    (case q_k13 => k_is)
    (case q_c14 => k_is)
    (case q_k14 => k_is)
    (case q_c15 => k_is)
    (case q_k15 => k_is)
    (case q_c16 => k_is)
    (case q_k16 => k_is)
    (case q_c17 => k_is)
    (case q_k17 => k_is)
    (case q_c18 => k_is)
    (case q_k18 => k_is)
    (case q_c19 => k_is)
    (case q_k19 => k_is)
    (case q_c20 => k_is)
    (case q_k20 => k_is)
    (case q_c21 => k_is)
    (case q_k21 => k_is)
    (case q_c22 => k_is)
    (case q_k22 => k_is)
    (case q_c23 => k_is)
    (case q_k23 => k_is)
    (case q_c24 => k_is)
    (case q_k24 => k_is)
    (case q_c25 => k_is)
    (case q_k25 => k_is)
    (case q_c26 => k_is)
    (case q_k26 => k_is)
    (case q_c27 => k_is)
    (case q_k27 => k_is)
    (case q_c28 => k_is)
    (case q_k28 => k_is)
    (case q_c29 => k_is)
    (case q_k29 => k_is)
    (case q_c30 => k_is)
    (case q_k30 => k_is)
    (case q_c31 => k_is)
    (case q_k31 => k_is)
    (case q_c32 => k_is)
    (case q_k32 => k_is)
    (case q_c33 => k_is)
    (case q_k33 => k_is)
    (case q_z_len => k_is)
    (case q_z_abs => k_is)
    (case q_z_int => k_is)
    (case q_z_range => k_is)
    (case q_sb_BadCrossing => k_is)
    (case q_ty_BadCrossing => k_is)
    (case q_kc_BadCrossing => k_is)
    (case q_ox_BadCrossing_r => (first | rfl | decide +kernel))
    (case q_ox_BadCrossing_sa => k_is)
    (case q_na_BadCrossing_part => k_is)
    (case q_na_BadCrossing_place => k_is)
    (case q_tf_BadCrossingz_initz => k_is)
    (case q_z_enumerate => k_is)
    (case q_z_all => k_is)
    (case q_cl_Crossing_pg => k_is)
    (case q_cl_Crossing_hd => k_is)
    (case q_cl_Crossing_po => k_is)
    (case q_cl_Crossing_sa => k_is)
    (case q_na_Crossing__spans => k_is)
    (case q_z_tuple => k_is)
    (case q_na_Crossing_streams => k_is)
    (case q_na_Crossing_rivals => k_is)
    (case q_z_list => k_is)
    (case q_mk_Crossing => k_is)
    (case q_if_Crossingz_initz => k_is)
    (case q_kc_Crossing => k_is)
    (case q_z_sorted => k_is)
    (case q_if_Crossingz_lenz => k_is)
    (case q_sb_UnknownStream => k_is)
    (case q_ty_UnknownStream => k_is)
    (case q_kc_UnknownStream => k_is)
    (case q_ox_UnknownStream_r => (first | rfl | decide +kernel))
    (case q_ox_UnknownStream_sa => k_is)
    (case q_na_UnknownStream_number => k_is)
    (case q_tf_UnknownStreamz_initz => k_is)
    (case q_if_Crossingzcheck => k_is)
    (case q_if_Crossing_span => k_is)
    (case q_z_any => k_is)
    (case q_z_isinstance => k_is)
    (case q_z_bool => k_is)
    (case q_z_str => k_is)
    (case q_z_max => k_is)
    (case q_z_min => k_is)

