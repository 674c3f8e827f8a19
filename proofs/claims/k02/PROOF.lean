import PyProof.Rows.All
import HandS.ForMost
import HandS.ForExc
import HandS.Walk
import HandS.Star
import HandS.WideBits
import HandS.IsInst
import HandS.RaiseMore
import HandS.ExcInitHot
import HandS.ExcIs
import HandS.ExcField
import HandS.WordsExc
import HandS.Wide
import HandS.Style
import KE.IntBitsLaws
import Wide.All
import OpenK.AllK
import Wide.FinOn
import PySem.Challenge.RW_colonnade_k02_lanes
set_option Elab.async false
set_option linter.all false
set_option maxRecDepth 100000
/-! Nf0: what a value stands for, owned objects, the state at a point, outcomes, and the normal forms of readings. -/
namespace NF
open PySem PySem.Spec PyProof.Rows L2

abbrev Fg := PySem.W.Frag
abbrev MG := Str → Option Value

/-! ### outcomes -/
inductive Res (α : Type) where
  | ok (a : α)
  | err (c : Str) (fs : List (Str × PyData))
  | bad
namespace Res
def bind {α β : Type} : Res α → (α → Res β) → Res β
  | .ok a, f => f a
  | .err c fs, _ => .err c fs
  | .bad, _ => .bad
def map {α β : Type} (m : Res α) (f : α → β) : Res β := m.bind fun a => .ok (f a)
@[simp] theorem bind_ok {α β : Type} (a : α) (f : α → Res β) : (Res.ok a).bind f = f a := rfl
@[simp] theorem bind_err {α β : Type} (c : Str) (fs : List (Str × PyData)) (f : α → Res β) : (Res.err c fs : Res α).bind f = .err c fs := rfl
@[simp] theorem bind_bad {α β : Type} (f : α → Res β) : (Res.bad : Res α).bind f = .bad := rfl
theorem bind_assoc {α β γ : Type} (m : Res α) (f : α → Res β) (g : β → Res γ) : (m.bind f).bind g = m.bind fun a => (f a).bind g := by cases m <;> rfl
end Res
/-- a condition that must hold -/
@[irreducible] def need (p : Prop) [Decidable p] {α : Type} (m : Res α) : Res α := if p then m else .bad

/-! bounds, so told that the kernel never counts down from them -/
def inB (k : Nat) : Int → Bool
  | .ofNat m => Nat.ble (m + 1) k
  | .negSucc m => Nat.ble (m + 1) k
theorem inB_iff {k : Nat} {n : Int} : inB k n = true ↔ -(k : Int) ≤ n ∧ n < k := by
  cases n with
  | ofNat m => show Nat.ble (m + 1) k = true ↔ _; rw [Nat.ble_eq]; simp only [Int.ofNat_eq_natCast]; omega
  | negSucc m => show Nat.ble (m + 1) k = true ↔ _; rw [Nat.ble_eq]; omega
/-- within 2^62, 2^63 either way -/
def Rg62 (n : Int) : Prop := -(2 ^ 62) ≤ n ∧ n < 2 ^ 62
def Rg63 (n : Int) : Prop := -(2 ^ 63) ≤ n ∧ n < 2 ^ 63
def Rg64 (n : Int) : Prop := -(2 ^ 64) < n ∧ n < 2 ^ 64
@[irreducible] def decRg62 (n : Int) : Decidable (Rg62 n) := decidable_of_iff (inB 4611686018427387904 n = true) (by rw [inB_iff]; unfold Rg62; omega)
instance (n : Int) : Decidable (Rg62 n) := decRg62 n
@[irreducible] def decRg63 (n : Int) : Decidable (Rg63 n) := decidable_of_iff (inB 9223372036854775808 n = true) (by rw [inB_iff]; unfold Rg63; omega)
instance (n : Int) : Decidable (Rg63 n) := decRg63 n
def posB (k : Nat) : Int → Bool
  | .ofNat m => Nat.ble (m + 1) k
  | .negSucc _ => false
theorem posB_iff {k : Nat} {n : Int} : posB k n = true ↔ 0 ≤ n ∧ n < k := by
  cases n with
  | ofNat m => show Nat.ble (m + 1) k = true ↔ _; rw [Nat.ble_eq]; simp only [Int.ofNat_eq_natCast]; omega
  | negSucc m => show false = true ↔ _; simp only [Bool.false_eq_true, false_iff]; omega
def Ps63 (n : Int) : Prop := 0 ≤ n ∧ n < 2 ^ 63
@[irreducible] def decPs63 (n : Int) : Decidable (Ps63 n) := decidable_of_iff (posB 9223372036854775808 n = true) (by rw [posB_iff]; unfold Ps63; omega)
instance (n : Int) : Decidable (Ps63 n) := decPs63 n
/-! ### what a value stands for -/
theorem same_rd {H H' : Hp} {a : Addr} {u : HO} (e : Same H H') (h : Rd H a u) : Rd H' a u := by
  rcases h with h | ⟨o, h⟩
  · exact .inl (e a _ h)
  · exact .inr ⟨o, e a _ h⟩
theorem same_t {K : Fg} {H H' : Hp} {a : Addr} {xs : List V} (e : Same H H') (h : SqT K H a xs) : SqT K H' a xs := by
  rcases h with h | h
  · exact .inl (same_rd e h)
  · exact .inr h
mutual
theorem dp_mono {K : Fg} {H H' : Hp} (e : Same H H') : ∀ {v : V} {d : PyData}, Dp K H v d → Dp K H' v d
  | _, _, .non => .non
  | _, _, .bl b => .bl b
  | _, _, .int i => .int i
  | _, _, .str x => .str x
  | _, _, .lst h hs => .lst (e.seq h) (dpAll_mono e hs)
  | _, _, .tup h hs => .tup (same_t e h) (dpAll_mono e hs)
theorem dpAll_mono {K : Fg} {H H' : Hp} (e : Same H H') : ∀ {v : List V} {d : List PyData}, DpAll K H v d → DpAll K H' v d
  | _, _, .nil => .nil
  | _, _, .cons h hs => .cons (dp_mono e h) (dpAll_mono e hs)
end

class Rep (α : Type) where
  rep : Fg → MG → Hp → V → α → Prop
  mono : ∀ {K : Fg} {mg : MG} {H H' : Hp} {v : V} {a : α}, Same H H' → rep K mg H v a → rep K mg H' v a
/-- what is the same in every heap -/
class Flat (α : Type) [Rep α] where
  enc : α → V
  iff : ∀ {K : Fg} {mg : MG} {H : Hp} {v : V} {a : α}, Rep.rep K mg H v a ↔ v = enc a
/-- plain data -/
class Data (α : Type) [Rep α] where
  toD : α → PyData
  dp : ∀ {K : Fg} {mg : MG} {H : Hp} {v : V} {a : α}, Rep.rep K mg H v a → Dp K H v (toD a)
open Data (toD)
instance : Rep Int := ⟨fun _ _ _ v a => v = .int a, fun _ h => h⟩
instance : Rep Bool := ⟨fun _ _ _ v a => v = .bl a, fun _ h => h⟩
instance : Rep Str := ⟨fun _ _ _ v a => v = .str a, fun _ h => h⟩
instance : Rep Unit := ⟨fun _ _ _ v _ => v = .non, fun _ h => h⟩
instance : Rep PyData := ⟨fun K _ H v a => Dp K H v a, fun e h => dp_mono e h⟩
instance : Flat Int := ⟨.int, Iff.rfl⟩
instance : Flat Bool := ⟨.bl, Iff.rfl⟩
instance : Flat Str := ⟨.str, Iff.rfl⟩
instance : Flat Unit := ⟨fun _ => .non, Iff.rfl⟩
instance : Data Int := ⟨.int, fun h => by subst h; exact .int _⟩
instance : Data Bool := ⟨.bool, fun h => by subst h; exact .bl _⟩
instance : Data Str := ⟨.str, fun h => by subst h; exact .str _⟩
instance : Data Unit := ⟨fun _ => .none, fun h => by subst h; exact .non⟩
instance : Data PyData := ⟨id, fun h => h⟩
abbrev Reps {α : Type} [Rep α] (K : Fg) (mg : MG) (H : Hp) : List V → List α → Prop := Paired (Rep.rep K mg H)
theorem Reps.mono {α : Type} [Rep α] {K : Fg} {mg : MG} {H H' : Hp} {vs : List V} {as : List α} (e : Same H H') (h : Reps K mg H vs as) : Reps K mg H' vs as := L2.Paired.mapP h fun _ _ r => Rep.mono e r
theorem reps_flat {α : Type} [Rep α] [Flat α] {K : Fg} {mg : MG} {H : Hp} : ∀ {vs : List V} {as : List α}, Reps K mg H vs as ↔ vs = as.map Flat.enc
  | [], [] => ⟨fun _ => rfl, fun _ => .nil⟩
  | [], _ :: _ => ⟨fun h => (nomatch h), fun h => by simp at h⟩
  | _ :: _, [] => ⟨fun h => (nomatch h), fun h => by simp at h⟩
  | v :: vs, a :: as => ⟨fun h => by
      cases h with
      | cons r t => rw [List.map_cons, (Flat.iff).mp r, (reps_flat).mp t],
    fun h => by
      rw [List.map_cons] at h
      injection h with h1 h2
      exact .cons ((Flat.iff).mpr h1) ((reps_flat).mpr h2)⟩

theorem Reps.length {α : Type} [Rep α] {K : Fg} {mg : MG} {H : Hp} {vs : List V} {as : List α} (h : Reps K mg H vs as) : vs.length = as.length := PySem.Paired.length h
theorem reps_get {α : Type} [Rep α] {K : Fg} {mg : MG} {H : Hp} : ∀ {vs : List V} {as : List α} {i : Nat} {a : α}, Reps K mg H vs as → as[i]? = some a → ∃ v, vs[i]? = some v ∧ Rep.rep K mg H v a
  | _, _, _, _, .nil, e => by simp at e
  | _, _, 0, _, .cons r _, e => by simp at e; subst e; exact ⟨_, rfl, r⟩
  | _, _, i + 1, a, .cons r t, e => by
    obtain ⟨u, h1, h2⟩ := reps_get (i := i) (a := a) t (by simpa using e)
    exact ⟨u, by simpa using h1, h2⟩
theorem reps_at {α : Type} [Rep α] {K : Fg} {mg : MG} {H : Hp} : ∀ {vs : List V} {as : List α} {i : Nat} {v : V}, Reps K mg H vs as → vs[i]? = some v → ∃ a, as[i]? = some a ∧ Rep.rep K mg H v a
  | _, _, _, _, .nil, e => by simp at e
  | _, _, 0, _, .cons r _, e => by simp at e; subst e; exact ⟨_, rfl, r⟩
  | _, _, i + 1, a, .cons r t, e => by
    obtain ⟨u, h1, h2⟩ := reps_at (i := i) (v := a) t (by simpa using e)
    exact ⟨u, by simpa using h1, h2⟩
theorem reps_append {α : Type} [Rep α] {K : Fg} {mg : MG} {H : Hp} : ∀ {vs ws : List V} {as bs : List α}, Reps K mg H vs as → Reps K mg H ws bs → Reps K mg H (vs ++ ws) (as ++ bs)
  | _, _, _, _, .nil, s => s
  | _, _, _, _, .cons r t, s => .cons r (reps_append t s)
theorem reps_take {α : Type} [Rep α] {K : Fg} {mg : MG} {H : Hp} : ∀ {vs : List V} {as : List α} (n : Nat), Reps K mg H vs as → Reps K mg H (vs.take n) (as.take n)
  | _, _, 0, _ => .nil
  | _, _, _ + 1, .nil => .nil
  | _, _, n + 1, .cons r t => .cons r (reps_take n t)
theorem reps_drop {α : Type} [Rep α] {K : Fg} {mg : MG} {H : Hp} : ∀ {vs : List V} {as : List α} (n : Nat), Reps K mg H vs as → Reps K mg H (vs.drop n) (as.drop n)
  | _, _, 0, r => r
  | _, _, _ + 1, .nil => .nil
  | _, _, n + 1, .cons _ t => reps_drop n t
theorem reps_set {α : Type} [Rep α] {K : Fg} {mg : MG} {H : Hp} {v : V} {a : α} (r : Rep.rep K mg H v a) : ∀ {vs : List V} {as : List α} (n : Nat), Reps K mg H vs as → Reps K mg H (vs.set n v) (as.set n a)
  | _, _, _, .nil => .nil
  | _, _, 0, .cons _ t => .cons r t
  | _, _, n + 1, .cons q t => .cons q (reps_set r n t)
theorem reps_dp {α : Type} [Rep α] [Data α] {K : Fg} {mg : MG} {H : Hp} : ∀ {vs : List V} {as : List α}, Reps K mg H vs as → DpAll K H vs (as.map toD)
  | _, _, .nil => .nil
  | _, _, .cons r t => .cons (Data.dp r) (reps_dp t)
/-- a list, a tuple of things of one kind, one of both -/
instance {α : Type} [Rep α] : Rep (List α) := ⟨fun K mg H v as => ∃ p vs, v = .ref p ∧ H p = some (.lst vs) ∧ Reps K mg H vs as, fun e ⟨p, vs, h1, h2, h3⟩ => ⟨p, vs, h1, e _ _ h2, h3.mono e⟩⟩
structure Tp (α : Type) where
  xs : List α
instance {α : Type} [Rep α] : Rep (Tp α) := ⟨fun K mg H v as => ∃ p vs, v = .ref p ∧ SqT K H p vs ∧ Reps K mg H vs as.xs, fun e ⟨p, vs, h1, h2, h3⟩ => ⟨p, vs, h1, same_t e h2, h3.mono e⟩⟩
inductive Sq (α : Type) where
  | l (xs : List α)
  | t (xs : List α)
def Sq.xs {α : Type} : Sq α → List α
  | .l xs => xs
  | .t xs => xs
instance {α : Type} [Rep α] : Rep (Sq α) where
  rep K mg H v as := match as with
    | .l xs => Rep.rep K mg H v xs
    | .t xs => Rep.rep K mg H v (Tp.mk xs)
  mono {K mg H H' v a} e h := by
    cases a with
    | l xs => exact Rep.mono (α := List α) e h
    | t xs => exact Rep.mono (α := Tp α) e h
instance {α : Type} [Rep α] [Data α] : Data (List α) := ⟨fun xs => .list (xs.map toD), fun ⟨p, vs, h1, h2, h3⟩ => by subst h1; exact .lst (.of h2) (reps_dp h3)⟩
instance {α : Type} [Rep α] [Data α] : Data (Tp α) := ⟨fun xs => .tuple (xs.xs.map toD), fun ⟨p, vs, h1, h2, h3⟩ => by subst h1; exact .tup h2 (reps_dp h3)⟩
instance {α : Type} [Rep α] [Data α] : Data (Sq α) := ⟨fun | .l xs => toD xs | .t xs => toD (Tp.mk xs), fun {K mg H v a} h => by
  cases a with
  | l xs => exact Data.dp (α := List α) h
  | t xs => exact Data.dp (α := Tp α) h⟩
/-- tuples of two, three, four -/
instance {α β : Type} [Rep α] [Rep β] : Rep (α × β) := ⟨fun K mg H v t => ∃ p a b, v = .ref p ∧ SqT K H p [a, b] ∧ Rep.rep K mg H a t.1 ∧ Rep.rep K mg H b t.2, fun e ⟨p, a, b, h1, h2, h3, h4⟩ => ⟨p, a, b, h1, same_t e h2, Rep.mono e h3, Rep.mono e h4⟩⟩
instance {α β : Type} [Rep α] [Rep β] [Data α] [Data β] : Data (α × β) := ⟨fun t => .tuple [toD t.1, toD t.2], fun ⟨p, a, b, h1, h2, h3, h4⟩ => by subst h1; exact .tup h2 (.cons (Data.dp h3) (.cons (Data.dp h4) .nil))⟩
/-- list-like: what can be walked, counted, read by place -/
class Lk (s : Type) (α : outParam Type) [Rep s] [Rep α] where
  its : s → List α
  get : ∀ {K : Fg} {mg : MG} {H : Hp} {v : V} {a : s}, Rep.rep K mg H v a → ∃ p vs, v = .ref p ∧ (SqL K H p vs ∨ SqT K H p vs) ∧ Reps K mg H vs (its a)
instance {α : Type} [Rep α] : Lk (List α) α := ⟨id, fun ⟨p, vs, h1, h2, h3⟩ => ⟨p, vs, h1, .inl (.of h2), h3⟩⟩
instance {α : Type} [Rep α] : Lk (Tp α) α := ⟨Tp.xs, fun ⟨p, vs, h1, h2, h3⟩ => ⟨p, vs, h1, .inr h2, h3⟩⟩
instance {α : Type} [Rep α] : Lk (Sq α) α := ⟨Sq.xs, fun {K mg H v a} h => by
  cases a with
  | l xs =>
    obtain ⟨p, vs, h1, h2, h3⟩ := (show Rep.rep K mg H v xs from h)
    exact ⟨p, vs, h1, .inl (.of h2), h3⟩
  | t xs =>
    obtain ⟨p, vs, h1, h2, h3⟩ := (show Rep.rep K mg H v (Tp.mk xs) from h)
    exact ⟨p, vs, h1, .inr h2, h3⟩⟩

/-! ### a heap without some addresses -/
def less (H : Hp) (A : List Addr) : Hp := fun a => if a ∈ A then none else H a
theorem less_in {H : Hp} {A : List Addr} {a : Addr} (h : a ∈ A) : less H A a = none := by unfold less; rw [if_pos h]
theorem less_out {H : Hp} {A : List Addr} {a : Addr} (h : a ∉ A) : less H A a = H a := by unfold less; rw [if_neg h]
theorem less_same {H : Hp} {A : List Addr} : Same (less H A) H := fun b o h => by
  by_cases hb : b ∈ A
  · rw [less_in hb] at h; cases h
  · rw [less_out hb] at h; exact h
theorem less_mono {H H' : Hp} {A : List Addr} (e : ∀ b o, b ∉ A → H b = some o → H' b = some o) : Same (less H A) (less H' A) := fun b o h => by
  by_cases hb : b ∈ A
  · rw [less_in hb] at h; cases h
  · rw [less_out hb] at h ⊢; exact e b o hb h
theorem less_sub {H : Hp} {A B : List Addr} (h : ∀ a ∈ B, a ∈ A) : Same (less H A) (less H B) := fun b o q => by
  by_cases hb : b ∈ A
  · rw [less_in hb] at q; cases q
  · rw [less_out hb] at q
    rw [less_out fun z => hb (h b z)]
    exact q

/-! ### owned objects, the state at a point -/
/-- what a slot holds -/
structure Asr where
  P : Hp → V → Prop
  mono : ∀ {H H' : Hp} {v : V}, Same H H' → P H v → P H' v
/-- a fact of the heap without the owned objects -/
structure Fact where
  P : Hp → Prop
  mono : ∀ {H H' : Hp}, Same H H' → P H → P H'
structure Own where
  a : Addr
  P : Hp → HO → Prop
  mono : ∀ {H H' : Hp} {o : HO}, Same H H' → P H o → P H' o
section
variable (K : Fg) (mg : MG)
def vl {α : Type} [Rep α] (a : α) : Option Asr := some ⟨fun H v => Rep.rep K mg H v a, fun e h => Rep.mono e h⟩
def rf (p : Addr) : Option Asr := some ⟨fun _ v => v = .ref p, fun _ h => h⟩
def ow {α : Type} [Rep α] (p : Addr) (as : List α) : Own := ⟨p, fun H o => ∃ vs, o = .lst vs ∧ Reps K mg H vs as, fun e ⟨vs, h, r⟩ => ⟨vs, h, r.mono e⟩⟩
end

/-- a def's run: the module, the heap at its entry, what it may change, what stands out of sight, what it had to change at first, what is wished of exceptions -/
structure Fr where
  K : Fg
  mg : MG
  H0 : Hp
  W : List Addr
  A : List Addr
  O0 : List Own
  E : XK
  Z : List Fact
abbrev addrs (O : List Own) : List Addr := O.map Own.a
def rg (F : Fr) (O : List Own) (H : Hp) : Hp := less H (addrs O ++ F.A)
structure GO (F : Fr) (O : List Own) (H : Hp) : Prop where
  objs : ∀ w ∈ O, ∃ o, H w.a = some o ∧ w.P (rg F O H) o
  nd : (addrs O).Nodup
  own : ∀ w ∈ O, w.a ∈ F.W ∨ F.H0 w.a = none
  keep : ∀ a o, F.H0 a = some o → a ∉ F.W → H a = some o
  live : ∀ a, F.H0 a ≠ none → H a ≠ none
  hid : ∀ a ∈ F.A, F.H0 a ≠ none
  apart : ∀ w ∈ O, w.a ∉ F.A
  facts : ∀ z ∈ F.Z, z.P (rg F O H)
def SlotOk (R : Hp) : Option Asr → Option V → Prop
  | none, _ => True
  | some p, some v => p.P R v
  | some _, none => False
structure G (F : Fr) (L : List (Option Asr)) (O : List Own) (σ : L2.St) (H : Hp) : Prop where
  slots : Paired (SlotOk (rg F O H)) L σ
  go : GO F O H

theorem SlotOk.mono {R R' : Hp} (e : Same R R') : ∀ {p : Option Asr} {v : Option V}, SlotOk R p v → SlotOk R' p v
  | none, _, _ => trivial
  | some p, some v, h => p.mono e h
theorem GO.out {F : Fr} {O : List Own} {H : Hp} (g : GO F O H) {p : Addr} (h : H p = none) : p ∉ addrs O ++ F.A := fun z => by
  rcases List.mem_append.mp z with z | z
  · obtain ⟨w, hw, e⟩ := List.mem_map.mp z
    obtain ⟨o, ho, _⟩ := g.objs w hw
    rw [e, h] at ho
    cases ho
  · exact g.live p (g.hid p z) h
/-- the heap grows -/
theorem GO.grow {F : Fr} {O : List Own} {H H' : Hp} (g : GO F O H) (e : Same H H') : GO F O H' where
  objs := fun w hw => let ⟨o, ho, h⟩ := g.objs w hw; ⟨o, e _ _ ho, w.mono (less_mono fun b o _ q => e b o q) h⟩
  nd := g.nd
  own := g.own
  keep := fun a o h hw => e _ _ (g.keep a o h hw)
  live := fun a h z => by
    cases q : H a with
    | none => exact g.live a h q
    | some o => rw [e _ _ q] at z; cases z
  hid := g.hid
  apart := g.apart
  facts := fun z hz => z.mono (less_mono fun b o _ q => e b o q) (g.facts z hz)
theorem rg_grow {F : Fr} {O : List Own} {H H' : Hp} (e : Same H H') : Same (rg F O H) (rg F O H') := less_mono fun b o _ q => e b o q

theorem G.grow {F : Fr} {L : List (Option Asr)} {O : List Own} {σ : L2.St} {H H' : Hp} (g : G F L O σ H) (e : Same H H') : G F L O σ H' :=
  ⟨L2.Paired.mapP g.slots fun _ _ h => h.mono (rg_grow e), g.go.grow e⟩
theorem same_upd {H : Hp} {p : Addr} {o : HO} (h : H p = none) : Same H (upd H p o) := fun b x e => by
  rw [upd_ne (ne_of_none e h)]
  exact e
end NF

set_option Elab.async false
set_option linter.all false
set_option maxRecDepth 100000
/-! Nf1: the normal forms, and how they compose. -/
namespace NF
open PySem PySem.Spec PyProof.Rows L2
open Data (toD)

abbrev XdOk (K : Fg) (H : Hp) : List (Str × V) → List (Str × PyData) → Prop := Paired fun p q => p.1 = q.1 ∧ Dp K H p.2 q.2
/-- an exception's fields: its dict, new since H0 -/
def XdAt (K : Fg) (H0 H' : Hp) (d : Option Addr) (fs : List (Str × PyData)) : Prop := match d with
  | none => fs = []
  | some d => H0 d = none ∧ ∃ vs, H' d = some (.xd vs) ∧ XdOk K H' vs fs
theorem XdAt.older {K : Fg} {H0 H1 H' : Hp} {d : Option Addr} {fs : List (Str × PyData)} (h : XdAt K H1 H' d fs) (l : ∀ a, H0 a ≠ none → H1 a ≠ none) : XdAt K H0 H' d fs := by
  cases d with
  | none => exact h
  | some d => exact ⟨Decidable.byContradiction fun z => l d z h.1, h.2⟩
def ErrK (F : Fr) (c : Str) (fs : List (Str × PyData)) (Post : Hp → Prop) : Prop :=
  ∀ C d H', F.mg c = some (.ref C) → XdAt F.K F.H0 H' d fs → Post H' → F.E (.ref C) d H'
def Out {α : Type} (F : Fr) (m : Res α) (k : α → Prop) (xp : Hp → Prop) : Prop := match m with
  | .ok a => k a
  | .err c fs => ErrK F c fs xp
  | .bad => False
theorem Out.mono {α : Type} {F : Fr} {m : Res α} {k k' : α → Prop} {xp xp' : Hp → Prop} (h : Out F m k xp) (hk : ∀ a, k a → k' a) (hx : ∀ H', xp' H' → xp H') : Out F m k' xp' := by
  cases m with
  | ok a => exact hk a h
  | err c fs => exact fun C d H' h1 h2 h4 => h C d H' h1 h2 (hx H' h4)
  | bad => exact h.elim
theorem out_bind {α β : Type} {F : Fr} {m : Res α} {f : α → Res β} {k : β → Prop} {xp : Hp → Prop} : Out F (m.bind f) k xp ↔ Out F m (fun a => Out F (f a) k xp) xp := by
  cases m <;> exact Iff.rfl
theorem out_need {α : Type} {F : Fr} {p : Prop} [Decidable p] {m : Res α} {k : α → Prop} {xp : Hp → Prop} : Out F (need p m) k xp ↔ p ∧ Out F m k xp := by
  unfold need
  by_cases h : p
  · rw [if_pos h]; exact ⟨fun q => ⟨h, q⟩, fun q => q.2⟩
  · rw [if_neg h]; exact ⟨fun q => q.elim, fun q => (h q.1).elim⟩

def rgn (b : Bool) (F : Fr) (O : List Own) (H : Hp) : Hp := if b then rg F O H else H
theorem rgn_grow {b : Bool} {F : Fr} {O : List Own} {H H' : Hp} (e : Same H H') : Same (rgn b F O H) (rgn b F O H') := by
  cases b
  · exact e
  · exact rg_grow e
theorem rgn_sub {b : Bool} {F : Fr} {O : List Own} {H : Hp} : Same (rgn b F O H) H := by
  cases b
  · exact Same.refl _
  · exact less_same
abbrev rp {α : Type} [Rep α] (F : Fr) (R : Hp) (v : V) (a : α) : Prop := Rep.rep F.K F.mg R v a
abbrev KP (α : Type) [Rep α] (b : Bool) (F : Fr) (L : List (Option Asr)) (O : List Own) (σ : L2.St) (H : Hp) (Q : VK) : α → Prop :=
  fun a => ∀ v H', G F L O σ H' → Same H H' → rp F (rgn b F O H') v a → Q v H'
abbrev XP (F : Fr) (L : List (Option Asr)) (O : List Own) (σ : L2.St) (H : Hp) : Hp → Prop := fun H' => G F L O σ H' ∧ Same H H'
/-- an expression: its value (b: seen without the owned objects) -/
def tP {α : Type} [Rep α] (b : Bool) (F : Fr) (L : List (Option Asr)) (O : List Own) (m : Res α) : TE := fun σ H Q =>
  G F L O σ H ∧ Out F m (KP α b F L O σ H Q) (XP F L O σ H)
/-- an expression whose value is a new list -/
def tF {α : Type} [Rep α] (b : Bool) (F : Fr) (L : List (Option Asr)) (O : List Own) (m : Res (List α)) : TE := fun σ H Q =>
  G F L O σ H ∧ Out F m (fun as => ∀ p vs H', G F L O σ H' → Same H H' → H p = none → H' p = some (.lst vs) → Reps F.K F.mg (less (rgn b F O H') [p]) vs as → Q (.ref p) H') (XP F L O σ H)
/-- a test -/
def tB' (F : Fr) (L : List (Option Asr)) (O : List Own) (m : Res Bool) : TT := fun σ H Q =>
  G F L O σ H ∧ Out F m (fun c => ∀ H', G F L O σ H' → Same H H' → Q c H') (XP F L O σ H)
/-- arguments -/
class RepA (τ : Type) where
  rep : Fg → MG → Hp → List V → τ → Prop
  mono : ∀ {K : Fg} {mg : MG} {H H' : Hp} {vs : List V} {a : τ}, Same H H' → rep K mg H vs a → rep K mg H' vs a
instance : RepA Unit := ⟨fun _ _ _ vs _ => vs = [], fun _ h => h⟩
structure Ar (α τ : Type) where
  x : α
  r : τ
instance {α τ : Type} [Rep α] [RepA τ] : RepA (Ar α τ) where
  rep K mg H vs a := ∃ v ws, vs = v :: ws ∧ Rep.rep K mg H v a.x ∧ RepA.rep K mg H ws a.r
  mono e h := let ⟨v, ws, h1, h2, h3⟩ := h; ⟨v, ws, h1, Rep.mono e h2, RepA.mono e h3⟩
def tA {τ : Type} [RepA τ] (b : Bool) (F : Fr) (L : List (Option Asr)) (O : List Own) (m : Res τ) : TA := fun σ H Q =>
  G F L O σ H ∧ Out F m (fun a => ∀ vs H', G F L O σ H' → Same H H' → RepA.rep F.K F.mg (rgn b F O H') vs a → Q vs H') (XP F L O σ H)

theorem pe_imp {X : Cx} {e : Expr} {t t' : TE} (h : PE X e t) (i : ∀ σ H Q, t' σ H Q → t σ H Q) : PE X e t' := ⟨fun pins s σ H Q I q => h.run pins s σ H Q I (i σ H Q q)⟩
theorem pt_imp {X : Cx} {e : Expr} {t t' : TT} (h : PT X e t) (i : ∀ σ H Q, t' σ H Q → t σ H Q) : PT X e t' := ⟨fun pins s σ H Q I q => h.run pins s σ H Q I (i σ H Q q)⟩
theorem pa_imp {X : Cx} {e : List Expr} {t t' : TA} (h : PA X e t) (i : ∀ σ H Q, t' σ H Q → t σ H Q) : PA X e t' := ⟨fun pos pins s σ H Q I q => h.run pos pins s σ H Q I (i σ H Q q)⟩
theorem ps_imp {X : Cx} {e : Stmt} {t t' : TS} (h : PS X e t) (i : ∀ D σ H, t' D σ H → t D σ H) : PS X e t' := ⟨fun pins s σ H D I q => h.run pins s σ H D I (i D σ H q)⟩
theorem pss_imp {X : Cx} {e : List Stmt} {t t' : TS} (h : PSs X e t) (i : ∀ D σ H, t' D σ H → t D σ H) : PSs X e t' := ⟨fun pins s σ H D I q => h.run pins s σ H D I (i D σ H q)⟩

section
variable {X : Cx} {F : Fr} {L : List (Option Asr)} {O : List Own} {α β γ : Type} [Rep α] [Rep β] [Rep γ]
theorem weak {e : Expr} {b : Bool} {m : Res α} (h : PE X e (tP true F L O m)) : PE X e (tP b F L O m) := pe_imp h fun σ H Q ⟨g, q⟩ => ⟨g, q.mono (fun a k v H' g' s r => k v H' g' s (by
  cases b
  · exact Rep.mono less_same r
  · exact r)) fun _ x => x⟩
theorem strong [Flat α] {e : Expr} {b b' : Bool} {m : Res α} (h : PE X e (tP b F L O m)) : PE X e (tP b' F L O m) := pe_imp h fun σ H Q ⟨g, q⟩ => ⟨g, q.mono (fun a k v H' g' s r => k v H' g' s (Flat.iff.mpr (Flat.iff.mp r))) fun _ x => x⟩

/-- by values: what an operation asks -/
def RR (F : Fr) (L : List (Option Asr)) (O : List Own) (b1 b2 b3 : Bool) (r : R2) (mc : α → β → Res γ) : Prop :=
  ∀ x y vx vy H σ Q, G F L O σ H → rp F (rgn b1 F O H) vx x → rp F (rgn b2 F O H) vy y → Out F (mc x y) (KP γ b3 F L O σ H Q) (XP F L O σ H) → r vx vy H Q
theorem nf2 {e : Expr} {b1 b2 b3 : Bool} {r : R2} {ma : Res α} {mb : Res β} {mc : α → β → Res γ} (h : PE X e (tOp r (tP b1 F L O ma) (tP b2 F L O mb))) (hr : RR F L O b1 b2 b3 r mc) :
    PE X e (tP b3 F L O (ma.bind fun x => mb.bind fun y => mc x y)) := pe_imp h fun σ H Q ⟨g, q⟩ => by
  rw [out_bind] at q
  refine ⟨g, q.mono (fun x qx v1 H1 g1 s1 r1 => ?_) fun _ z => z⟩
  rw [out_bind] at qx
  refine ⟨g1, qx.mono (fun y qy v2 H2 g2 s2 r2 => ?_) fun H' ⟨a, b⟩ => ⟨a, s1.trans b⟩⟩
  exact hr x y v1 v2 H2 σ Q g2 (Rep.mono (rgn_grow s2) r1) r2 (qy.mono (fun z kz v H' g' s' r' => kz v H' g' ((s1.trans s2).trans s') r') fun H' ⟨a, b⟩ => ⟨a, (s1.trans s2).trans b⟩)
def R1 (F : Fr) (L : List (Option Asr)) (O : List Own) (b1 b3 : Bool) (r : V → Hp → VK → Prop) (mc : α → Res γ) : Prop :=
  ∀ x vx H σ Q, G F L O σ H → rp F (rgn b1 F O H) vx x → Out F (mc x) (KP γ b3 F L O σ H Q) (XP F L O σ H) → r vx H Q
theorem nf1 {e : Expr} {b1 b3 : Bool} {r : V → Hp → VK → Prop} {ma : Res α} {mc : α → Res γ} (h : PE X e (tUn r (tP b1 F L O ma))) (hr : R1 F L O b1 b3 r mc) :
    PE X e (tP b3 F L O (ma.bind mc)) := pe_imp h fun σ H Q ⟨g, q⟩ => by
  rw [out_bind] at q
  refine ⟨g, q.mono (fun x qx v1 H1 g1 s1 r1 => ?_) fun _ z => z⟩
  exact hr x v1 H1 σ Q g1 r1 (qx.mono (fun z kz v H' g' s' r' => kz v H' g' (s1.trans s') r') fun H' ⟨a, b⟩ => ⟨a, s1.trans b⟩)
/-- a value as it is -/
theorem kp_now {b : Bool} {σ : L2.St} {H : Hp} {Q : VK} {a : α} {v : V} (g : G F L O σ H) (k : KP α b F L O σ H Q a) (r : rp F (rgn b F O H) v a) : Q v H := k v H g (Same.refl _) r
theorem kp_flat [Flat α] {b : Bool} {σ : L2.St} {H : Hp} {Q : VK} {a : α} (g : G F L O σ H) (k : KP α b F L O σ H Q a) : Q (Flat.enc a) H := k _ H g (Same.refl _) (Flat.iff.mpr rfl)
theorem fl [Flat α] {R : Hp} {v : V} {a : α} (r : rp F R v a) : v = Flat.enc a := Flat.iff.mp r

/-! names and constants -/
theorem paired_get {α β : Type} {P : α → β → Prop} : ∀ {l : List α} {l' : List β} {i : Nat} {a : α}, Paired P l l' → l[i]? = some a → ∃ b, l'[i]? = some b ∧ P a b
  | _, _, _, _, .nil, e => by simp at e
  | _, _, 0, _, .cons r _, e => by simp at e; subst e; exact ⟨_, rfl, r⟩
  | _, _, i + 1, a, .cons r t, e => by
    obtain ⟨u, h1, h2⟩ := paired_get (i := i) (a := a) t (by simpa using e)
    exact ⟨u, by simpa using h1, h2⟩
theorem G.slot {σ : L2.St} {H : Hp} (g : G F L O σ H) {i : Nat} {p : Asr} (hL : L[i]? = some (some p)) : ∃ v, σ[i]? = some (some v) ∧ p.P (rg F O H) v := by
  obtain ⟨o, h1, h2⟩ := paired_get g.slots hL
  cases o with
  | none => exact h2.elim
  | some v => exact ⟨v, h1, h2⟩
theorem n_var (i : Nat) {x : Str} {pos : Pos} {a : α} (hL : L[i]? = some (vl F.K F.mg a) := by rfl) (hN : X.N[i]? = some x := by rfl) (hv : Vis X.env.scope x := by first | exact Or.inl rfl | exact Or.inr (Or.inl rfl) | exact Or.inr (Or.inr rfl)) (hd : (x == ("__debug__" : Str)) = false := by decide)
    (hcd : (x == ("__classdict__" : Str)) = false := by decide) : PE X (.Name x pos) (tP true F L O (.ok a)) := pe_imp (pe_var hN hv hd hcd) fun σ H Q ⟨g, q⟩ => by
  obtain ⟨v, h1, h2⟩ := g.slot hL
  exact ⟨v, h1, q v H g (Same.refl _) h2⟩
/-- an owned list, read where it stands -/
theorem n_own (i : Nat) {x : Str} {pos : Pos} {p : Addr} {as : List α} (hL : L[i]? = some (rf p) := by rfl) (hO : ow F.K F.mg p as ∈ O := by simp) (hN : X.N[i]? = some x := by rfl) (hv : Vis X.env.scope x := by first | exact Or.inl rfl | exact Or.inr (Or.inl rfl) | exact Or.inr (Or.inr rfl)) (hd : (x == ("__debug__" : Str)) = false := by decide)
    (hcd : (x == ("__classdict__" : Str)) = false := by decide) : PE X (.Name x pos) (tP false F L O (.ok as)) := pe_imp (pe_var hN hv hd hcd) fun σ H Q ⟨g, q⟩ => by
  obtain ⟨v, h1, h2⟩ := g.slot hL
  obtain ⟨o, h3, vs, h4, h5⟩ := g.go.objs _ hO
  subst h4
  exact ⟨v, h1, q v H g (Same.refl _) ⟨p, vs, h2, h3, h5.mono less_same⟩⟩
theorem n_c {e : Expr} [Flat α] {a : α} {b : Bool} (h : PE X e (tC (Flat.enc a))) : PE X e (tP b F L O (.ok a)) := pe_imp h fun σ H Q ⟨g, q⟩ => kp_flat g q
theorem n_int {i j pos} {b : Bool} : PE X (.Constant (.int i) j pos) (tP b F L O (.ok i)) := n_c (a := i) pe_int
theorem n_bl {i j pos} {b : Bool} : PE X (.Constant (.bool i) j pos) (tP b F L O (.ok i)) := n_c (a := i) pe_bl
theorem n_str {i j pos} {b : Bool} : PE X (.Constant (.str i) j pos) (tP b F L O (.ok i)) := n_c (a := i) pe_str
theorem n_non {j pos} {b : Bool} : PE X (.Constant .none j pos) (tP b F L O (.ok ())) := n_c (a := ()) pe_non

/-! ints -/
section
variable {b1 b2 b3 : Bool}
theorem rr_I0 {g : Int → Int → γ} [Flat γ] : RR F L O b1 b2 b3 (rI0 fun i j => Flat.enc (g i j)) fun x y => .ok (g x y) := fun x y vx vy H σ Q g rx ry q => ⟨x, y, rx, ry, kp_flat g q⟩
theorem rr_I {C : Int → Int → Prop} [∀ i j, Decidable (C i j)] {g : Int → Int → γ} [Flat γ] : RR F L O b1 b2 b3 (rI C fun i j => Flat.enc (g i j)) fun x y => need (C x y) (.ok (g x y)) := fun x y vx vy H σ Q g rx ry q => by
  rw [out_need] at q
  exact ⟨x, y, rx, ry, q.1, kp_flat g q.2⟩
@[irreducible] def decCDiv : ∀ i j, Decidable (CDiv i j) := fun i j => decidable_of_iff (posB 1073741823 (j - 1) = true) (by rw [posB_iff]; unfold CDiv; omega)
instance : ∀ i j, Decidable (CDiv i j) := decCDiv
@[irreducible] def decCMul : ∀ i j, Decidable (CMul i j) := fun i j => decidable_of_iff ((posB 36893488147419103231 (i + 18446744073709551615) || posB 36893488147419103231 (j + 18446744073709551615)) = true) (by rw [Bool.or_eq_true, posB_iff, posB_iff]; unfold CMul; omega)
instance : ∀ i j, Decidable (CMul i j) := decCMul
@[irreducible] def decCPow : ∀ i j, Decidable (CPow i j) := fun i j => decidable_of_iff ((posB 1000001 j && posB 18446744073709551616 (i.natAbs : Int)) = true) (by rw [Bool.and_eq_true, posB_iff, posB_iff]; unfold CPow; omega)
instance : ∀ i j, Decidable (CPow i j) := decCPow
variable {x y : Expr} {ma mb : Res Int} {pos : Pos}
variable (hx : PE X x (tP b1 F L O ma)) (hy : PE X y (tP b2 F L O mb))
include hx hy
theorem n_add : PE X (.BinOp x .Add y pos) (tP b3 F L O (ma.bind fun x => mb.bind fun y => .ok (x + y))) := nf2 (pe_op op_add hx hy) (rr_I0 (g := fun x y => x + y))
theorem n_sub : PE X (.BinOp x .Sub y pos) (tP b3 F L O (ma.bind fun x => mb.bind fun y => .ok (x - y))) := nf2 (pe_op op_sub hx hy) (rr_I0 (g := fun x y => x - y))
theorem n_mul : PE X (.BinOp x .Mult y pos) (tP b3 F L O (ma.bind fun x => mb.bind fun y => need (CMul x y) (.ok (x * y)))) := nf2 (pe_op op_mul hx hy) (rr_I (g := fun x y => x * y))
theorem n_fdiv : PE X (.BinOp x .FloorDiv y pos) (tP b3 F L O (ma.bind fun x => mb.bind fun y => need (CDiv x y) (.ok (x / y)))) := nf2 (pe_op op_fdiv hx hy) (rr_I (g := fun x y => x / y))
theorem n_mod : PE X (.BinOp x .Mod y pos) (tP b3 F L O (ma.bind fun x => mb.bind fun y => need (0 < y) (.ok (x % y)))) := nf2 (pe_op op_mod hx hy) (rr_I (g := fun x y => x % y))
theorem n_pow : PE X (.BinOp x .Pow y pos) (tP b3 F L O (ma.bind fun x => mb.bind fun y => need (CPow x y) (.ok (x ^ y.toNat)))) := nf2 (pe_op op_pow hx hy) (rr_I (g := fun x y => x ^ y.toNat))
theorem n_shl : PE X (.BinOp x .LShift y pos) (tP b3 F L O (ma.bind fun x => mb.bind fun y => need (CPow x y) (.ok (x * 2 ^ y.toNat)))) := nf2 (pe_op op_shl hx hy) (rr_I (g := fun x y => x * 2 ^ y.toNat))
theorem n_shr : PE X (.BinOp x .RShift y pos) (tP b3 F L O (ma.bind fun x => mb.bind fun y => need (0 ≤ y) (.ok (x / 2 ^ y.toNat)))) := nf2 (pe_op op_shr hx hy) (rr_I (C := fun _ y => 0 ≤ y) (g := fun x y => x / 2 ^ y.toNat))
theorem n_band : PE X (.BinOp x .BitAnd y pos) (tP b3 F L O (ma.bind fun x => mb.bind fun y => .ok (Builtin.bitAnd x y))) := nf2 (pe_op op_and hx hy) (rr_I0 (g := fun x y => Builtin.bitAnd x y))
theorem n_bor : PE X (.BinOp x .BitOr y pos) (tP b3 F L O (ma.bind fun x => mb.bind fun y => .ok (Builtin.bitOr x y))) := nf2 (pe_op op_or hx hy) (rr_I0 (g := fun x y => Builtin.bitOr x y))
theorem n_bxor : PE X (.BinOp x .BitXor y pos) (tP b3 F L O (ma.bind fun x => mb.bind fun y => .ok (Builtin.bitXor x y))) := nf2 (pe_op op_xor hx hy) (rr_I0 (g := fun x y => Builtin.bitXor x y))
/-! comparisons of ints, as values -/
theorem n_lt : PE X (.Compare x [.Lt] [y] pos) (tP b3 F L O (ma.bind fun x => mb.bind fun y => .ok (decide (x < y)))) := nf2 (pe_cmpR op_lt hx hy (nomark _)) (rr_I0 (g := fun x y => decide (x < y)))
theorem n_le : PE X (.Compare x [.LtE] [y] pos) (tP b3 F L O (ma.bind fun x => mb.bind fun y => .ok (decide (x ≤ y)))) := nf2 (pe_cmpR op_le hx hy (nomark _)) (rr_I0 (g := fun x y => decide (x ≤ y)))
theorem n_gt : PE X (.Compare x [.Gt] [y] pos) (tP b3 F L O (ma.bind fun x => mb.bind fun y => .ok (decide (y < x)))) := nf2 (pe_cmpR op_gt hx hy (nomark _)) (rr_I0 (g := fun x y => decide (y < x)))
theorem n_ge : PE X (.Compare x [.GtE] [y] pos) (tP b3 F L O (ma.bind fun x => mb.bind fun y => .ok (decide (y ≤ x)))) := nf2 (pe_cmpR op_ge hx hy (nomark _)) (rr_I0 (g := fun x y => decide (y ≤ x)))
end
theorem n_neg {b1 b3 : Bool} {x : Expr} {ma : Res Int} {pos : Pos} (hx : PE X x (tP b1 F L O ma)) : PE X (.UnaryOp .USub x pos) (tP b3 F L O (ma.bind fun x => .ok (-x))) := nf1 (pe_un un_neg hx) fun x vx H σ Q g r q => ⟨x, r, kp_flat g q⟩
/-! == of flat things, of data -/
section
variable {b1 b2 b3 : Bool} {x y : Expr} {ma : Res α} {mb : Res β} {pos : Pos}
/-- equal by value: what == says of data -/
def eqD [Data α] [Data β] (x : α) (y : β) : Bool := (toD x).eqv (toD y)
def shp [Data α] (x : α) : Bool := SeqAt.shaped (toD x)
theorem rr_eqD [Data α] [Data β] (hK : X.K = F.K) : RR F L O b1 b2 b3 (rEqD X.K) fun (x : α) (y : β) => need (shp x = true ∧ shp y = true) (.ok (eqD x y)) := fun x y vx vy H σ Q g rx ry q => by
  rw [out_need] at q
  rw [hK]
  exact ⟨_, _, Data.dp (Rep.mono rgn_sub rx), Data.dp (Rep.mono rgn_sub ry), q.1.1, q.1.2, kp_flat g q.2⟩
theorem n_eqD [Data α] [Data β] (hx : PE X x (tP b1 F L O ma)) (hy : PE X y (tP b2 F L O mb)) (hu : X.A.units + 64 < cLine) (hK : X.K = F.K := by rfl) :
    PE X (.Compare x [.Eq] [y] pos) (tP b3 F L O (ma.bind fun x => mb.bind fun y => need (shp x = true ∧ shp y = true) (.ok (eqD x y)))) := nf2 (pe_cmpR (op_eqD hu) hx hy (nomark _)) (rr_eqD hK)
theorem n_neD [Data α] [Data β] (hx : PE X x (tP b1 F L O ma)) (hy : PE X y (tP b2 F L O mb)) (hu : X.A.units + 64 < cLine) (hK : X.K = F.K := by rfl) :
    PE X (.Compare x [.NotEq] [y] pos) (tP b3 F L O (ma.bind fun x => mb.bind fun y => need (shp x = true ∧ shp y = true) (.ok (!eqD x y)))) := nf2 (pe_cmpR (op_neD hu) hx hy (nomark _)) fun x y vx vy H σ Q g rx ry q => by
  rw [out_need] at q
  rw [hK]
  exact ⟨_, _, Data.dp (Rep.mono rgn_sub rx), Data.dp (Rep.mono rgn_sub ry), q.1.1, q.1.2, kp_flat g q.2⟩
end
section
variable {b1 b2 b3 : Bool} {x y : Expr} {pos : Pos} {ma mb : Res Int}
theorem n_eq (hx : PE X x (tP b1 F L O ma)) (hy : PE X y (tP b2 F L O mb)) : PE X (.Compare x [.Eq] [y] pos) (tP b3 F L O (ma.bind fun x => mb.bind fun y => .ok (decide (x = y)))) := nf2 (pe_cmpR op_eq hx hy (nomark _)) fun x y vx vy H σ Q g rx ry q => by
  cases rx; cases ry
  exact ⟨rfl, by rw [show decide (V.int x = V.int y) = decide (x = y) by simp]; exact kp_flat g q⟩
theorem n_ne (hx : PE X x (tP b1 F L O ma)) (hy : PE X y (tP b2 F L O mb)) : PE X (.Compare x [.NotEq] [y] pos) (tP b3 F L O (ma.bind fun x => mb.bind fun y => .ok (!decide (x = y)))) := nf2 (pe_cmpR op_ne hx hy (nomark _)) fun x y vx vy H σ Q g rx ry q => by
  cases rx; cases ry
  exact ⟨rfl, by rw [show decide (V.int x = V.int y) = decide (x = y) by simp]; exact kp_flat g q⟩
end
/-! and, or, not, if .. else -/
section
variable {b1 b2 b3 : Bool} {x y : Expr} {rest : List Expr} {ma mb : Res Bool} {pos : Pos}
theorem n_not (hx : PE X x (tP b1 F L O ma)) : PE X (.UnaryOp .Not x pos) (tP b3 F L O (ma.bind fun c => .ok (!c))) := pe_imp (pe_not hx) fun σ H Q ⟨g, q⟩ => by
  rw [out_bind] at q
  refine ⟨g, q.mono (fun c qc v1 H1 g1 s1 r1 => ?_) fun _ z => z⟩
  exact ⟨c, r1, qc _ H1 g1 s1 rfl⟩
theorem n_and (hx : PE X x (tP b1 F L O ma)) (hy : PE X (.BoolOp .And (y :: rest) pos) (tP b2 F L O mb)) : PE X (.BoolOp .And (x :: y :: rest) pos) (tP b3 F L O (ma.bind fun c => if c then mb else .ok false)) := pe_imp (pe_and hx hy) fun σ H Q ⟨g, q⟩ => by
  rw [out_bind] at q
  refine ⟨g, q.mono (fun c qc v1 H1 g1 s1 r1 => ?_) fun _ z => z⟩
  refine ⟨c, r1, ?_⟩
  cases c with
  | true => exact ⟨g1, qc.mono (fun d kd v H' g' s' r' => kd v H' g' (s1.trans s') r') fun H' ⟨a, b⟩ => ⟨a, s1.trans b⟩⟩
  | false => exact qc _ H1 g1 s1 rfl
theorem n_or (hx : PE X x (tP b1 F L O ma)) (hy : PE X (.BoolOp .Or (y :: rest) pos) (tP b2 F L O mb)) : PE X (.BoolOp .Or (x :: y :: rest) pos) (tP b3 F L O (ma.bind fun c => if c then .ok true else mb)) := pe_imp (pe_or hx hy) fun σ H Q ⟨g, q⟩ => by
  rw [out_bind] at q
  refine ⟨g, q.mono (fun c qc v1 H1 g1 s1 r1 => ?_) fun _ z => z⟩
  refine ⟨c, r1, ?_⟩
  cases c with
  | true => exact qc _ H1 g1 s1 rfl
  | false => exact ⟨g1, qc.mono (fun d kd v H' g' s' r' => kd v H' g' (s1.trans s') r') fun H' ⟨a, b⟩ => ⟨a, s1.trans b⟩⟩
theorem n_one {op} (hx : PE X x (tP b1 F L O ma)) : PE X (.BoolOp op [x] pos) (tP b1 F L O ma) := pe_one hx
/-! tests -/
theorem t_val (hx : PE X x (tP b1 F L O ma)) (he : ∀ whole, isTrue x X.env whole = (do let v ← whole; standAt x.pos; holding [v] (truthy v)) := by intro _; rfl) : PT X x (tB' F L O ma) := pt_imp (pt_val hx he) fun σ H Q ⟨g, q⟩ =>
  ⟨g, q.mono (fun c qc v1 H1 g1 s1 r1 => ⟨c, r1, qc H1 g1 s1⟩) fun _ z => z⟩
theorem nf2t {e : Expr} {r : R2} {ma : Res α} {mb : Res β} {mc : α → β → Res Bool} (h : PT X e (tTest (tOp r (tP b1 F L O ma) (tP b2 F L O mb)))) (hr : RR F L O b1 b2 true r mc) :
    PT X e (tB' F L O (ma.bind fun x => mb.bind fun y => mc x y)) := pt_imp h fun σ H Q ⟨g, q⟩ => by
  rw [out_bind] at q
  refine ⟨g, q.mono (fun x qx v1 H1 g1 s1 r1 => ?_) fun _ z => z⟩
  rw [out_bind] at qx
  refine ⟨g1, qx.mono (fun y qy v2 H2 g2 s2 r2 => ?_) fun H' ⟨a, b⟩ => ⟨a, s1.trans b⟩⟩
  exact hr x y v1 v2 H2 σ _ g2 (Rep.mono (rgn_grow s2) r1) r2 (qy.mono (fun z kz v H' g' s' r' => ⟨z, r', kz H' g' ((s1.trans s2).trans s')⟩) fun H' ⟨a, b⟩ => ⟨a, (s1.trans s2).trans b⟩)
theorem t_not (hx : PT X x (tB' F L O ma)) : PT X (.UnaryOp .Not x pos) (tB' F L O (ma.bind fun c => .ok (!c))) := pt_imp (pt_not hx) fun σ H Q ⟨g, q⟩ => by
  rw [out_bind] at q
  exact ⟨g, q.mono (fun c qc H1 g1 s1 => qc H1 g1 s1) fun _ z => z⟩
theorem w_and1 (hx : PT X x (tB' F L O ma)) : PW X (.BoolOp .And [x] pos) (tB' F L O ma) := pw_and1 hx
theorem w_or1 (hx : PT X x (tB' F L O ma)) : PW X (.BoolOp .Or [x] pos) (tB' F L O ma) := pw_or1 hx
theorem pw_imp {e : Expr} {t t' : TT} (h : PW X e t) (i : ∀ σ H Q, t' σ H Q → t σ H Q) : PW X e t' := ⟨fun wh pins s σ H Q I q => h.run wh pins s σ H Q I (i σ H Q q)⟩
theorem w_and (hx : PT X x (tB' F L O ma)) (hy : PW X (.BoolOp .And (y :: rest) pos) (tB' F L O mb)) : PW X (.BoolOp .And (x :: y :: rest) pos) (tB' F L O (ma.bind fun c => if c then mb else .ok false)) := pw_imp (pw_and hx hy) fun σ H Q ⟨g, q⟩ => by
  rw [out_bind] at q
  refine ⟨g, q.mono (fun c qc H1 g1 s1 => ?_) fun _ z => z⟩
  cases c with
  | true =>
    show tB' F L O mb σ H1 Q
    exact ⟨g1, qc.mono (fun d kd H' g' s' => kd H' g' (s1.trans s')) fun H' ⟨a, b⟩ => ⟨a, s1.trans b⟩⟩
  | false => exact qc H1 g1 s1
theorem w_or (hx : PT X x (tB' F L O ma)) (hy : PW X (.BoolOp .Or (y :: rest) pos) (tB' F L O mb)) : PW X (.BoolOp .Or (x :: y :: rest) pos) (tB' F L O (ma.bind fun c => if c then .ok true else mb)) := pw_imp (pw_or hx hy) fun σ H Q ⟨g, q⟩ => by
  rw [out_bind] at q
  refine ⟨g, q.mono (fun c qc H1 g1 s1 => ?_) fun _ z => z⟩
  cases c with
  | true => exact qc H1 g1 s1
  | false =>
    show tB' F L O mb σ H1 Q
    exact ⟨g1, qc.mono (fun d kd H' g' s' => kd H' g' (s1.trans s')) fun H' ⟨a, b⟩ => ⟨a, s1.trans b⟩⟩
theorem n_if {c a b : Expr} {mc : Res Bool} {ma mb : Res α} (hc : PT X c (tB' F L O mc)) (ha : PE X a (tP b1 F L O ma)) (hb : PE X b (tP b1 F L O mb)) : PE X (.IfExp c a b pos) (tP b1 F L O (mc.bind fun c => if c then ma else mb)) := pe_imp (pe_ifExp hc ha hb) fun σ H Q ⟨g, q⟩ => by
  rw [out_bind] at q
  refine ⟨g, q.mono (fun c qc H1 g1 s1 => ?_) fun _ z => z⟩
  cases c with
  | true => exact ⟨g1, qc.mono (fun d kd v H' g' s' r' => kd v H' g' (s1.trans s') r') fun H' ⟨a, b⟩ => ⟨a, s1.trans b⟩⟩
  | false => exact ⟨g1, qc.mono (fun d kd v H' g' s' r' => kd v H' g' (s1.trans s') r') fun H' ⟨a, b⟩ => ⟨a, s1.trans b⟩⟩
end
section
variable {b1 b2 : Bool} {x y : Expr} {pos : Pos} {ma mb : Res Int}
variable (hx : PE X x (tP b1 F L O ma)) (hy : PE X y (tP b2 F L O mb))
include hx hy
theorem t_lt : PT X (.Compare x [.Lt] [y] pos) (tB' F L O (ma.bind fun x => mb.bind fun y => .ok (decide (x < y)))) := nf2t (pt_cmpR op_lt hx hy (nomark _)) (rr_I0 (g := fun x y => decide (x < y)))
theorem t_le : PT X (.Compare x [.LtE] [y] pos) (tB' F L O (ma.bind fun x => mb.bind fun y => .ok (decide (x ≤ y)))) := nf2t (pt_cmpR op_le hx hy (nomark _)) (rr_I0 (g := fun x y => decide (x ≤ y)))
theorem t_gt : PT X (.Compare x [.Gt] [y] pos) (tB' F L O (ma.bind fun x => mb.bind fun y => .ok (decide (y < x)))) := nf2t (pt_cmpR op_gt hx hy (nomark _)) (rr_I0 (g := fun x y => decide (y < x)))
theorem t_ge : PT X (.Compare x [.GtE] [y] pos) (tB' F L O (ma.bind fun x => mb.bind fun y => .ok (decide (y ≤ x)))) := nf2t (pt_cmpR op_ge hx hy (nomark _)) (rr_I0 (g := fun x y => decide (y ≤ x)))
theorem t_eq : PT X (.Compare x [.Eq] [y] pos) (tB' F L O (ma.bind fun x => mb.bind fun y => .ok (decide (x = y)))) := nf2t (pt_cmpR op_eq hx hy (nomark _)) fun x y vx vy H σ Q g rx ry q => by
  cases rx; cases ry
  exact ⟨rfl, by rw [show decide (V.int x = V.int y) = decide (x = y) by simp]; exact kp_flat g q⟩
theorem t_ne : PT X (.Compare x [.NotEq] [y] pos) (tB' F L O (ma.bind fun x => mb.bind fun y => .ok (!decide (x = y)))) := nf2t (pt_cmpR op_ne hx hy (nomark _)) fun x y vx vy H σ Q g rx ry q => by
  cases rx; cases ry
  exact ⟨rfl, by rw [show decide (V.int x = V.int y) = decide (x = y) by simp]; exact kp_flat g q⟩
end
section
variable {b1 b2 : Bool} {x y : Expr} {pos : Pos} {ma : Res α} {mb : Res β} [Data α] [Data β]
theorem t_eqD (hx : PE X x (tP b1 F L O ma)) (hy : PE X y (tP b2 F L O mb)) (hu : X.A.units + 64 < cLine) (hK : X.K = F.K := by rfl) :
    PT X (.Compare x [.Eq] [y] pos) (tB' F L O (ma.bind fun x => mb.bind fun y => need (shp x = true ∧ shp y = true) (.ok (eqD x y)))) := nf2t (pt_cmpR (op_eqD hu) hx hy (nomark _)) (rr_eqD hK)
theorem t_neD (hx : PE X x (tP b1 F L O ma)) (hy : PE X y (tP b2 F L O mb)) (hu : X.A.units + 64 < cLine) (hK : X.K = F.K := by rfl) :
    PT X (.Compare x [.NotEq] [y] pos) (tB' F L O (ma.bind fun x => mb.bind fun y => need (shp x = true ∧ shp y = true) (.ok (!eqD x y)))) := nf2t (pt_cmpR (op_neD hu) hx hy (nomark _)) fun x y vx vy H σ Q g rx ry q => by
  rw [out_need] at q
  rw [hK]
  exact ⟨_, _, Data.dp (Rep.mono rgn_sub rx), Data.dp (Rep.mono rgn_sub ry), q.1.1, q.1.2, kp_flat g q.2⟩
end
end
end NF

set_option Elab.async false
set_option linter.all false
set_option maxRecDepth 100000
/-! Nf2: lists, tuples, built-ins. -/
namespace NF
open PySem PySem.Spec PyProof.Rows L2
open Data (toD)
section
variable {X : Cx} {F : Fr} {L : List (Option Asr)} {O : List Own} {α β γ s : Type} [Rep α] [Rep β] [Rep γ] [Rep s]
/-! new lists -/
abbrev KF (α : Type) [Rep α] (b : Bool) (F : Fr) (L : List (Option Asr)) (O : List Own) (σ : L2.St) (H : Hp) (Q : VK) : List α → Prop :=
  fun as => ∀ p vs H', G F L O σ H' → Same H H' → H p = none → H' p = some (.lst vs) → Reps F.K F.mg (less (rgn b F O H') [p]) vs as → Q (.ref p) H'
theorem less_new {R R' : Hp} {p : Addr} (e : Same R R') (h : R p = none) : Same R (less R' [p]) := fun b o q => by
  have hb : b ∉ [p] := fun z => by
    rw [List.mem_singleton.mp z, h] at q
    cases q
  rw [less_out hb]
  exact e b o q
theorem rgn_none {b : Bool} {H : Hp} {p : Addr} (h : H p = none) : rgn b F O H p = none := by
  cases b
  · exact h
  · show less H _ p = none
    unfold less
    split
    · rfl
    · exact h
theorem kf_new {b : Bool} {σ : L2.St} {H : Hp} {Q : VK} {as : List α} {vs : List V} (g : G F L O σ H) (k : KF α b F L O σ H Q as) (r : Reps F.K F.mg (rgn b F O H) vs as) : ∀ p, H p = none → Q (.ref p) (upd H p (.lst vs)) := fun p hp =>
  k p vs _ (g.grow (same_upd hp)) (same_upd hp) hp upd_same (r.mono (less_new (rgn_grow (same_upd hp)) (rgn_none hp)))
theorem KF.mono {b : Bool} {σ : L2.St} {H H1 : Hp} {Q : VK} {as : List α} (e : Same H H1) (k : KF α b F L O σ H Q as) : KF α b F L O σ H1 Q as := fun p vs H' g s h1 h2 r => k p vs H' g (e.trans s) (e.free h1) h2 r
theorem rgn_new {b : Bool} {σ : L2.St} {H H' : Hp} {p : Addr} {o : HO} (g : G F L O σ H) (e : Same H H') (h : H p = none) (h' : H' p = some o) : rgn b F O H' p = some o := by
  cases b
  · exact h'
  · exact (less_out (g.go.out h)).trans h'
/-- a new list as a value -/
theorem f_val {e : Expr} {b : Bool} {m : Res (List α)} (h : PE X e (tF b F L O m)) : PE X e (tP b F L O m) := pe_imp h fun σ H Q ⟨g, q⟩ =>
  ⟨g, q.mono (fun as k p vs H' g' s h1 h2 r => k _ H' g' s ⟨p, vs, rfl, rgn_new g s h1 h2, r.mono less_same⟩) fun _ z => z⟩
theorem f_strong [Flat α] {e : Expr} {b b' : Bool} {m : Res (List α)} (h : PE X e (tF b F L O m)) : PE X e (tF b' F L O m) := pe_imp h fun σ H Q ⟨g, q⟩ =>
  ⟨g, q.mono (fun as k p vs H' g' s h1 h2 r => k p vs H' g' s h1 h2 (reps_flat.mpr (reps_flat.mp r))) fun _ z => z⟩
/-- by values, to a new list -/
def RRF (F : Fr) (L : List (Option Asr)) (O : List Own) (b1 b2 b3 : Bool) (r : R2) (mc : α → β → Res (List γ)) : Prop :=
  ∀ x y vx vy H σ Q, G F L O σ H → rp F (rgn b1 F O H) vx x → rp F (rgn b2 F O H) vy y → Out F (mc x y) (KF γ b3 F L O σ H Q) (XP F L O σ H) → r vx vy H Q
theorem nf2f {e : Expr} {b1 b2 b3 : Bool} {r : R2} {ma : Res α} {mb : Res β} {mc : α → β → Res (List γ)} (h : PE X e (tOp r (tP b1 F L O ma) (tP b2 F L O mb))) (hr : RRF F L O b1 b2 b3 r mc) :
    PE X e (tF b3 F L O (ma.bind fun x => mb.bind fun y => mc x y)) := pe_imp h fun σ H Q ⟨g, q⟩ => by
  rw [out_bind] at q
  refine ⟨g, q.mono (fun x qx v1 H1 g1 s1 r1 => ?_) fun _ z => z⟩
  rw [out_bind] at qx
  refine ⟨g1, qx.mono (fun y qy v2 H2 g2 s2 r2 => ?_) fun H' ⟨a, b⟩ => ⟨a, s1.trans b⟩⟩
  exact hr x y v1 v2 H2 σ Q g2 (Rep.mono (rgn_grow s2) r1) r2 (qy.mono (fun z kz => KF.mono (s1.trans s2) kz) fun H' ⟨a, b⟩ => ⟨a, (s1.trans s2).trans b⟩)
/-! places -/
def idx (xs : List α) (i : Int) : Res α := match atI xs i with
  | some a => .ok a
  | none => .bad
theorem at_get {K : Fg} {mg : MG} {H : Hp} {vs : List V} {as : List α} {i : Int} {a : α} (r : Reps K mg H vs as) (h : atI as i = some a) : ∃ v, atI vs i = some v ∧ Rep.rep K mg H v a := by
  unfold atI at h ⊢
  rw [r.length]
  cases e : ixN as.length i with
  | none => rw [e] at h; cases h
  | some j =>
    rw [e] at h
    exact reps_get r h
theorem ix_or {r r' : R2} (h : IxR X r) (h' : IxR X r') : IxR X (fun x y H Q => r x y H Q ∨ r' x y H Q) := fun a b pins s σ H x y v u Q I rx ry q hs => by
  rcases q with q | q
  · exact h a b pins s σ H x y v u Q I rx ry q hs
  · exact h' a b pins s σ H x y v u Q I rx ry q hs
theorem n_idx [Lk s α] {x y : Expr} {b1 b2 : Bool} {ma : Res s} {mb : Res Int} {pos : Pos} (hx : PE X x (tP b1 F L O ma)) (hy : PE X y (tP b2 F L O mb)) (hp : PlainIx y := by exact fun _ _ => rfl) (hK : X.K = F.K := by rfl) :
    PE X (.Subscript x y pos) (tP b1 F L O (ma.bind fun x => mb.bind fun y => idx (Lk.its x) y)) := nf2 (pe_ix (ix_or ix_list ix_tup) hx hy hp) fun x y vx vy H σ Q g rx ry q => by
  unfold idx at q
  cases e : atI (Lk.its x) y with
  | none => rw [e] at q; exact q.elim
  | some a =>
    rw [e] at q
    obtain ⟨p, vs, h1, h2, h3⟩ := Lk.get rx
    obtain ⟨v, h4, h5⟩ := at_get h3 e
    subst h1
    cases ry
    rw [hK]
    rcases h2 with h2 | h2
    · exact .inl ⟨p, vs, y, v, rfl, rfl, rgn_sub.seq h2, h4, q v H g (Same.refl _) h5⟩
    · exact .inr ⟨p, vs, y, v, rfl, rfl, same_t rgn_sub h2, h4, q v H g (Same.refl _) h5⟩
/-- the places of a pair -/
theorem n_fst {x : Expr} {b1 : Bool} {ma : Res (α × β)} {pos : Pos} {j p'} (hx : PE X x (tP b1 F L O ma)) (hp : PlainIx (.Constant (.int 0) j p') := by exact fun _ _ => rfl) (hK : X.K = F.K := by rfl) :
    PE X (.Subscript x (.Constant (.int 0) j p') pos) (tP b1 F L O (ma.bind fun x => .ok x.1)) := pe_imp (pe_ix ix_tup hx pe_int hp) fun σ H Q ⟨g, q⟩ => by
  rw [out_bind] at q
  refine ⟨g, q.mono (fun x qx v1 H1 g1 s1 r1 => ?_) fun _ z => z⟩
  obtain ⟨p, a, b, h1, h2, h3, h4⟩ := r1
  subst h1
  rw [hK]
  exact ⟨p, _, 0, a, rfl, rfl, same_t rgn_sub h2, rfl, qx _ H1 g1 s1 h3⟩
theorem n_snd {x : Expr} {b1 : Bool} {ma : Res (α × β)} {pos : Pos} {j p'} (hx : PE X x (tP b1 F L O ma)) (hp : PlainIx (.Constant (.int 1) j p') := by exact fun _ _ => rfl) (hK : X.K = F.K := by rfl) :
    PE X (.Subscript x (.Constant (.int 1) j p') pos) (tP b1 F L O (ma.bind fun x => .ok x.2)) := pe_imp (pe_ix ix_tup hx pe_int hp) fun σ H Q ⟨g, q⟩ => by
  rw [out_bind] at q
  refine ⟨g, q.mono (fun x qx v1 H1 g1 s1 r1 => ?_) fun _ z => z⟩
  obtain ⟨p, a, b, h1, h2, h3, h4⟩ := r1
  subst h1
  rw [hK]
  exact ⟨p, _, 1, b, rfl, rfl, same_t rgn_sub h2, rfl, qx _ H1 g1 s1 h4⟩
/-! tuples -/
theorem n_tup2 {x y : Expr} {b : Bool} {ma : Res α} {mb : Res β} {k} {pos : Pos} (hx : PE X x (tP b F L O ma)) (hy : PE X y (tP b F L O mb)) (h1 : starEach [x, y] X.env = (false, eval x X.env) :: starEach [y] X.env := by rfl) (h2 : starEach [y] X.env = (false, eval y X.env) :: starEach [] X.env := by rfl) :
    PE X (.Tuple [x, y] k pos) (tP b F L O (ma.bind fun x => mb.bind fun y => .ok (x, y))) := pe_imp (pe_tup (pa_cons hx (pa_cons hy pa_nil h2) h1)) fun σ H Q ⟨g, q⟩ => by
  rw [out_bind] at q
  refine ⟨g, q.mono (fun x qx v1 H1 g1 s1 r1 => ?_) fun _ z => z⟩
  rw [out_bind] at qx
  refine ⟨g1, qx.mono (fun y qy v2 H2 g2 s2 r2 => ?_) fun H' ⟨a, b⟩ => ⟨a, s1.trans b⟩⟩
  refine ⟨by show 2 ≤ sizeLine; decide, fun p hp => qy _ _ (g2.grow (same_upd hp)) ((s1.trans s2).trans (same_upd hp)) ⟨p, v1, v2, rfl, .of (rgn_new g2 (same_upd hp) hp upd_same), Rep.mono (rgn_grow (s2.trans (same_upd hp))) r1, Rep.mono (rgn_grow (same_upd hp)) r2⟩⟩
/-! argument lists -/
def tL (b : Bool) (F : Fr) (L : List (Option Asr)) (O : List Own) (m : Res (List α)) : TA := fun σ H Q =>
  G F L O σ H ∧ Out F m (fun as => ∀ vs H', G F L O σ H' → Same H H' → Reps F.K F.mg (rgn b F O H') vs as → Q vs H') (XP F L O σ H)
theorem l_nil {b : Bool} : PA X [] (tL (α := α) b F L O (.ok [])) := pa_imp pa_nil fun σ H Q ⟨g, q⟩ => q [] H g (Same.refl _) .nil
theorem l_cons {b : Bool} {e : Expr} {es : List Expr} {ma : Res α} {mr : Res (List α)} (he : PE X e (tP b F L O ma)) (hr : PA X es (tL b F L O mr)) (hs : starEach (e :: es) X.env = (false, eval e X.env) :: starEach es X.env := by rfl) :
    PA X (e :: es) (tL b F L O (ma.bind fun x => mr.bind fun xs => .ok (x :: xs))) := pa_imp (pa_cons he hr hs) fun σ H Q ⟨g, q⟩ => by
  rw [out_bind] at q
  refine ⟨g, q.mono (fun x qx v1 H1 g1 s1 r1 => ?_) fun _ z => z⟩
  rw [out_bind] at qx
  refine ⟨g1, qx.mono (fun y qy v2 H2 g2 s2 r2 => ?_) fun H' ⟨a, b⟩ => ⟨a, s1.trans b⟩⟩
  exact qy _ H2 g2 (s1.trans s2) (.cons (Rep.mono (rgn_grow s2) r1) r2)
theorem l_star [Lk s α] {b : Bool} {e : Expr} {es : List Expr} {p : Pos} {ma : Res s} {mr : Res (List α)} (he : PE X e (tP b F L O ma)) (hr : PA X es (tL b F L O mr)) (hs : starEach (.Starred e p :: es) X.env = (true, eval e X.env) :: starEach es X.env := by rfl) (hK : X.K = F.K := by rfl) :
    PA X (.Starred e p :: es) (tL b F L O (ma.bind fun x => mr.bind fun xs => .ok (Lk.its x ++ xs))) := pa_imp (StX.pa_star he hr hs) fun σ H Q ⟨g, q⟩ => by
  rw [out_bind] at q
  refine ⟨g, q.mono (fun x qx v1 H1 g1 s1 r1 => ?_) fun _ z => z⟩
  rw [out_bind] at qx
  obtain ⟨a, vs, h1, h2, h3⟩ := Lk.get r1
  rw [hK]
  refine ⟨a, vs, h1, h2.elim (fun z => .inr (rgn_sub.seq z)) (fun z => .inl (same_t rgn_sub z)), g1, qx.mono (fun y qy v2 H2 g2 s2 r2 => ?_) fun H' ⟨a, b⟩ => ⟨a, s1.trans b⟩⟩
  exact qy _ H2 g2 (s1.trans s2) (reps_append (h3.mono (rgn_grow s2)) r2)
theorem f_lst {b : Bool} {es : List Expr} {m : Res (List α)} {pos : Pos} (h : PA X es (tL b F L O m)) : PE X (.List es pos) (tF b F L O (m.bind fun as => need (as.length ≤ sizeLine) (.ok as))) := pe_imp (pe_lst h) fun σ H Q ⟨g, q⟩ => by
  rw [out_bind] at q
  refine ⟨g, q.mono (fun as qx vs H1 g1 s1 r1 => ?_) fun _ z => z⟩
  rw [out_need] at qx
  exact ⟨by rw [r1.length]; exact qx.1, kf_new g1 (KF.mono s1 qx.2) r1⟩
theorem n_tupN {b : Bool} {es : List Expr} {m : Res (List α)} {x1} {pos : Pos} (h : PA X es (tL b F L O m)) : PE X (.Tuple es x1 pos) (tP b F L O (m.bind fun as => need (as.length ≤ sizeLine) (.ok (Tp.mk as)))) := pe_imp (pe_tup h) fun σ H Q ⟨g, q⟩ => by
  rw [out_bind] at q
  refine ⟨g, q.mono (fun as qx vs H1 g1 s1 r1 => ?_) fun _ z => z⟩
  rw [out_need] at qx
  exact ⟨by rw [r1.length]; exact qx.1, fun p hp => qx.2 _ _ (g1.grow (same_upd hp)) (s1.trans (same_upd hp)) ⟨p, vs, rfl, .of (rgn_new g1 (same_upd hp) hp upd_same), r1.mono (rgn_grow (same_upd hp))⟩⟩
/-! xs + ys, xs * n, slices -/
theorem f_cat {x y : Expr} {b : Bool} {ma mb : Res (List α)} {pos : Pos} (hx : PE X x (tP b F L O ma)) (hy : PE X y (tP b F L O mb)) :
    PE X (.BinOp x .Add y pos) (tF b F L O (ma.bind fun x => mb.bind fun y => need (x.length + y.length ≤ sizeLine) (.ok (x ++ y)))) := nf2f (pe_op op_cat hx hy) fun x y vx vy H σ Q g rx ry q => by
  rw [out_need] at q
  obtain ⟨p, vs, rfl, h2, h3⟩ := rx
  obtain ⟨p', vs', rfl, h2', h3'⟩ := ry
  exact ⟨p, p', vs, vs', rfl, rfl, rgn_sub _ _ h2, rgn_sub _ _ h2', by rw [h3.length, h3'.length]; exact q.1, kf_new g q.2 (reps_append h3 h3')⟩
theorem reps_rep {K : Fg} {mg : MG} {H : Hp} {vs : List V} {as : List α} (r : Reps K mg H vs as) : ∀ n : Nat, Reps K mg H (List.replicate n vs).flatten (List.replicate n as).flatten
  | 0 => .nil
  | n + 1 => by
    rw [List.replicate_succ, List.replicate_succ, List.flatten_cons, List.flatten_cons]
    exact reps_append r (reps_rep r n)
theorem f_rep {x y : Expr} {b b2 : Bool} {ma : Res (List α)} {mb : Res Int} {pos : Pos} (hx : PE X x (tP b F L O ma)) (hy : PE X y (tP b2 F L O mb)) :
    PE X (.BinOp x .Mult y pos) (tF b F L O (ma.bind fun x => mb.bind fun n => need (Rg63 n ∧ x.length * n.toNat ≤ sizeLine) (.ok (List.replicate n.toNat x).flatten))) := nf2f (pe_op op_rep hx hy) fun x y vx vy H σ Q g rx ry q => by
  rw [out_need] at q
  obtain ⟨p, vs, rfl, h2, h3⟩ := rx
  cases ry
  exact ⟨p, y, vs, rfl, rfl, rgn_sub _ _ h2, q.1.1.1, q.1.1.2, by rw [h3.length]; exact q.1.2, kf_new g q.2 (reps_rep h3 _)⟩
def cut (xs : List α) (lo hi : Option Int) : List α := List.take (HT.sIx xs.length xs.length hi - HT.sIx xs.length 0 lo) (List.drop (HT.sIx xs.length 0 lo) xs)
def tO (F : Fr) (L : List (Option Asr)) (O : List Own) (m : Res (Option Int)) : TO := fun σ H Q =>
  G F L O σ H ∧ Out F m (fun a => ∀ H', G F L O σ H' → Same H H' → Q a H') (XP F L O σ H)
theorem po_imp {e : Option Expr} {t t' : TO} (h : PO X e t) (i : ∀ σ H Q, t' σ H Q → t σ H Q) : PO X e t' := ⟨fun pins s σ H Q I q => h.run pins s σ H Q I (i σ H Q q)⟩
theorem o_none : PO X none (tO F L O (.ok none)) := po_imp po_none fun σ H Q ⟨g, q⟩ => q H g (Same.refl _)
theorem o_some {e : Expr} {b : Bool} {m : Res Int} (h : PE X e (tP b F L O m)) : PO X (some e) (tO F L O (m.bind fun i => .ok (some i))) := po_imp (po_some h) fun σ H Q ⟨g, q⟩ => by
  rw [out_bind] at q
  exact ⟨g, q.mono (fun i k v H' g' s r => ⟨i, r, k H' g' s⟩) fun _ z => z⟩
theorem f_slice {x : Expr} {b : Bool} {ma : Res (List α)} {lo hi : Option Expr} {ml mh : Res (Option Int)} {p1 p2 : Pos} (hx : PE X x (tP b F L O ma)) (hl : PO X lo (tO F L O ml)) (hh : PO X hi (tO F L O mh)) :
    PE X (.Subscript x (.Slice lo hi none p2) p1) (tF b F L O (ma.bind fun x => ml.bind fun l => mh.bind fun h => .ok (cut x l h))) := pe_imp (pe_slice sl_list hx hl hh) fun σ H Q ⟨g, q⟩ => by
  rw [out_bind] at q
  refine ⟨g, q.mono (fun x qx v1 H1 g1 s1 r1 => ?_) fun _ z => z⟩
  rw [out_bind] at qx
  refine ⟨g1, qx.mono (fun l ql H2 g2 s2 => ?_) fun H' ⟨a, b⟩ => ⟨a, s1.trans b⟩⟩
  rw [out_bind] at ql
  refine ⟨g2, ql.mono (fun h qh H3 g3 s3 => ?_) fun H' ⟨a, b⟩ => ⟨a, (s1.trans s2).trans b⟩⟩
  obtain ⟨p, vs, rfl, h2, h3⟩ := r1
  refine ⟨p, vs, rfl, .of ((s2.trans s3) _ _ (rgn_sub _ _ h2)), kf_new g3 (KF.mono ((s1.trans s2).trans s3) qh) ?_⟩
  have e : vs.length = x.length := h3.length
  unfold cutV cut
  rw [e]
  exact reps_take _ (reps_drop _ (h3.mono (rgn_grow (s2.trans s3))))
/-! built-ins of one and of two arguments -/
def RC1 (F : Fr) (L : List (Option Asr)) (O : List Own) (b1 b3 : Bool) (r : List V → Hp → VK → Prop) (mc : α → Res γ) : Prop :=
  ∀ x vx H σ Q, G F L O σ H → rp F (rgn b1 F O H) vx x → Out F (mc x) (KP γ b3 F L O σ H Q) (XP F L O σ H) → r [vx] H Q
theorem nc1 {e : Expr} {b1 b3 : Bool} {r : List V → Hp → VK → Prop} {ma : Res α} {mc : α → Res γ} (h : PE X e (tCB r (tCons (tP b1 F L O ma) tNil))) (hr : RC1 F L O b1 b3 r mc) :
    PE X e (tP b3 F L O (ma.bind mc)) := pe_imp h fun σ H Q ⟨g, q⟩ => by
  rw [out_bind] at q
  refine ⟨g, q.mono (fun x qx v1 H1 g1 s1 r1 => ?_) fun _ z => z⟩
  exact hr x v1 H1 σ Q g1 r1 (qx.mono (fun z kz v H' g' s' r' => kz v H' g' (s1.trans s') r') fun H' ⟨a, b⟩ => ⟨a, s1.trans b⟩)
def RC1F (F : Fr) (L : List (Option Asr)) (O : List Own) (b1 b3 : Bool) (r : List V → Hp → VK → Prop) (mc : α → Res (List γ)) : Prop :=
  ∀ x vx H σ Q, G F L O σ H → rp F (rgn b1 F O H) vx x → Out F (mc x) (KF γ b3 F L O σ H Q) (XP F L O σ H) → r [vx] H Q
theorem nc1f {e : Expr} {b1 b3 : Bool} {r : List V → Hp → VK → Prop} {ma : Res α} {mc : α → Res (List γ)} (h : PE X e (tCB r (tCons (tP b1 F L O ma) tNil))) (hr : RC1F F L O b1 b3 r mc) :
    PE X e (tF b3 F L O (ma.bind mc)) := pe_imp h fun σ H Q ⟨g, q⟩ => by
  rw [out_bind] at q
  refine ⟨g, q.mono (fun x qx v1 H1 g1 s1 r1 => ?_) fun _ z => z⟩
  exact hr x v1 H1 σ Q g1 r1 (qx.mono (fun z kz => KF.mono s1 kz) fun H' ⟨a, b⟩ => ⟨a, s1.trans b⟩)
theorem nc2 {e : Expr} {b1 b2 b3 : Bool} {r : List V → Hp → VK → Prop} {ma : Res α} {mb : Res β} {mc : α → β → Res γ} (h : PE X e (tCB r (tCons (tP b1 F L O ma) (tCons (tP b2 F L O mb) tNil))))
    (hr : ∀ x y vx vy H σ Q, G F L O σ H → rp F (rgn b1 F O H) vx x → rp F (rgn b2 F O H) vy y → Out F (mc x y) (KP γ b3 F L O σ H Q) (XP F L O σ H) → r [vx, vy] H Q) :
    PE X e (tP b3 F L O (ma.bind fun x => mb.bind fun y => mc x y)) := pe_imp h fun σ H Q ⟨g, q⟩ => by
  rw [out_bind] at q
  refine ⟨g, q.mono (fun x qx v1 H1 g1 s1 r1 => ?_) fun _ z => z⟩
  rw [out_bind] at qx
  refine ⟨g1, qx.mono (fun y qy v2 H2 g2 s2 r2 => ?_) fun H' ⟨a, b⟩ => ⟨a, s1.trans b⟩⟩
  exact hr x y v1 v2 H2 σ Q g2 (Rep.mono (rgn_grow s2) r1) r2 (qy.mono (fun z kz v H' g' s' r' => kz v H' g' ((s1.trans s2).trans s') r') fun H' ⟨a, b⟩ => ⟨a, (s1.trans s2).trans b⟩)
theorem n_len [Lk s α] {e : Expr} {b1 b3 : Bool} {ma : Res s} {r} (h : PE X e (tCB r (tCons (tP b1 F L O ma) tNil))) (er : r = fun xs H Q => ∃ p ys, xs = [V.ref p] ∧ (SqL X.K H p ys ∨ SqT X.K H p ys) ∧ Q (V.int ys.length) H) (hK : X.K = F.K := by rfl) : PE X e (tP b3 F L O (ma.bind fun x => .ok ((Lk.its x).length : Int))) := nc1 h fun x vx H σ Q g rx q => by
  subst er
  obtain ⟨p, vs, rfl, h2, h3⟩ := Lk.get rx
  rw [hK]
  refine ⟨p, vs, rfl, h2.elim (fun z => .inl (rgn_sub.seq z)) (fun z => .inr (same_t rgn_sub z)), ?_⟩
  rw [h3.length]
  exact kp_flat g q
end
end NF

set_option Elab.async false
set_option linter.all false
set_option maxRecDepth 100000
/-! Nf3: statements, defs, calls. -/
namespace NF
open PySem PySem.Spec PyProof.Rows L2
open Data (toD)
section
variable {X : Cx} {F : Fr} {L : List (Option Asr)} {O : List Own} {α β γ s ι : Type} [Rep α] [Rep β] [Rep γ] [Rep s] [Rep ι]

/-! owned objects may be let go -/
theorem GO.sub {O' : List Own} {H : Hp} (g : GO F O H) (h : List.Sublist O' O) : GO F O' H where
  objs := fun w hw => let ⟨o, ho, p⟩ := g.objs w (h.subset hw); ⟨o, ho, w.mono (less_sub fun a ha => by
    rcases List.mem_append.mp ha with z | z
    · exact List.mem_append_left _ ((h.map Own.a).subset z)
    · exact List.mem_append_right _ z) p⟩
  nd := g.nd.sublist (h.map Own.a)
  own := fun w hw => g.own w (h.subset hw)
  keep := g.keep
  live := g.live
  hid := g.hid
  apart := fun w hw => g.apart w (h.subset hw)
  facts := fun z hz => z.mono (less_sub fun a ha => by
    rcases List.mem_append.mp ha with z | z
    · exact List.mem_append_left _ ((h.map Own.a).subset z)
    · exact List.mem_append_right _ z) (g.facts z hz)
theorem rg_sub {O' : List Own} {H : Hp} (h : List.Sublist O' O) : Same (rg F O H) (rg F O' H) := less_sub fun a ha => by
  rcases List.mem_append.mp ha with z | z
  · exact List.mem_append_left _ ((h.map Own.a).subset z)
  · exact List.mem_append_right _ z

/-! ### statements -/
abbrev XPS (F : Fr) : Hp → Prop := fun H' => GO F F.O0 H'
/-- goes on -/
def tN {β : Type} (F : Fr) (L : List (Option Asr)) (O : List Own) (m : Res β) (L' : β → List (Option Asr)) (O' : β → List Own) : TS := fun D σ H =>
  G F L O σ H ∧ Out F m (fun b => ∀ σ' H', G F (L' b) (O' b) σ' H' → D.nx σ' H') (XPS F)
/-- hands back -/
def tT {β : Type} (F : Fr) (L : List (Option Asr)) (O : List Own) (m : Res β) (Ret : β → V → Hp → Prop) : TS := fun D σ H =>
  G F L O σ H ∧ Out F m (fun b => ∀ v H', Ret b v H' → D.rt v H') (XPS F)
/-- goes on or hands back -/
def tM {β δ : Type} (F : Fr) (L : List (Option Asr)) (O : List Own) (m : Res (Sum β δ)) (L' : β → List (Option Asr)) (O' : β → List Own) (Ret : δ → V → Hp → Prop) : TS := fun D σ H =>
  G F L O σ H ∧ Out F m (fun r => match r with
    | .inl b => ∀ σ' H', G F (L' b) (O' b) σ' H' → D.nx σ' H'
    | .inr d => ∀ v H', Ret d v H' → D.rt v H') (XPS F)
theorem pss_ex {ι : Type} {st : List Stmt} {t : ι → TS} (h : ∀ b, PSs X st (t b)) : PSs X st (fun D σ H => ∃ b, t b D σ H) := ⟨fun pins s σ H D I ⟨b, q⟩ => (h b).run pins s σ H D I q⟩
variable {st : Stmt} {rest : List Stmt} {B B' D' : Type} {Ret : D' → V → Hp → Prop} {L' : B → List (Option Asr)} {O' : B → List Own} {L2' : B' → List (Option Asr)} {O2' : B' → List Own}
theorem b_N {m1 : Res B} {m2 : B → Res D'} (h1 : PS X st (tN F L O m1 L' O')) (h2 : ∀ b, PSs X rest (tT F (L' b) (O' b) (m2 b) Ret)) : PSs X (st :: rest) (tT F L O (m1.bind m2) Ret) := pss_imp (pss_cons h1 (pss_ex h2)) fun D σ H ⟨g, q⟩ => by
  rw [out_bind] at q
  exact ⟨g, q.mono (fun b k σ' H' g' => ⟨b, g', k⟩) fun _ z => z⟩
theorem n_N {m1 : Res B} {m2 : B → Res B'} (h1 : PS X st (tN F L O m1 L' O')) (h2 : ∀ b, PSs X rest (tN F (L' b) (O' b) (m2 b) L2' O2')) : PSs X (st :: rest) (tN F L O (m1.bind m2) L2' O2') := pss_imp (pss_cons h1 (pss_ex h2)) fun D σ H ⟨g, q⟩ => by
  rw [out_bind] at q
  exact ⟨g, q.mono (fun b k σ' H' g' => ⟨b, g', k⟩) fun _ z => z⟩
theorem m_N {m1 : Res B} {m2 : B → Res (Sum B' D')} (h1 : PS X st (tN F L O m1 L' O')) (h2 : ∀ b, PSs X rest (tM F (L' b) (O' b) (m2 b) L2' O2' Ret)) : PSs X (st :: rest) (tM F L O (m1.bind m2) L2' O2' Ret) := pss_imp (pss_cons h1 (pss_ex h2)) fun D σ H ⟨g, q⟩ => by
  rw [out_bind] at q
  exact ⟨g, q.mono (fun b k σ' H' g' => ⟨b, g', k⟩) fun _ z => z⟩
/-- the end of a block that goes on; slots and owned objects may be forgotten -/
def wk : List (Option Asr) → List (Option Asr) → Prop
  | [], [] => True
  | x :: xs, y :: ys => (y = none ∨ y = x) ∧ wk xs ys
  | _, _ => False
theorem wk_ok {R : Hp} : ∀ {l l' : List (Option Asr)} {σ : L2.St}, wk l l' → Paired (SlotOk R) l σ → Paired (SlotOk R) l' σ
  | [], [], _, _, h => h
  | _ :: _, _ :: _, _, ⟨w, ws⟩, .cons h hs => .cons (by
      rcases w with rfl | rfl
      · trivial
      · exact h) (wk_ok ws hs)
  | [], _ :: _, _, w, _ => w.elim
  | _ :: _, [], _, w, _ => w.elim
theorem G.to {L'' : List (Option Asr)} {O'' : List Own} {σ : L2.St} {H : Hp} (g : G F L O σ H) (h : wk L L'') (ho : List.Sublist O'' O) : G F L'' O'' σ H :=
  ⟨L2.Paired.mapP (wk_ok h g.slots) fun _ _ q => q.mono (rg_sub ho), g.go.sub ho⟩
theorem n_end (b : B) (h : wk L (L' b)) (ho : List.Sublist (O' b) O) : PSs X [] (tN F L O (.ok b) L' O') := pss_imp pss_nil fun D σ H ⟨g, q⟩ => q σ H (g.to h ho)
theorem m_end (b : B) (h : wk L (L' b)) (ho : List.Sublist (O' b) O) : PSs X [] (tM F L O (.ok (.inl b)) L' O' Ret) := pss_imp pss_nil fun D σ H ⟨g, q⟩ => q σ H (g.to h ho)
theorem m_T {m : Res D'} {st : List Stmt} (h : PSs X st (tT F L O m Ret)) : PSs X st (tM F L O (m.bind fun d => .ok (.inr d)) L' O' Ret) := pss_imp h fun D σ H ⟨g, q⟩ => by
  rw [out_bind] at q
  exact ⟨g, q⟩
theorem b_s {m : Res D'} (h : PS X st (tT F L O m Ret)) : PSs X [st] (tT F L O m Ret) := pss_one h
/-! names -/
def tNx (i : Nat) (te : TE) : TS := tAsg te (gName i)
theorem set_ok {R : Hp} {v : V} {p : Option Asr} (h : SlotOk R p (some v)) : ∀ {l : List (Option Asr)} {σ : L2.St} (i : Nat), Paired (SlotOk R) l σ → Paired (SlotOk R) (l.set i p) (σ.set i (some v))
  | _, _, _, .nil => .nil
  | _, _, 0, .cons _ t => .cons h t
  | _, _, n + 1, .cons q t => .cons q (set_ok h n t)
theorem go_s {H' : Hp} {O₀ : List Own} (g : GO F O H') (h : List.Sublist O₀ O) : GO F O₀ H' := g.sub h
/-- goes on, with a new owned object at p -/
def tNp {β : Type} (F : Fr) (L : List (Option Asr)) (O : List Own) (m : Res β) (L' : Addr → β → List (Option Asr)) (O' : Addr → β → List Own) : TS := fun D σ H =>
  G F L O σ H ∧ Out F m (fun b => ∀ p σ' H', G F (L' p b) (O' p b) σ' H' → D.nx σ' H') (XPS F)
section
variable {L' : Addr → B → List (Option Asr)} {O' : Addr → B → List Own}
theorem b_Np {m1 : Res B} {m2 : B → Res D'} (h1 : PS X st (tNp F L O m1 L' O')) (h2 : ∀ b p, PSs X rest (tT F (L' p b) (O' p b) (m2 b) Ret)) : PSs X (st :: rest) (tT F L O (m1.bind m2) Ret) := pss_imp (pss_cons h1 (pss_ex fun b => pss_ex (h2 b))) fun D σ H ⟨g, q⟩ => by
  rw [out_bind] at q
  exact ⟨g, q.mono (fun b k p σ' H' g' => ⟨b, p, g', k⟩) fun _ z => z⟩
theorem n_Np {m1 : Res B} {m2 : B → Res B'} (h1 : PS X st (tNp F L O m1 L' O')) (h2 : ∀ b p, PSs X rest (tN F (L' p b) (O' p b) (m2 b) L2' O2')) : PSs X (st :: rest) (tN F L O (m1.bind m2) L2' O2') := pss_imp (pss_cons h1 (pss_ex fun b => pss_ex (h2 b))) fun D σ H ⟨g, q⟩ => by
  rw [out_bind] at q
  exact ⟨g, q.mono (fun b k p σ' H' g' => ⟨b, p, g', k⟩) fun _ z => z⟩
theorem m_Np {m1 : Res B} {m2 : B → Res (Sum B' D')} (h1 : PS X st (tNp F L O m1 L' O')) (h2 : ∀ b p, PSs X rest (tM F (L' p b) (O' p b) (m2 b) L2' O2' Ret)) : PSs X (st :: rest) (tM F L O (m1.bind m2) L2' O2' Ret) := pss_imp (pss_cons h1 (pss_ex fun b => pss_ex (h2 b))) fun D σ H ⟨g, q⟩ => by
  rw [out_bind] at q
  exact ⟨g, q.mono (fun b k p σ' H' g' => ⟨b, p, g', k⟩) fun _ z => z⟩
end
section
variable {x : Str} {e : Expr} {pos pos' : Pos} (i : Nat)
/-- x = e -/
theorem s_set (hN : X.N.Nodup) (hO : List.Sublist F.O0 O) {m : Res α} (he : PE X e (tP true F L O m)) (hi : X.N[i]? = some x := by rfl) (hx : L2.Loc X.env.scope x := by first | exact .inl rfl | exact .inr rfl) (hs : swapsWith e (some (.Name x pos')) pos.line X.env = pure false := by rfl) (hf : X.fn x = true ∨ X.env.scope.names.lookup x = some .local := by first | exact .inl rfl | exact .inr rfl) :
    PS X (.Assign [.Name x pos'] e pos) (tN F L O m (fun a => L.set i (vl F.K F.mg a)) (fun _ => O)) := ps_imp (ps_set (i := i) hN hi hx he hs hf) fun D σ H ⟨g, q⟩ =>
  ⟨g, q.mono (fun a k v H1 g1 s1 r1 => k _ _ ⟨set_ok (p := vl F.K F.mg a) r1 i g1.slots, g1.go⟩) fun H' ⟨a, _⟩ => a.go.sub hO⟩
theorem rg_new {H H1 : Hp} {p : Addr} {w : Own} (hw : w.a = p) (e : Same H H1) (h1 : H p = none) : Same (rg F O H) (rg F (w :: O) H1) := fun b o q => by
  unfold rg at q ⊢
  by_cases hb : b ∈ addrs O ++ F.A
  · rw [less_in hb] at q; cases q
  · rw [less_out hb] at q
    rw [less_out (by
      intro z
      rcases List.mem_append.mp z with z | z
      · rcases List.mem_cons.mp z with z | z
        · rw [z, hw, h1] at q; cases q
        · exact hb (List.mem_append_left _ z)
      · exact hb (List.mem_append_right _ z))]
    exact e b o q
theorem go_new {σ : L2.St} {H H1 : Hp} {p : Addr} {vs : List V} {as : List α} (g : G F L O σ H) (g1 : GO F O H1) (e : Same H H1) (h1 : H p = none) (h2 : H1 p = some (.lst vs)) (r : Reps F.K F.mg (less (rg F O H1) [p]) vs as) : GO F (ow F.K F.mg p as :: O) H1 where
  objs := fun w hw => by
    rcases List.mem_cons.mp hw with rfl | hw
    · refine ⟨_, h2, vs, rfl, r.mono fun b o q => ?_⟩
      unfold rg
      by_cases hb : b ∈ [p]
      · rw [less_in hb] at q; cases q
      · rw [less_out hb] at q
        unfold rg at q
        by_cases hc : b ∈ addrs O ++ F.A
        · rw [less_in hc] at q; cases q
        · rw [less_out hc] at q
          rw [less_out]
          · exact q
          · intro z
            rcases List.mem_cons.mp (show b ∈ p :: (addrs O ++ F.A) from z) with z | z
            · exact hb (List.mem_singleton.mpr z)
            · exact hc z
    · obtain ⟨o, ho, hp⟩ := g.go.objs w hw
      exact ⟨o, e _ _ ho, w.mono (rg_new rfl e h1) hp⟩
  nd := by
    refine List.nodup_cons.mpr ⟨fun z => ?_, g1.nd⟩
    exact g.go.out h1 (List.mem_append_left _ z)
  own := fun w hw => by
    rcases List.mem_cons.mp hw with rfl | hw
    · refine .inr ?_
      cases q : F.H0 p with
      | none => exact q
      | some o => exact (g.go.live p (by rw [q]; simp) h1).elim
    · exact g1.own w hw
  keep := g1.keep
  live := g1.live
  hid := g1.hid
  apart := fun w hw => by
    rcases List.mem_cons.mp hw with rfl | hw
    · exact fun z => g.go.out h1 (List.mem_append_right _ z)
    · exact g1.apart w hw
  facts := fun z hz => z.mono (rg_new rfl e h1) (g.go.facts z hz)
/-- x = a new list, owned from now on -/
theorem s_own (hN : X.N.Nodup) (hO : List.Sublist F.O0 O) {m : Res (List α)} (he : PE X e (tF true F L O m)) (hi : X.N[i]? = some x := by rfl) (hx : L2.Loc X.env.scope x := by first | exact .inl rfl | exact .inr rfl) (hs : swapsWith e (some (.Name x pos')) pos.line X.env = pure false := by rfl) (hf : X.fn x = true ∨ X.env.scope.names.lookup x = some .local := by first | exact .inl rfl | exact .inr rfl) :
    PS X (.Assign [.Name x pos'] e pos) (tNp F L O m (fun p _ => L.set i (rf p)) (fun p as => ow F.K F.mg p as :: O)) := ps_imp (ps_set (i := i) hN hi hx he hs hf) fun D σ H ⟨g, q⟩ =>
  ⟨g, q.mono (fun as k p vs H1 g1 s1 h1 h2 r1 => k p _ _ ⟨set_ok (p := rf p) rfl i (L2.Paired.mapP g.slots fun _ _ z => z.mono (rg_new rfl s1 h1)), go_new g g1.go s1 h1 h2 r1⟩) fun H' ⟨a, _⟩ => a.go.sub hO⟩
end
/-! if -/
section
variable {c : Expr} {mc : Res Bool} {body orelse : List Stmt} {pos : Pos}
theorem b_if {m1 m2 : Res D'} (hc : PT X c (tB' F L O mc)) (hb : PSs X body (tT F L O m1 Ret)) (hr : PSs X rest (tT F L O m2 Ret)) (hO : List.Sublist F.O0 O) : PSs X (.If c body [] pos :: rest) (tT F L O (mc.bind fun c => if c then m1 else m2) Ret) := pss_imp (pss_cons (ps_if hc hb pss_nil) hr) fun D σ H ⟨g, q⟩ => by
  rw [out_bind] at q
  refine ⟨g, q.mono (fun c k H1 g1 s1 => ?_) fun H' ⟨a, _⟩ => a.go.sub hO⟩
  cases c with
  | true => exact ⟨g1, k⟩
  | false => exact ⟨g1, k⟩
theorem b_ife {m1 m2 : Res D'} (hc : PT X c (tB' F L O mc)) (hb : PSs X body (tT F L O m1 Ret)) (hr : PSs X orelse (tT F L O m2 Ret)) (hO : List.Sublist F.O0 O) : PS X (.If c body orelse pos) (tT F L O (mc.bind fun c => if c then m1 else m2) Ret) := ps_imp (ps_if hc hb hr) fun D σ H ⟨g, q⟩ => by
  rw [out_bind] at q
  refine ⟨g, q.mono (fun c k H1 g1 s1 => ?_) fun H' ⟨a, _⟩ => a.go.sub hO⟩
  cases c with
  | true => exact ⟨g1, k⟩
  | false => exact ⟨g1, k⟩
theorem s_if {m1 m2 : Res B} (hc : PT X c (tB' F L O mc)) (hb : PSs X body (tN F L O m1 L' O')) (hr : PSs X orelse (tN F L O m2 L' O')) (hO : List.Sublist F.O0 O) : PS X (.If c body orelse pos) (tN F L O (mc.bind fun c => if c then m1 else m2) L' O') := ps_imp (ps_if hc hb hr) fun D σ H ⟨g, q⟩ => by
  rw [out_bind] at q
  refine ⟨g, q.mono (fun c k H1 g1 s1 => ?_) fun H' ⟨a, _⟩ => a.go.sub hO⟩
  cases c with
  | true => exact ⟨g1, k⟩
  | false => exact ⟨g1, k⟩
theorem m_if {m1 : Res D'} {m2 : Res (Sum B D')} (hc : PT X c (tB' F L O mc)) (hb : PSs X body (tT F L O m1 Ret)) (hr : PSs X rest (tM F L O m2 L' O' Ret)) (hO : List.Sublist F.O0 O) : PSs X (.If c body [] pos :: rest) (tM F L O (mc.bind fun c => if c then (m1.bind fun d => .ok (.inr d)) else m2) L' O' Ret) := pss_imp (pss_cons (ps_if hc hb pss_nil) hr) fun D σ H ⟨g, q⟩ => by
  rw [out_bind] at q
  refine ⟨g, q.mono (fun c k H1 g1 s1 => ?_) fun H' ⟨a, _⟩ => a.go.sub hO⟩
  cases c with
  | true =>
    simp only [if_true] at k
    rw [out_bind] at k
    exact ⟨g1, k⟩
  | false => exact ⟨g1, k⟩
end
/-! return -/
def rV {ρ : Type} [Rep ρ] (F : Fr) (b : ρ) (v : V) (H : Hp) : Prop := GO F [] H ∧ rp F (rg F [] H) v b
def rF (F : Fr) (as : List α) (v : V) (H : Hp) : Prop := ∃ p vs, v = .ref p ∧ GO F [] H ∧ F.H0 p = none ∧ p ∉ F.A ∧ H p = some (.lst vs) ∧ Reps F.K F.mg (less (rg F [] H) [p]) vs as
theorem b_ret {m : Res α} {e : Expr} {pos : Pos} (he : PE X e (tP true F L O m)) (hO : List.Sublist F.O0 O) : PSs X [.Return (some e) pos] (tT F L O m (rV F)) := pss_one (ps_imp (ps_ret he) fun D σ H ⟨g, q⟩ =>
  ⟨g, q.mono (fun a k v H1 g1 s1 r1 => k v H1 ⟨g1.go.sub (List.nil_sublist _), Rep.mono (rg_sub (List.nil_sublist _)) r1⟩) fun H' ⟨a, _⟩ => a.go.sub hO⟩)
theorem b_retF {m : Res (List α)} {e : Expr} {pos : Pos} (he : PE X e (tF true F L O m)) (hO : List.Sublist F.O0 O) : PSs X [.Return (some e) pos] (tT F L O m (rF F)) := pss_one (ps_imp (ps_ret he) fun D σ H ⟨g, q⟩ =>
  ⟨g, q.mono (fun a k p vs H1 g1 s1 h1 h2 r1 => k _ H1 ⟨p, vs, rfl, g1.go.sub (List.nil_sublist _), by
    cases q : F.H0 p with
    | none => rfl
    | some o => exact (g.go.live p (by rw [q]; simp) h1).elim, fun z => g.go.out h1 (List.mem_append_right _ z), h2, r1.mono (less_mono fun b o _ q => rg_sub (List.nil_sublist _) b o q)⟩) fun H' ⟨a, _⟩ => a.go.sub hO⟩)
/-- return of an owned list -/
theorem b_retO {as : List α} {O1 : List Own} {p : Addr} {x : Str} {pos' pos : Pos} (i : Nat) (hL : L[i]? = some (rf p) := by rfl) (hO1 : (ow F.K F.mg p as :: O1).Perm O) (hW : F.W = []) (hO : List.Sublist F.O0 O) (hN : X.N[i]? = some x := by rfl) (hv : Vis X.env.scope x := by first | exact Or.inl rfl | exact Or.inr (Or.inl rfl) | exact Or.inr (Or.inr rfl)) (hd : (x == ("__debug__" : Str)) = false := by decide)
    (hcd : (x == ("__classdict__" : Str)) = false := by decide) : PSs X [.Return (some (.Name x pos')) pos] (tT F L O (.ok as) (rF F)) := pss_one (ps_imp (ps_ret (pe_var hN hv hd hcd)) fun D σ H ⟨g, q⟩ => by
  obtain ⟨v, h1, h2⟩ := g.slot hL
  have hm : ow F.K F.mg p as ∈ O := hO1.subset List.mem_cons_self
  obtain ⟨o, h3, vs, h4, h5⟩ := g.go.objs _ hm
  subst h4
  refine ⟨v, h1, q v H ⟨p, vs, h2, g.go.sub (List.nil_sublist _), ?_, g.go.apart _ hm, h3, h5.mono fun b o z => ?_⟩⟩
  · rcases g.go.own _ hm with z | z
    · rw [hW] at z; cases z
    · exact z
  · have hb : b ∉ addrs O ++ F.A := fun y => by unfold rg at z; rw [less_in y] at z; cases z
    unfold rg at z ⊢
    rw [less_out hb] at z
    rw [less_out (fun y => hb (List.mem_append_left _ (by
      rw [List.mem_singleton.mp y]
      exact List.mem_map.mpr ⟨_, hm, rfl⟩))), show addrs ([] : List Own) ++ F.A = F.A from rfl, less_out (fun y => hb (List.mem_append_right _ y))]
    exact z)
end
end NF

set_option Elab.async false
set_option linter.all false
set_option maxRecDepth 100000
/-! Nf4: promises, defs, calls. -/
namespace NF
open PySem PySem.Spec PyProof.Rows L2
open Data (toD)
/-- the frame of a def that changes nothing -/
abbrev F0 (K : Fg) (mg : MG) (H : Hp) (A : List Addr) (E : XK) : Fr := ⟨K, mg, H, [], A, [], E, []⟩
/-- the frame of a def that changes a list -/
abbrev F1 {α : Type} [Rep α] (K : Fg) (mg : MG) (H : Hp) (A : List Addr) (E : XK) (p : Addr) (xs : List α) : Fr := ⟨K, mg, H, [p], A, [ow K mg p xs], E, []⟩
section
variable (K : Fg) (mg : MG) {τ ρ α : Type} [RepA τ] [Rep ρ] [Rep α]
/-- hands back what mir says; nothing that stood changes; nothing is raised -/
def spP (mir : τ → Res ρ) : Sp := fun vs H Q _ => ∃ (a : τ) (A : List Addr), (∀ x ∈ A, H x ≠ none) ∧ RepA.rep K mg (less H A) vs a ∧
  Out (F0 K mg H A E0) (mir a) (fun r => ∀ v H', Same H H' → Rep.rep K mg (less H' A) v r → Q v H') (fun H' => Same H H')
/-- .. a new list -/
def spF (mir : τ → Res (List α)) : Sp := fun vs H Q _ => ∃ (a : τ) (A : List Addr), (∀ x ∈ A, H x ≠ none) ∧ RepA.rep K mg (less H A) vs a ∧
  Out (F0 K mg H A E0) (mir a) (fun as => ∀ p ws H', Same H H' → H p = none → H' p = some (.lst ws) → Reps K mg (less (less H' A) [p]) ws as → Q (.ref p) H') (fun H' => Same H H')
/-- .. or raises -/
def spX (mir : τ → Res ρ) : Sp := fun vs H Q E => ∃ (a : τ) (A : List Addr), (∀ x ∈ A, H x ≠ none) ∧ RepA.rep K mg (less H A) vs a ∧
  Out (F0 K mg H A E) (mir a) (fun r => ∀ v H', Same H H' → Rep.rep K mg (less H' A) v r → Q v H') (fun H' => Same H H')
end
theorem go_start {K : Fg} {mg : MG} {H : Hp} {A : List Addr} {E : XK} (hA : ∀ x ∈ A, H x ≠ none) : GO (F0 K mg H A E) [] H :=
  ⟨fun _ h => (nomatch h), List.nodup_nil, fun _ h => (nomatch h), fun _ _ h _ => h, fun _ h => h, hA, fun _ h => (nomatch h), fun _ h => (nomatch h)⟩
theorem go_same {K : Fg} {mg : MG} {H H' : Hp} {A : List Addr} {E : XK} (g : GO (F0 K mg H A E) [] H') : Same H H' := fun a o h => g.keep a o h (fun z => nomatch z)
theorem go_of_same {K : Fg} {mg : MG} {H H' : Hp} {A : List Addr} {E : XK} (hA : ∀ x ∈ A, H x ≠ none) (e : Same H H') : GO (F0 K mg H A E) [] H' := (go_start hA).grow e
theorem out_xp {α : Type} {F : Fr} {m : Res α} {k : α → Prop} {xp xp' : Hp → Prop} (h : Out F m k xp) (hx : ∀ H', xp' H' → xp H') : Out F m k xp' := h.mono (fun _ z => z) hx
section
variable {P : Program} {w : World} {K : PySem.W.Frag} {mg : Str → Option Value} {base : Heap} {τ ρ α : Type} [RepA τ] [Rep ρ] [Rep α]
variable {x qual : Str} {st : Stmt} {f : Addr} {fd : FuncData} {N ps : List Str} {k : Nat}
theorem def_P {mir : τ → Res ρ} (Fu : Fun K x qual st f fd) (S : FnScope N ps (defScope st)) (L0 : τ → List (Option Asr)) (hl : ∀ (vs : List V) (R : Hp) (a : τ), RepA.rep K mg R vs a → vs.length = ps.length ∧ Paired (SlotOk R) (L0 a) (start N vs))
    (body : ∀ (cdv : Value) (A : Around) (outer : List Env) (s : Shared) (H : Hp) (Av : List Addr) (E : XK) (a : τ), Room k (A.deeper (envOfC qual (defScope st) s.heap.objs.size f cdv)) →
      PSs (cxOf CX0 P w K mg base N qual (defScope st) f cdv A outer s H E).nox (defBody st) (tT (F0 K mg H Av E0) (L0 a) [] (mir a) (rV (F0 K mg H Av E0)))) :
    FnOk P w K mg base CX0 (k + 1) f fd ps (spP K mg mir) := by
  refine Fu.ok S (fun vs H Q E ⟨a, A, _, h, _⟩ => (hl vs _ a h).1) (fun cdv A outer s H vs Q E hr ⟨a, Av, hA, h, q⟩ => ⟨_, body cdv A outer s H Av E a hr, ⟨(hl vs _ a h).2, go_start hA⟩, ?_⟩)
  exact q.mono (fun r k v H' ⟨g, r'⟩ => k v H' (go_same g) r') fun H' g => go_same g
/-- .. that may fall off its end (None) -/
theorem def_F {mir : τ → Res (List α)} (Fu : Fun K x qual st f fd) (S : FnScope N ps (defScope st)) (L0 : τ → List (Option Asr)) (hl : ∀ (vs : List V) (R : Hp) (a : τ), RepA.rep K mg R vs a → vs.length = ps.length ∧ Paired (SlotOk R) (L0 a) (start N vs))
    (body : ∀ (cdv : Value) (A : Around) (outer : List Env) (s : Shared) (H : Hp) (Av : List Addr) (E : XK) (a : τ), Room k (A.deeper (envOfC qual (defScope st) s.heap.objs.size f cdv)) →
      PSs (cxOf CX0 P w K mg base N qual (defScope st) f cdv A outer s H E).nox (defBody st) (tT (F0 K mg H Av E0) (L0 a) [] (mir a) (rF (F0 K mg H Av E0)))) :
    FnOk P w K mg base CX0 (k + 1) f fd ps (spF K mg mir) := by
  refine Fu.ok S (fun vs H Q E ⟨a, A, _, h, _⟩ => (hl vs _ a h).1) (fun cdv A outer s H vs Q E hr ⟨a, Av, hA, h, q⟩ => ⟨_, body cdv A outer s H Av E a hr, ⟨(hl vs _ a h).2, go_start hA⟩, ?_⟩)
  exact q.mono (fun r k v H' ⟨p, ws, e, g, h1, h2, h3, h4⟩ => by subst e; exact k p ws H' (go_same g) h1 h3 h4) fun H' g => go_same g
theorem def_X {mir : τ → Res ρ} (Fu : Fun K x qual st f fd) (S : FnScope N ps (defScope st)) (L0 : τ → List (Option Asr)) (hl : ∀ (vs : List V) (R : Hp) (a : τ), RepA.rep K mg R vs a → vs.length = ps.length ∧ Paired (SlotOk R) (L0 a) (start N vs))
    (body : ∀ (cdv : Value) (A : Around) (outer : List Env) (s : Shared) (H : Hp) (Av : List Addr) (E : XK) (a : τ), Room k (A.deeper (envOfC qual (defScope st) s.heap.objs.size f cdv)) →
      PSs (cxOf (CX P w) P w K mg base N qual (defScope st) f cdv A outer s H E) (defBody st) (tT (F0 K mg H Av E) (L0 a) [] (mir a) (rV (F0 K mg H Av E)))) :
    FnOk P w K mg base (CX P w) (k + 1) f fd ps (spX K mg mir) := by
  refine Fu.okX S (fun vs H Q E ⟨a, A, _, h, _⟩ => (hl vs _ a h).1) (fun cdv A outer s H vs Q E hr ⟨a, Av, hA, h, q⟩ => ⟨_, body cdv A outer s H Av E a hr, ⟨(hl vs _ a h).2, go_start hA⟩, ?_⟩)
  exact q.mono (fun r k v H' ⟨g, r'⟩ => k v H' (go_same g) r') fun H' g => go_same g
end
/-! ### calls -/
section
variable {X : Cx} {F : Fr} {L : List (Option Asr)} {O : List Own} {τ ρ α : Type} [RepA τ] [Rep ρ] [Rep α]
theorem a_nil {b : Bool} : PA X [] (tA b F L O (.ok ())) := pa_imp pa_nil fun σ H Q ⟨g, q⟩ => q [] H g (Same.refl _) rfl
theorem a_cons {b : Bool} {e : Expr} {es : List Expr} {ma : Res α} {mr : Res τ} (he : PE X e (tP b F L O ma)) (hr : PA X es (tA b F L O mr)) (hs : starEach (e :: es) X.env = (false, eval e X.env) :: starEach es X.env := by rfl) :
    PA X (e :: es) (tA b F L O (ma.bind fun x => mr.bind fun r => .ok (Ar.mk x r))) := pa_imp (pa_cons he hr hs) fun σ H Q ⟨g, q⟩ => by
  rw [out_bind] at q
  refine ⟨g, q.mono (fun x qx v1 H1 g1 s1 r1 => ?_) fun _ z => z⟩
  rw [out_bind] at qx
  refine ⟨g1, qx.mono (fun y qy v2 H2 g2 s2 r2 => ?_) fun H' ⟨a, b⟩ => ⟨a, s1.trans b⟩⟩
  exact qy _ H2 g2 (s1.trans s2) ⟨v1, v2, rfl, Rep.mono (rgn_grow s2) r1, r2⟩
def avoid (b : Bool) (F : Fr) (O : List Own) : List Addr := if b then addrs O ++ F.A else []
theorem rgn_avoid {b : Bool} {H : Hp} : rgn b F O H = less H (avoid b F O) := by
  cases b
  · funext a
    show H a = less H [] a
    rw [less_out List.not_mem_nil]
  · rfl
theorem GO.avoided {b : Bool} {H : Hp} (g : GO F O H) : ∀ x ∈ avoid b F O, H x ≠ none := fun x hx => by
  cases b with
  | false => exact (List.not_mem_nil (show x ∈ ([] : List Addr) from hx)).elim
  | true => exact fun z => g.out z hx
variable {k : Nat} {f : Addr} {fd : FuncData} {ps : List Str} {x : Str} {p pos : Pos} {e : Expr} {es : List Expr} {b : Bool}
theorem call_core {mir : τ → Res ρ} {m : Res τ} {e : Expr} {E : XK} {sp : Sp} (hE : F.E = E) (hsp : ∀ vs H Q, (∃ (a : τ) (A : List Addr), (∀ x ∈ A, H x ≠ none) ∧ RepA.rep F.K F.mg (less H A) vs a ∧
    Out (F0 F.K F.mg H A E) (mir a) (fun r => ∀ v H', Same H H' → Rep.rep F.K F.mg (less H' A) v r → Q v H') (fun H' => Same H H')) → sp vs H Q E) (h : PE X e (tCall sp [] E (tA b F L O m))) : PE X e (tP b F L O (m.bind mir)) := pe_imp h fun σ H Q ⟨g, q⟩ => by
  rw [out_bind] at q
  refine ⟨g, q.mono (fun a qa vs H1 g1 s1 r1 => ?_) fun _ z => z⟩
  show sp (vs ++ []) H1 Q E
  rw [List.append_nil]
  refine hsp _ _ _ ⟨a, avoid b F O, g1.go.avoided, by rw [← rgn_avoid]; exact r1, ?_⟩
  subst hE
  cases e : mir a with
  | ok r =>
    rw [e] at qa
    exact fun v H' s2 r2 => qa v H' (g1.grow s2) (s1.trans s2) (by rw [rgn_avoid]; exact r2)
  | err c fs =>
    rw [e] at qa
    exact fun C d H' h1 h2 h4 => qa C d H' h1 (h2.older g1.go.live) ⟨g1.grow h4, s1.trans h4⟩
  | bad =>
    rw [e] at qa
    exact qa.elim
theorem callF_core {mir : τ → Res (List α)} {m : Res τ} {e : Expr} {E : XK} {sp : Sp} (hE : F.E = E) (hsp : ∀ vs H Q, (∃ (a : τ) (A : List Addr), (∀ x ∈ A, H x ≠ none) ∧ RepA.rep F.K F.mg (less H A) vs a ∧
    Out (F0 F.K F.mg H A E) (mir a) (fun as => ∀ p ws H', Same H H' → H p = none → H' p = some (.lst ws) → Reps F.K F.mg (less (less H' A) [p]) ws as → Q (.ref p) H') (fun H' => Same H H')) → sp vs H Q E) (h : PE X e (tCall sp [] E (tA b F L O m))) : PE X e (tF b F L O (m.bind mir)) := pe_imp h fun σ H Q ⟨g, q⟩ => by
  rw [out_bind] at q
  refine ⟨g, q.mono (fun a qa vs H1 g1 s1 r1 => ?_) fun _ z => z⟩
  show sp (vs ++ []) H1 Q E
  rw [List.append_nil]
  refine hsp _ _ _ ⟨a, avoid b F O, g1.go.avoided, by rw [← rgn_avoid]; exact r1, ?_⟩
  subst hE
  cases e : mir a with
  | ok r =>
    rw [e] at qa
    exact fun p ws H' s2 h1 h2 r2 => qa p ws H' (g1.grow s2) (s1.trans s2) (s1.free h1) h2 (by rw [rgn_avoid]; exact r2)
  | err c fs =>
    rw [e] at qa
    exact fun C d H' h1 h2 h4 => qa C d H' h1 (h2.older g1.go.live) ⟨g1.grow h4, s1.trans h4⟩
  | bad =>
    rw [e] at qa
    exact qa.elim
/-- f(..), f of nothing raised, from a def that raises nothing -/
theorem n_call {mir : τ → Res ρ} {m : Res τ} (Gf : FnOk X.prog X.w X.K X.mg X.base CX0 k f fd ps (spP X.K X.mg mir)) (hr : Room k X.A) (hm : X.mg x = some (.ref f)) (hk : PySem.W.keepIn X.K (.ref f) = true) (hb : Binds X.K fd ps [])
    (ha : PA X (e :: es) (tA b F L O m)) (hg : Gl X x := by rfl) (hE : F.E = E0 := by rfl) (hK : X.K = F.K := by rfl) (hM : X.mg = F.mg := by rfl) (hd : (x == ("__debug__" : Str)) = false := by decide)
    (hs : starEach (e :: es) X.env = (false, eval e X.env) :: starEach es X.env := by rfl) (hs2 : ((backTo pos (starEach es X.env)).any fun x => x.fst) = false := by rfl) : PE X (.Call (.Name x p) (e :: es) [] pos) (tP b F L O (m.bind mir)) :=
  call_core (sp := spP X.K X.mg mir) hE (fun vs H Q q => by rw [← hK, ← hM] at q; exact q) (pe_call Gf hr hg hm hk hb .nil pass0 ha hd hs hs2)
theorem f_call {mir : τ → Res (List α)} {m : Res τ} (Gf : FnOk X.prog X.w X.K X.mg X.base CX0 k f fd ps (spF X.K X.mg mir)) (hr : Room k X.A) (hm : X.mg x = some (.ref f)) (hk : PySem.W.keepIn X.K (.ref f) = true) (hb : Binds X.K fd ps [])
    (ha : PA X (e :: es) (tA b F L O m)) (hg : Gl X x := by rfl) (hE : F.E = E0 := by rfl) (hK : X.K = F.K := by rfl) (hM : X.mg = F.mg := by rfl) (hd : (x == ("__debug__" : Str)) = false := by decide)
    (hs : starEach (e :: es) X.env = (false, eval e X.env) :: starEach es X.env := by rfl) (hs2 : ((backTo pos (starEach es X.env)).any fun x => x.fst) = false := by rfl) : PE X (.Call (.Name x p) (e :: es) [] pos) (tF b F L O (m.bind mir)) :=
  callF_core (sp := spF X.K X.mg mir) hE (fun vs H Q q => by rw [← hK, ← hM] at q; exact q) (pe_call Gf hr hg hm hk hb .nil pass0 ha hd hs hs2)
end
end NF

set_option Elab.async false
set_option linter.all false
set_option maxRecDepth 100000
/-! Nf5: what is walked; loops; comprehensions. -/
namespace NF
open PySem PySem.Spec PyProof.Rows L2
open Data (toD)
section
variable {X : Cx} {F : Fr} {L : List (Option Asr)} {O : List Own} {α β γ s : Type} [Rep α] [Rep β] [Rep γ] [Rep s]
theorem pi_seq {tg l : Expr} {tl : TE} (hl : PE X l tl) : PI X tg l (fun σ H R => tl σ H fun x H1 => ∃ a xs, x = .ref a ∧ ((SqL X.K H1 a xs ∧ R (Itl X.K a) H1) ∨ (SqT X.K H1 a xs ∧ R (Itt X.K a) H1))) := by
  refine ⟨fun pins s σ H R I h => ?_⟩
  refine thn (hl.run pins s σ H _ I h) fun v s1 ⟨x, H1, I1, r1, q1⟩ => ?_
  obtain ⟨a, xs, e, q⟩ := q1
  subst e
  cases r1
  rcases q with ⟨hq, q⟩ | ⟨hq, q⟩
  · obtain ⟨its, rv, p, hz⟩ := I1.list hq
    refine wpAny_pyIter_list p.isList ?_
    refine ⟨s1.heap.objs.size, [s1.heap.objs.size], _, _, H1, rfl, I1.kept (t' := s1.toks) fun b o e => Heap.get?_push_of_some _ e, turn_list a _, ⟨_, Heap.get?_push_size _ rfl, rfl, rfl⟩, fun b hb => ?_, q⟩
    have e : b = s1.heap.objs.size := by simpa using hb
    subst e
    exact I1.fpOk (Nat.le_refl _) (I1.hok.fresh (Nat.le_refl _))
  · obtain ⟨its, rv, p, hz⟩ := I1.tuple hq
    refine wpAny_pyIter_tuple (show s1.heap.IsTuple a its.toArray from p) ?_
    refine ⟨s1.heap.objs.size, [s1.heap.objs.size], _, _, H1, rfl, I1.kept (t' := s1.toks) fun b o e => Heap.get?_push_of_some _ e, turn_tuple a _, ⟨_, Heap.get?_push_size _ rfl, rfl, rfl⟩, fun b hb => ?_, q⟩
    have e : b = s1.heap.objs.size := by simpa using hb
    subst e
    exact I1.fpOk (Nat.le_refl _) (I1.hok.fresh (Nat.le_refl _))
/-- a walk over things that stand for as -/
structure Src (K : Fg) (mg : MG) (J : It) (as : List α) where
  src : Hp → Prop
  mono : ∀ {H H' : Hp}, Same H H' → src H → src H'
  Y : Nat → Hp → V → Hp → Prop
  walk : Walk J as.length src Y
  ylds : ∀ i H x H', Y i H x H' → Same H H' ∧ ∀ Av : List Addr, (∀ a ∈ Av, H a ≠ none) → src (less H Av) → ∀ a, as[i]? = some a → Rep.rep K mg (less H' Av) x a
def tI (b : Bool) (F : Fr) (L : List (Option Asr)) (O : List Own) (m : Res (List α)) : TI := fun σ H R =>
  G F L O σ H ∧ Out F m (fun as => ∀ J H' (S : Src F.K F.mg J as), G F L O σ H' → Same H H' → S.src (rgn b F O H') → R J H') (XP F L O σ H)
theorem pi_imp {tg e : Expr} {t t' : TI} (h : PI X tg e t) (i : ∀ σ H Q, t' σ H Q → t σ H Q) : PI X tg e t' := ⟨fun pins s σ H Q I q => h.run pins s σ H Q I (i σ H Q q)⟩
def srcL {K : Fg} {mg : MG} {a : Addr} {vs : List V} {as : List α} (hl : vs.length = as.length) : Src K mg (Itl K a) as where
  src H := SqL K H a vs ∧ Reps K mg H vs as
  mono e h := ⟨e.seq h.1, h.2.mono e⟩
  Y := YAt vs
  walk := by rw [← hl]; exact (walk_list (K := K) (a := a) (xs := vs)).mono (fun H h => h.1) (fun i H x H' _ _ y => y)
  ylds i H x H' y := by
    obtain ⟨rfl, y⟩ := y
    refine ⟨Same.refl _, fun Av _ h a ha => ?_⟩
    obtain ⟨v, h1, h2⟩ := reps_get h.2 ha
    rw [y] at h1
    cases h1
    exact h2
def srcT {K : Fg} {mg : MG} {a : Addr} {vs : List V} {as : List α} (hl : vs.length = as.length) : Src K mg (Itt K a) as where
  src H := SqT K H a vs ∧ Reps K mg H vs as
  mono e h := ⟨same_t e h.1, h.2.mono e⟩
  Y := YAt vs
  walk := by rw [← hl]; exact (walk_tup (K := K) (a := a) (xs := vs)).mono (fun H h => h.1) (fun i H x H' _ _ y => y)
  ylds i H x H' y := by
    obtain ⟨rfl, y⟩ := y
    refine ⟨Same.refl _, fun Av _ h a ha => ?_⟩
    obtain ⟨v, h1, h2⟩ := reps_get h.2 ha
    rw [y] at h1
    cases h1
    exact h2
theorem i_lk [Lk s α] {tg e : Expr} {b : Bool} {m : Res s} (h : PE X e (tP b F L O m)) (hK : X.K = F.K := by rfl) : PI X tg e (tI b F L O (m.bind fun x => .ok (Lk.its x))) := pi_imp (pi_seq h) fun σ H R ⟨g, q⟩ => by
  rw [out_bind] at q
  refine ⟨g, q.mono (fun x k v H1 g1 s1 r1 => ?_) fun _ z => z⟩
  obtain ⟨p, vs, h1, h2, h3⟩ := Lk.get r1
  refine ⟨p, vs, h1, ?_⟩
  rw [hK]
  rcases h2 with h2 | h2
  · exact .inl ⟨rgn_sub.seq h2, k _ H1 (srcL h3.length) g1 s1 ⟨h2, h3⟩⟩
  · exact .inr ⟨same_t rgn_sub h2, k _ H1 (srcT h3.length) g1 s1 ⟨h2, h3⟩⟩
def irange (lo hi : Int) : List Int := (List.range (hi - lo).toNat).map fun i : Nat => lo + i
theorem irange_len (lo hi : Int) : (irange lo hi).length = (hi - lo).toNat := by unfold irange; simp
def srcR {K : Fg} {mg : MG} {lo hi : Int} : Src K mg (Itr lo (hi - lo).toNat) (irange lo hi) where
  src H := True
  mono e h := h
  Y := YFn fun i => .int (lo + i)
  walk := by rw [irange_len]; exact walk_range
  ylds i H x H' y := by
    obtain ⟨rfl, y⟩ := y
    refine ⟨Same.refl _, fun Av _ h a ha => ?_⟩
    subst y
    unfold irange at ha
    rw [List.getElem?_map] at ha
    cases e : (List.range (hi - lo).toNat)[i]? with
    | none => rw [e] at ha; cases ha
    | some j =>
      rw [e] at ha
      have : j = i := by
        have := List.getElem?_eq_some_iff.mp e
        obtain ⟨h1, h2⟩ := this
        rw [List.getElem_range] at h2
        exact h2.symm
      subst this
      cases ha
      rfl
theorem i_range1 {tg e : Expr} {b b' : Bool} {m : Res Int} {p pos : Pos} (h : PE X e (tP b F L O m)) (hm : X.mg "range" = none) (hg : Gl X "range" := by rfl) (h1 : starEach [e] X.env = (false, eval e X.env) :: starEach [] X.env := by rfl) (hs : starEach [e] X.env = [(false, eval e X.env)] := by rfl) :
    PI X tg (.Call (.Name "range" p) [e] [] pos) (tI b' F L O (m.bind fun n => need (Rg62 n) (.ok (irange 0 n)))) := pi_imp (pi_range1 hg hm (pa_cons h pa_nil h1) hs) fun σ H R ⟨g, q⟩ => by
  rw [out_bind] at q
  refine ⟨g, q.mono (fun n k v H1 g1 s1 r1 => ?_) fun _ z => z⟩
  rw [out_need] at k
  cases r1
  refine ⟨n, rfl, k.1.1, k.1.2, ?_⟩
  have S : Src F.K F.mg (Itr 0 (n - 0).toNat) (irange 0 n) := srcR
  have e : (n - 0).toNat = n.toNat := by rw [Int.sub_zero]
  have kk := k.2 (Itr 0 (n - 0).toNat) H1 srcR g1 s1 trivial
  rw [e] at kk
  exact kk
theorem i_range2 {tg e e2 : Expr} {b b1 b' : Bool} {m m2 : Res Int} {p pos : Pos} (h : PE X e (tP b F L O m)) (h2 : PE X e2 (tP b1 F L O m2)) (hm : X.mg "range" = none) (hg : Gl X "range" := by rfl)
    (hs1 : starEach [e, e2] X.env = (false, eval e X.env) :: starEach [e2] X.env := by rfl) (hs2 : starEach [e2] X.env = (false, eval e2 X.env) :: starEach [] X.env := by rfl) (hs : starEach [e, e2] X.env = [(false, eval e X.env), (false, eval e2 X.env)] := by rfl) (hs3 : starEach [e2] X.env = [(false, eval e2 X.env)] := by rfl) :
    PI X tg (.Call (.Name "range" p) [e, e2] [] pos) (tI b' F L O (m.bind fun lo => m2.bind fun hi => need (Rg62 lo ∧ Rg62 hi) (.ok (irange lo hi)))) := pi_imp (pi_range2 hg hm (pa_cons h (pa_cons h2 pa_nil hs2) hs1) hs hs3) fun σ H R ⟨g, q⟩ => by
  rw [out_bind] at q
  refine ⟨g, q.mono (fun n k v H1 g1 s1 r1 => ?_) fun _ z => z⟩
  rw [out_bind] at k
  refine ⟨g1, k.mono (fun n2 k v H2 g2 s2 r2 => ?_) fun H' ⟨a, b⟩ => ⟨a, s1.trans b⟩⟩
  rw [out_need] at k
  cases r1
  cases r2
  exact ⟨n, n2, rfl, ⟨k.1.1.1, k.1.1.2, k.1.2.1, k.1.2.2⟩, k.2 _ H2 srcR g2 (s1.trans s2) trivial⟩
/-! ### targets -/
theorem wipe_get (σ : L2.St) : ∀ (vs : List Nat) (k : Nat), (wipe σ vs)[k]? = if k ∈ vs then σ[k]?.map (fun _ => none) else σ[k]?
  | [], k => by simp [wipe]
  | v :: vs, k => by
    show ((wipe σ vs).set v none)[k]? = _
    rw [List.getElem?_set]
    by_cases h : v = k
    · subst h
      rw [if_pos rfl, if_pos List.mem_cons_self]
      have hl : (wipe σ vs).length = σ.length := wipe_length σ vs
      by_cases h2 : v < σ.length
      · rw [if_pos (by rw [hl]; exact h2)]
        simp [h2]
      · rw [if_neg (by rw [hl]; exact h2)]
        simp [h2]
    · rw [if_neg h, wipe_get σ vs k]
      by_cases h2 : k ∈ vs
      · rw [if_pos h2, if_pos (List.mem_cons_of_mem _ h2)]
      · rw [if_neg h2, if_neg (fun z => (List.mem_cons.mp z).elim (fun z => h z.symm) h2)]
theorem wipe_wipe (σ : L2.St) (vs : List Nat) : wipe (wipe σ vs) vs = wipe σ vs := by
  apply List.ext_getElem?
  intro k
  rw [wipe_get, wipe_get]
  by_cases h : k ∈ vs
  · rw [if_pos h, if_pos h]
    cases σ[k]? <;> rfl
  · rw [if_neg h, if_neg h]
def wipeL (L : List (Option Asr)) : List Nat → List (Option Asr)
  | [] => L
  | v :: vs => (wipeL L vs).set v none
theorem set_none {R : Hp} {o : Option V} : ∀ {l : List (Option Asr)} {σ : L2.St} (i : Nat), Paired (SlotOk R) l σ → Paired (SlotOk R) (l.set i none) (σ.set i o)
  | _, _, _, .nil => .nil
  | _, _, 0, .cons _ t => .cons trivial t
  | _, _, n + 1, .cons q t => .cons q (set_none n t)
theorem wipe_ok {R : Hp} {L : List (Option Asr)} {σ : L2.St} (h : Paired (SlotOk R) L σ) : ∀ vs : List Nat, Paired (SlotOk R) (wipeL L vs) (wipe σ vs)
  | [] => h
  | v :: vs => set_none v (wipe_ok h vs)
def TgOk (K : Fg) (mg : MG) (g : TG) (vs : List Nat) (bd : α → List (Option Asr) → List (Option Asr)) : Prop :=
  ∀ v a σ H R L Q, Same R H → Rep.rep K mg R v a → Paired (SlotOk R) L σ → (∀ σ', wipe σ' vs = wipe σ vs → Paired (SlotOk R) (bd a L) σ' → Q σ' H) → g v σ H Q
structure Tg (X : Cx) (K : Fg) (mg : MG) (tg : Expr) (g : TG) (vs : List Nat) (bd : α → List (Option Asr) → List (Option Asr)) : Prop where
  pg : PG X tg g
  ok : TgOk K mg g vs bd
variable {K : Fg} {mg : MG}
theorem tgok_name (i : Nat) : TgOk K mg (gName i) [i] (fun (a : α) L => L.set i (vl K mg a)) := fun v a σ H R L Q _ r h k => k _ (by show (σ.set i (some v)).set i none = σ.set i none; rw [List.set_set]) (set_ok (p := vl K mg a) r i h)
theorem tgok_pair (i j : Nat) (hij : i ≠ j) : TgOk K mg (gTup K 2 (gCons (gName i) (gCons (gName j) gNil))) [i, j] (fun (a : α × β) L => (L.set i (vl K mg a.1)).set j (vl K mg a.2)) := fun v a σ H R L Q e r h k => by
  obtain ⟨p, v1, v2, rfl, h2, h3, h4⟩ := r
  refine ⟨p, _, rfl, same_t e h2, rfl, v1, _, rfl, v2, _, rfl, rfl, ?_⟩
  refine k _ ?_ (set_ok (p := vl K mg a.2) h4 j (set_ok (p := vl K mg a.1) h3 i h))
  show ((((σ.set i (some v1)).set j (some v2)).set j none).set i none) = (σ.set j none).set i none
  rw [List.set_set, List.set_comm _ _ hij, List.set_set]
theorem tg_name (i : Nat) {x : Str} {pos : Pos} (hN : X.N.Nodup) (hi : X.N[i]? = some x := by rfl) (hx : L2.Loc X.env.scope x := by first | exact .inl rfl | exact .inr rfl) (hf : X.fn x = true ∨ X.env.scope.names.lookup x = some .local := by first | exact .inl rfl | exact .inr rfl) :
    Tg X K mg (.Name x pos) (gName i) [i] (fun (a : α) L => L.set i (vl K mg a)) := ⟨pg_name hN hi hx hf, tgok_name i⟩
theorem tg_pair (i j : Nat) {x y : Str} {p1 p2 pos : Pos} {kk : Nat} (hij : i ≠ j) (hc : X.calm = true) (hN : X.N.Nodup) (hi : X.N[i]? = some x := by rfl) (hj : X.N[j]? = some y := by rfl) (hx : L2.Loc X.env.scope x := by first | exact .inl rfl | exact .inr rfl) (hy : L2.Loc X.env.scope y := by first | exact .inl rfl | exact .inr rfl)
    (hf : X.fn x = true ∨ X.env.scope.names.lookup x = some .local := by first | exact .inl rfl | exact .inr rfl) (hf2 : X.fn y = true ∨ X.env.scope.names.lookup y = some .local := by first | exact .inl rfl | exact .inr rfl) (hK : X.K = K := by rfl)
    (h1 : (assignEach [.Name x p1, .Name y p2] X.env).map (·.2) = assign (.Name x p1) X.env :: (assignEach [.Name y p2] X.env).map (·.2) := by rfl) (h2 : (assignEach [.Name y p2] X.env).map (·.2) = assign (.Name y p2) X.env :: (assignEach [] X.env).map (·.2) := by rfl)
    (hn : (assignEach [.Name x p1, .Name y p2] X.env).length = 2 := by rfl) (hst : (assignEach [.Name x p1, .Name y p2] X.env).findIdx? (·.1) = none := by rfl) :
    Tg X K mg (.Tuple [.Name x p1, .Name y p2] kk pos) (gTup K 2 (gCons (gName i) (gCons (gName j) gNil))) [i, j] (fun (a : α × β) L => (L.set i (vl K mg a.1)).set j (vl K mg a.2)) :=
  ⟨by rw [← hK]; exact pg_tup hc (pgs_cons (pg_name hN hi hx hf) (pgs_cons (pg_name hN hj hy hf2) pgs_nil h2) h1) hn hst, tgok_pair i j hij⟩
/-! ### loops -/
def foldR {β : Type} (f : α → β → Res β) : List α → β → Res β
  | [], b => .ok b
  | a :: as, b => (f a b).bind fun b => foldR f as b
def foldM {β δ : Type} (f : α → β → Res (Sum β δ)) : List α → β → Res (Sum β δ)
  | [], b => .ok (.inl b)
  | a :: as, b => (f a b).bind fun r => match r with
    | .inl b => foldM f as b
    | .inr d => .ok (.inr d)
/-- what a loop hands on, said ahead -/
inductive Sp3 {B : Type} (L' : B → List (Option Asr)) (O' : B → List Own) (b0 : B) : Prop where | mk
inductive Sp2 {B : Type} (L' : B → List (Option Asr)) (O' : B → List Own) : Prop where | mk
inductive Sp1 (i : Nat) : Prop where | mk
def Fr.add (F : Fr) (z : Fact) : Fr := { F with Z := z :: F.Z }
theorem GO.add {H : Hp} (g : GO F O H) (z : Fact) (h : z.P (rg F O H)) : GO (F.add z) O H := ⟨g.objs, g.nd, g.own, g.keep, g.live, g.hid, g.apart, fun y hy => by
  rcases List.mem_cons.mp hy with rfl | hy
  · exact h
  · exact g.facts y hy⟩
theorem GO.unadd {H : Hp} {z : Fact} (g : GO (F.add z) O H) : GO F O H := ⟨g.objs, g.nd, g.own, g.keep, g.live, g.hid, g.apart, fun y hy => g.facts y (List.mem_cons_of_mem _ hy)⟩
theorem GO.fact {H : Hp} {z : Fact} (g : GO (F.add z) O H) : z.P (rg F O H) := g.facts z List.mem_cons_self
theorem out_add {β : Type} {z : Fact} {m : Res β} {k : β → Prop} {xp : Hp → Prop} : Out (F.add z) m k xp ↔ Out F m k xp := by cases m <;> exact Iff.rfl
theorem s_for {B : Type} {tg iter : Expr} {g : TG} {vs : List Nat} {bd : α → List (Option Asr) → List (Option Asr)} {m : Res (List α)} {f : α → B → Res B} {body : List Stmt} {pos : Pos} {L' : B → List (Option Asr)} {O' : B → List Own} {b0 : B} (sp : Sp3 L' O' b0)
    (hp : PassesOwn (model X.prog X.w) X.A X.env X.xe) (hc : X.calm = true) (hi : PI X tg iter (tI true F L O m)) (ht : Tg X F.K F.mg tg g vs bd) (hO : List.Sublist F.O0 O) (hw : wk L (L' b0)) (ho : List.Sublist (O' b0) O)
    (hb : ∀ z a b, PSs X body (tN (F.add z) (bd a (L' b)) (O' b) (f a b) L' O')) (hs : ∀ x, foldedSetIterable iter X.env x = pure x := by intro _; rfl) : PS X (.For tg iter body [] pos) (tN F L O (m.bind fun as => foldR f as b0) L' O') := by
  have hb' : PSs X body (fun D σ H => ∃ z a b, tN (F.add z) (bd a (L' b)) (O' b) (f a b) L' O' D σ H) := pss_ex fun z => pss_ex fun a => pss_ex fun b => hb z a b
  have hg : PG X tg g := ht.pg
  refine ps_imp (ps_for hp hc hi hg hb' hs) fun D σ H ⟨g0, q⟩ => ?_
  rw [out_bind] at q
  refine ⟨g0, q.mono (fun as k J H1 S g1 s1 hS => ?_) fun H' ⟨a, _⟩ => a.go.sub hO⟩
  have zf : ∃ z : Fact, z = ⟨S.src, fun e h => S.mono e h⟩ := ⟨_, rfl⟩
  obtain ⟨z, hz⟩ := zf
  refine for_it S.walk (g := g) (tb := fun D σ H => ∃ z a b, tN (F.add z) (bd a (L' b)) (O' b) (f a b) L' O' D σ H) (D := D) (σ := σ) (H := H1) (fun i σ H => ∃ b, G (F.add z) (L' b) (O' b) σ H ∧ Out F (foldR f (as.drop i) b) (fun b => ∀ σ' H', G F (L' b) (O' b) σ' H' → D.nx σ' H') (XPS F)) ⟨b0, ?_, k⟩ ?_ ?_ ?_
  · have g2 := g1.to hw ho
    refine ⟨g2.slots, g2.go.add z ?_⟩
    subst hz
    exact S.mono (rg_sub ho) hS
  · rintro i σ H _ ⟨b, g2, _⟩
    have h := g2.go.fact
    subst hz
    exact S.mono less_same h
  · rintro i x σ H H' hi ⟨b, g2, q2⟩ y
    have ha : as[i]? = some as[i] := List.getElem?_eq_getElem hi
    rw [List.drop_eq_getElem_cons hi] at q2
    rw [show foldR f (as[i] :: List.drop (i + 1) as) b = (f as[i] b).bind fun b => foldR f (List.drop (i + 1) as) b from rfl, out_bind] at q2
    obtain ⟨s2, yy⟩ := S.ylds i H x H' y
    have hsrc : S.src (rg F (O' b) H) := by
      have h := g2.go.fact
      subst hz
      exact h
    have r2 : rp (F.add z) (rg F (O' b) H') x as[i] := yy _ (fun a ha z => g2.go.out z ha) hsrc _ ha
    have g3 := g2.grow s2
    refine ht.ok x as[i] σ H' (rg F (O' b) H') (L' b) _ less_same r2 g3.slots fun σ2 _ hs2 => ?_
    exact ⟨z, as[i], b, ⟨hs2, g3.go⟩, out_add.mpr (q2.mono (fun b' kb σ' H'' g' => ⟨b', g', kb⟩) fun H'' (x : GO (F.add z) F.O0 H'') => x.unadd)⟩
  · rintro σ H ⟨b, g2, q2⟩
    rw [List.drop_length] at q2
    exact q2 σ H ⟨g2.slots, g2.go.unadd⟩
theorem s_forM {B D' : Type} {tg iter : Expr} {g : TG} {vs : List Nat} {bd : α → List (Option Asr) → List (Option Asr)} {m : Res (List α)} {f : α → B → Res (Sum B D')} {body : List Stmt} {pos : Pos} {Ret : D' → V → Hp → Prop} {L' : B → List (Option Asr)} {O' : B → List Own} {b0 : B} (sp : Sp3 L' O' b0)
    (hp : PassesOwn (model X.prog X.w) X.A X.env X.xe) (hc : X.calm = true) (hi : PI X tg iter (tI true F L O m)) (ht : Tg X F.K F.mg tg g vs bd) (hO : List.Sublist F.O0 O) (hw : wk L (L' b0)) (ho : List.Sublist (O' b0) O)
    (hb : ∀ z a b, PSs X body (tM (F.add z) (bd a (L' b)) (O' b) (f a b) L' O' Ret)) (hs : ∀ x, foldedSetIterable iter X.env x = pure x := by intro _; rfl) : PS X (.For tg iter body [] pos) (tM F L O (m.bind fun as => foldM f as b0) L' O' Ret) := by
  have hb' : PSs X body (fun D σ H => ∃ z a b, tM (F.add z) (bd a (L' b)) (O' b) (f a b) L' O' Ret D σ H) := pss_ex fun z => pss_ex fun a => pss_ex fun b => hb z a b
  have hg : PG X tg g := ht.pg
  refine ps_imp (ps_for hp hc hi hg hb' hs) fun D σ H ⟨g0, q⟩ => ?_
  rw [out_bind] at q
  refine ⟨g0, q.mono (fun as k J H1 S g1 s1 hS => ?_) fun H' ⟨a, _⟩ => a.go.sub hO⟩
  have zf : ∃ z : Fact, z = ⟨S.src, fun e h => S.mono e h⟩ := ⟨_, rfl⟩
  obtain ⟨z, hz⟩ := zf
  refine for_it S.walk (g := g) (tb := fun D σ H => ∃ z a b, tM (F.add z) (bd a (L' b)) (O' b) (f a b) L' O' Ret D σ H) (D := D) (σ := σ) (H := H1) (fun i σ H => ∃ b, G (F.add z) (L' b) (O' b) σ H ∧ Out F (foldM f (as.drop i) b) (fun r => match r with
    | .inl b => ∀ σ' H', G F (L' b) (O' b) σ' H' → D.nx σ' H'
    | .inr d => ∀ v H', Ret d v H' → D.rt v H') (XPS F)) ⟨b0, ?_, k⟩ ?_ ?_ ?_
  · have g2 := g1.to hw ho
    refine ⟨g2.slots, g2.go.add z ?_⟩
    subst hz
    exact S.mono (rg_sub ho) hS
  · rintro i σ H _ ⟨b, g2, _⟩
    have h := g2.go.fact
    subst hz
    exact S.mono less_same h
  · rintro i x σ H H' hi ⟨b, g2, q2⟩ y
    have ha : as[i]? = some as[i] := List.getElem?_eq_getElem hi
    rw [List.drop_eq_getElem_cons hi] at q2
    rw [show foldM f (as[i] :: List.drop (i + 1) as) b = (f as[i] b).bind fun r => match r with
      | .inl b => foldM f (List.drop (i + 1) as) b
      | .inr d => .ok (.inr d) from rfl, out_bind] at q2
    obtain ⟨s2, yy⟩ := S.ylds i H x H' y
    have hsrc : S.src (rg F (O' b) H) := by
      have h := g2.go.fact
      subst hz
      exact h
    have r2 : rp (F.add z) (rg F (O' b) H') x as[i] := yy _ (fun a ha z => g2.go.out z ha) hsrc _ ha
    have g3 := g2.grow s2
    refine ht.ok x as[i] σ H' (rg F (O' b) H') (L' b) _ less_same r2 g3.slots fun σ2 _ hs2 => ?_
    refine ⟨z, as[i], b, ⟨hs2, g3.go⟩, out_add.mpr (q2.mono (fun r kb => ?_) fun H'' (x : GO (F.add z) F.O0 H'') => x.unadd)⟩
    cases r with
    | inl b' => exact fun σ' H'' g' => ⟨b', g', kb⟩
    | inr d => exact fun v H'' hr => kb v H'' hr
  · rintro σ H ⟨b, g2, q2⟩
    rw [List.drop_length] at q2
    exact q2 σ H ⟨g2.slots, g2.go.unadd⟩
/-- .. and what follows, which hands back -/
def goOn {B D' : Type} (m : Res (Sum B D')) (f : B → Res D') : Res D' := m.bind fun r => match r with
  | .inl b => f b
  | .inr d => .ok d
theorem b_M {B D' : Type} {st : Stmt} {rest : List Stmt} {m1 : Res (Sum B D')} {m2 : B → Res D'} {L' : B → List (Option Asr)} {O' : B → List Own} {Ret : D' → V → Hp → Prop} (h1 : PS X st (tM F L O m1 L' O' Ret)) (h2 : ∀ b, PSs X rest (tT F (L' b) (O' b) (m2 b) Ret)) :
    PSs X (st :: rest) (tT F L O (goOn m1 m2) Ret) := pss_imp (pss_cons h1 (pss_ex h2)) fun D σ H ⟨g, q⟩ => by
  unfold goOn at q
  rw [out_bind] at q
  refine ⟨g, q.mono (fun r k => ?_) fun _ z => z⟩
  cases r with
  | inl b => exact fun σ' H' g' => ⟨b, g', k⟩
  | inr d => exact k
end
end NF

set_option Elab.async false
set_option linter.all false
set_option maxRecDepth 100000
/-! Nf6: comprehensions, zip, enumerate. -/
namespace NF
open PySem PySem.Spec PyProof.Rows L2
open Data (toD)
/-- nothing is raised -/
def Res.quiet {α : Type} : Res α → Res α
  | .ok a => .ok a
  | _ => .bad
def mapR {α β : Type} (f : α → Res β) : List α → Res (List β)
  | [] => .ok []
  | a :: as => (f a).bind fun y => (mapR f as).bind fun ys => .ok (y :: ys)
def filtR {α β : Type} (p : α → Res Bool) (f : α → Res β) : List α → Res (List β)
  | [] => .ok []
  | a :: as => (p a).bind fun c => if c then (f a).bind fun y => (filtR p f as).bind fun ys => .ok (y :: ys) else filtR p f as
theorem filtR_yes {α β : Type} (f : α → Res β) : ∀ as : List α, filtR (fun _ => .ok true) f as = mapR f as
  | [] => rfl
  | a :: as => by
    show ((f a).bind fun y => (filtR (fun _ => .ok true) f as).bind fun ys => .ok (y :: ys)) = _
    rw [filtR_yes f as]
    rfl
section
variable {X : Cx} {F : Fr} {L : List (Option Asr)} {O : List Own} {α β γ s : Type} [Rep α] [Rep β] [Rep γ] [Rep s]
def Fr.nox (F : Fr) : Fr := { F with E := E0 }
theorem GO.nox {H : Hp} (g : GO F O H) : GO F.nox O H := ⟨g.objs, g.nd, g.own, g.keep, g.live, g.hid, g.apart, g.facts⟩
/-- in a comprehension an error is nothing we know -/
theorem out_quiet {δ : Type} {m : Res δ} {k : δ → Prop} {xp xp' : Hp → Prop} (h : Out F m.quiet k xp) : Out F.nox m k xp' := by
  cases m with
  | ok a => exact h
  | err c fs => exact h.elim
  | bad => exact h.elim
def tYes' (F : Fr) (L : List (Option Asr)) (O : List Own) : TT := tB' F L O (.ok true)
theorem pts_imp {ifs : List Expr} {t t' : TT} (h : PTs X ifs t) (i : ∀ σ H Q, t' σ H Q → t σ H Q) : PTs X ifs t' := ⟨fun pins s σ H Q I q => h.run pins s σ H Q I (i σ H Q q)⟩
theorem ts_nil : PTs X [] (tB' F L O (.ok true)) := pts_imp pts_nil fun σ H Q ⟨g, q⟩ => q H g (Same.refl _)
theorem ts_one {c : Expr} {m : Res Bool} (h : PT X c (tB' F L O m)) : PTs X [c] (tB' F L O m) := pts_one h
theorem sz_min {n k : Nat} (h : n + k ≤ sizeLine) (hk : 0 < k) : n < sizeLine := by omega
def FlatP (α : Type) [Rep α] : Prop := ∀ {K : Fg} {mg : MG} {H H' : Hp} {v : V} {a : α}, Rep.rep K mg H v a → Rep.rep K mg H' v a
theorem flatP [Flat α] : FlatP α := fun h => Flat.iff.mpr (Flat.iff.mp h)
theorem comp_core {b : Bool} {g : TG} {vs : List Nat} {bd : α → List (Option Asr) → List (Option Asr)} {m : Res (List α)} {p : α → Res Bool} {f : α → Res β} {wi : TI} (tt : TT) (te : TE)
    (hi : wi = tI b F L O m) (hfl : b = true ∨ FlatP α) (ht : TgOk F.K F.mg g vs bd) (htt : tt = fun σ H Q => ∃ a D ds, tB' F.nox (bd a (wipeL L vs)) (ow (α := β) F.K F.mg D ds :: O) (p a) σ H Q) (hte : te = fun σ H Q => ∃ a D ds, tP true F.nox (bd a (wipeL L vs)) (ow (α := β) F.K F.mg D ds :: O) (f a) σ H Q) (σ : L2.St) (H : Hp) (Q : VK)
    (h : tF true F L O (m.bind fun as => need (as.length ≤ sizeLine) (filtR (fun a => (p a).quiet) (fun a => (f a).quiet) as)) σ H Q) : tLc wi g tt te vs σ H Q := by
  subst hi
  obtain ⟨g0, q⟩ := h
  rw [out_bind] at q
  refine ⟨g0, q.mono (fun as k J H1 S g1 s1 hS => ?_) fun _ z => z⟩
  rw [out_need] at k
  obtain ⟨hsz, k⟩ := k
  intro D hD
  refine lc_it S.walk (g := g) (tt := tt) (te := te) (vs := vs) (σ := σ) (H1 := H1) (D := D) (Qd := fun H => Q (.ref D) H)
    (fun i H => ∃ (ds : List β) (vd : List V), H D = some (.lst vd) ∧ ds.length + (as.length - i) ≤ sizeLine ∧ Reps F.K F.mg (less (rg F O H) [D]) vd ds ∧ Same H1 (less H [D]) ∧ Out F (filtR (fun a => (p a).quiet) (fun a => (f a).quiet) (as.drop i)) (fun rest => KF β true F L O σ H1 Q (ds ++ rest)) (fun _ => False))
    ⟨[], [], upd_same, ?_, .nil, ?_, ?_⟩ ?_ ?_ ?_
  · show 0 + (as.length - 0) ≤ sizeLine
    omega
  · intro a o ha
    have hne : a ≠ D := ne_of_none ha hD
    rw [less_out (fun z => hne (List.mem_singleton.mp z)), upd_ne hne]
    exact ha
  · exact k.mono (fun ds kk => (KF.mono s1 kk)) fun _ z => z.elim
  · rintro i H _ ⟨ds, vd, h1, _, h2, h3, _⟩
    exact S.mono (h3.trans less_same) (S.mono rgn_sub hS)
  · rintro i x H H' hi ⟨ds, vd, h1, hl, h2, h3, q2⟩ y
    have ha : as[i]? = some as[i] := List.getElem?_eq_getElem hi
    have sH : Same H1 H := h3.trans less_same
    have gH : G F L O σ H := g1.grow sH
    have go2 : GO F (ow F.K F.mg D ds :: O) H := go_new g1 gH.go sH hD h1 h2
    obtain ⟨s2, yy⟩ := S.ylds i H x H' y
    have g2 : G F L (ow F.K F.mg D ds :: O) σ H := ⟨L2.Paired.mapP g1.slots fun _ _ z => z.mono (rg_new rfl sH hD), go2⟩
    have g3 : G F L (ow F.K F.mg D ds :: O) σ H' := g2.grow s2
    have rx : rp F (rg F (ow F.K F.mg D ds :: O) H') x as[i] := by
      rcases hfl with e | e
      · subst e
        exact yy _ (fun a ha z => go2.out z ha) (S.mono (rg_new rfl sH hD) hS) _ ha
      · exact e (yy [] (fun _ z => (List.not_mem_nil z).elim) (S.mono (sH.trans (fun a o z => by rw [less_out List.not_mem_nil]; exact z)) (S.mono rgn_sub hS)) _ ha)
    have gn : G F.nox (wipeL L vs) (ow F.K F.mg D ds :: O) (wipe σ vs) H' := ⟨wipe_ok g3.slots vs, g3.go.nox⟩
    refine ht x as[i] (wipe σ vs) H' (rg F (ow F.K F.mg D ds :: O) H') (wipeL L vs) _ less_same rx gn.slots fun σ2 e2 hs2 => ?_
    refine ⟨e2.trans (wipe_wipe σ vs), ?_⟩
    rw [List.drop_eq_getElem_cons hi] at q2
    rw [show filtR (fun a => (p a).quiet) (fun a => (f a).quiet) (as[i] :: List.drop (i + 1) as) = ((p as[i]).quiet).bind fun c => if c then ((f as[i]).quiet).bind fun y => (filtR (fun a => (p a).quiet) (fun a => (f a).quiet) (List.drop (i + 1) as)).bind fun ys => .ok (y :: ys) else filtR (fun a => (p a).quiet) (fun a => (f a).quiet) (List.drop (i + 1) as) from rfl, out_bind] at q2
    have gb : G F.nox (bd as[i] (wipeL L vs)) (ow F.K F.mg D ds :: O) σ2 H' := ⟨hs2, gn.go⟩
    have lss : ∀ {H'' : Hp}, Same H' H'' → Same H1 (less H'' [D]) := fun {H''} e a o z => by
      have z1 := h3 a o z
      by_cases hb : a ∈ [D]
      · rw [less_in hb] at z1; cases z1
      · rw [less_out hb] at z1 ⊢
        exact e _ _ (s2 _ _ z1)
    have regD : ∀ {H'' : Hp} {ds' : List β}, Same (rg F (ow F.K F.mg D ds' :: O) H'') (less (rg F O H'') [D]) := fun {H'' ds'} a o z => by
      unfold rg at z ⊢
      by_cases hb : a ∈ addrs (ow F.K F.mg D ds' :: O) ++ F.A
      · rw [less_in hb] at z; cases z
      · rw [less_out hb] at z
        rw [less_out (fun y => hb (by rw [List.mem_singleton.mp y]; exact List.mem_append_left _ List.mem_cons_self)), less_out (A := addrs O ++ F.A) (fun y => hb (List.mem_cons_of_mem _ y))]
        exact z
    have keepR : ∀ {H'' : Hp}, Same H' H'' → Reps F.K F.mg (less (rg F O H'') [D]) vd ds := fun {H''} e => h2.mono (less_mono fun a o _ z => rg_grow (s2.trans e) a o z)
    subst htt hte
    refine ⟨as[i], D, ds, gb, out_quiet (q2.mono (fun c qc H3 g4 s3 => ?_) fun _ z => z)⟩
    cases c with
    | false =>
      refine ⟨ds, vd, ?_, by omega, keepR s3, lss s3, qc⟩
      exact s3 _ _ (s2 _ _ h1)
    | true =>
      simp only [if_true] at qc
      rw [out_bind] at qc
      refine ⟨as[i], D, ds, g4, out_quiet (qc.mono (fun y qy v H4 g5 s4 r5 => ?_) fun _ z => z)⟩
      have s34 : Same H' H4 := s3.trans s4
      have e4 : H4 D = some (.lst vd) := s34 _ _ (s2 _ _ h1)
      have lenv : vd.length = ds.length := h2.length
      refine ⟨vd, e4, by rw [lenv]; omega, ds ++ [y], vd ++ [v], upd_same, ?_, ?_, ?_, ?_⟩
      · rw [List.length_append, List.length_singleton]; omega
      · have eqr : ∀ {a o}, less (rg F O H4) [D] a = some o → less (rg F O (upd H4 D (.lst (vd ++ [v])))) [D] a = some o := fun {a o} z => by
          by_cases hb : a ∈ [D]
          · rw [less_in hb] at z; cases z
          · have hne : a ≠ D := fun y => hb (List.mem_singleton.mpr y)
            rw [less_out hb] at z ⊢
            unfold rg at z ⊢
            by_cases hc : a ∈ addrs O ++ F.A
            · rw [less_in hc] at z; cases z
            · rw [less_out hc] at z ⊢
              rw [upd_ne hne]
              exact z
        exact (reps_append (keepR s34) (.cons (Rep.mono regD r5) .nil)).mono fun a o z => eqr z
      · intro a o z
        have z1 := lss s34 a o z
        by_cases hb : a ∈ [D]
        · rw [less_in hb] at z1; cases z1
        · rw [less_out hb] at z1 ⊢
          rw [upd_ne (fun y => hb (List.mem_singleton.mpr y))]
          exact z1
      · rw [out_bind] at qy
        exact qy.mono (fun ys kk => by rw [List.append_assoc]; exact kk) fun _ z => z
  · rintro H ⟨ds, vd, h1, hl, h2, h3, q2⟩
    rw [List.drop_length] at q2
    have q3 : KF β true F L O σ H1 Q (ds ++ []) := q2
    rw [List.append_nil] at q3
    exact q3 D vd H (g1.grow (h3.trans less_same)) (h3.trans less_same) hD h1 h2
theorem pts_ex {ι : Type} {ifs : List Expr} {t : ι → TT} (h : ∀ b, PTs X ifs (t b)) : PTs X ifs (fun σ H Q => ∃ b, t b σ H Q) := ⟨fun pins s σ H Q I ⟨b, q⟩ => (h b).run pins s σ H Q I q⟩
theorem pe_ex {ι : Type} {e : Expr} {t : ι → TE} (h : ∀ b, PE X e (t b)) : PE X e (fun σ H Q => ∃ b, t b σ H Q) := ⟨fun pins s σ H Q I ⟨b, q⟩ => (h b).run pins s σ H Q I q⟩
/-- [elt for tg in iter if ..] -/
theorem f_lcf {tg iter elt : Expr} {ifs : List Expr} {scope : Scope} {own : List (Str × Nat)} {pos : Pos} {b : Bool} {g : TG} {bd : α → List (Option Asr) → List (Option Asr)} {m : Res (List α)} {p : α → Res Bool} {f : α → Res β}
    (hc : X.calm = true) (hN : X.N.Nodup) (hi : PI X tg iter (tI b F L O m)) (hfl : b = true ∨ FlatP α) (hb : BlkOk X.N X.env.scope scope own)
    (hok : TgOk F.K F.mg g (own.map (·.2)) bd) (ht : ∀ (s : Shared) (H : Hp) (C : Addr) (cl : List (Str × Addr)) (fp : List Addr), Tg (X.blk s H scope (compEnvC scope cl C X.env) fp) F.K F.mg tg g (own.map (·.2)) bd)
    (hp : ∀ (s : Shared) (H : Hp) (C : Addr) (cl : List (Str × Addr)) (fp : List Addr) (a : α) (D : Addr) (ds : List β), PTs (X.blk s H scope (compEnvC scope cl C X.env) fp) ifs (tB' F.nox (bd a (wipeL L (own.map (·.2)))) (ow F.K F.mg D ds :: O) (p a)))
    (he : ∀ (s : Shared) (H : Hp) (C : Addr) (cl : List (Str × Addr)) (fp : List Addr) (a : α) (D : Addr) (ds : List β), PE (X.blk s H scope (compEnvC scope cl C X.env) fp) elt (tP true F.nox (bd a (wipeL L (own.map (·.2)))) (ow F.K F.mg D ds :: O) (f a)))
    (hf : ∀ x, foldedSetIterable iter X.env x = pure x := by intro _; rfl) :
    PE X (.ListComp elt [{ target := tg, iter := iter, ifs := ifs, is_async := 0 }] scope pos) (tF true F L O (m.bind fun as => need (as.length ≤ sizeLine) (filtR (fun a => (p a).quiet) (fun a => (f a).quiet) as))) := by
  refine pe_imp (pe_lc hc hN hi hb (fun s H C cl fp => (ht s H C cl fp).pg) (fun s H C cl fp => pts_ex fun a => pts_ex fun D => pts_ex fun ds => hp s H C cl fp a D ds) (fun s H C cl fp => pe_ex fun a => pe_ex fun D => pe_ex fun ds => he s H C cl fp a D ds) hf) fun σ H Q h => ?_
  exact comp_core _ _ rfl hfl hok rfl rfl σ H Q h
end
end NF

set_option Elab.async false
set_option linter.all false
set_option maxRecDepth 100000
/-! Nf7: zip, enumerate; expressions that change an owned list; defs that do. -/
namespace NF
open PySem PySem.Spec PyProof.Rows L2
open Data (toD)
section
variable {X : Cx} {F : Fr} {L : List (Option Asr)} {O : List Own} {α β γ s : Type} [Rep α] [Rep β] [Rep γ] [Rep s]
theorem less_upd {H : Hp} {Av : List Addr} {T : Addr} {o : HO} (hA : ∀ a ∈ Av, H a ≠ none) (hT : H T = none) : less (upd H T o) Av T = some o := by
  rw [less_out (fun z => hA T z hT), upd_same]
theorem less_upd_same {H : Hp} {Av : List Addr} {T : Addr} {o : HO} (hT : H T = none) : Same (less H Av) (less (upd H T o) Av) := less_mono fun b q _ h => same_upd hT b q h
def srcZ {K : Fg} {mg : MG} {a b : Addr} {vs ws : List V} {xs : List α} {ys : List β} (h1 : vs.length = xs.length) (h2 : ws.length = ys.length) : Src K mg (Itz K a b) (xs.zip ys) where
  src H := (SqL K H a vs ∧ Reps K mg H vs xs) ∧ (SqL K H b ws ∧ Reps K mg H ws ys)
  mono e h := ⟨⟨e.seq h.1.1, h.1.2.mono e⟩, ⟨e.seq h.2.1, h.2.2.mono e⟩⟩
  Y := YPair (fun i => vs[i]?) (fun i => ws[i]?)
  walk := (walk_zip (n := (xs.zip ys).length) (by rw [List.length_zip, h1, h2])).mono (fun H h => ⟨h.1.1, h.2.1⟩) (fun i H x H' _ _ y => y)
  ylds i H x H' y := by
    obtain ⟨T, v1, v2, rfl, hT, rfl, e1, e2⟩ := y
    refine ⟨same_upd hT, fun Av hA h p hp => ?_⟩
    rw [List.getElem?_zip_eq_some] at hp
    obtain ⟨v, a1, a2⟩ := reps_get h.1.2 hp.1
    obtain ⟨w, b1, b2⟩ := reps_get h.2.2 hp.2
    rw [show vs[i]? = some v1 from e1] at a1
    rw [show ws[i]? = some v2 from e2] at b1
    cases a1
    cases b1
    exact ⟨T, v1, v2, rfl, .of (less_upd hA hT), Rep.mono (less_upd_same hT) a2, Rep.mono (less_upd_same hT) b2⟩
def enumF (n : Nat) : List α → List (Int × α)
  | [] => []
  | x :: xs => ((n : Int), x) :: enumF (n + 1) xs
theorem enumF_len : ∀ (n : Nat) (xs : List α), (enumF n xs).length = xs.length
  | _, [] => rfl
  | n, _ :: xs => by show (enumF (n + 1) xs).length + 1 = xs.length + 1; rw [enumF_len]
theorem enumF_get : ∀ (n : Nat) (xs : List α) (i : Nat), (enumF n xs)[i]? = xs[i]?.map fun x => (((n + i : Nat) : Int), x)
  | _, [], i => by simp [enumF]
  | n, x :: xs, 0 => by simp [enumF]
  | n, x :: xs, i + 1 => by
    show (enumF (n + 1) xs)[i]? = _
    rw [enumF_get (n + 1) xs i, show (x :: xs)[i + 1]? = xs[i]? from rfl, show n + 1 + i = n + (i + 1) by omega]
def srcE {K : Fg} {mg : MG} {a : Addr} {vs : List V} {xs : List α} (h1 : vs.length = xs.length) : Src K mg (Ite K a) (enumF 0 xs) where
  src H := SqL K H a vs ∧ Reps K mg H vs xs
  mono e h := ⟨e.seq h.1, h.2.mono e⟩
  Y := YPair (fun i => some (.int (i : Nat))) (fun i => vs[i]?)
  walk := by rw [enumF_len, ← h1]; exact walk_enum.mono (fun H h => h.1) (fun i H x H' _ _ y => y)
  ylds i H x H' y := by
    obtain ⟨T, v1, v2, rfl, hT, rfl, e1, e2⟩ := y
    refine ⟨same_upd hT, fun Av hA h p hp => ?_⟩
    rw [enumF_get] at hp
    cases e : xs[i]? with
    | none => rw [e] at hp; cases hp
    | some x =>
      rw [e] at hp
      cases hp
      obtain ⟨v, a1, a2⟩ := reps_get h.2 e
      rw [show vs[i]? = some v2 from e2] at a1
      cases a1
      cases e1
      refine ⟨T, _, v2, rfl, .of (less_upd hA hT), ?_, Rep.mono (less_upd_same hT) a2⟩
      show V.int (i : Nat) = V.int (((0 + i : Nat) : Int))
      rw [Nat.zero_add]
theorem i_zip {elts : List Expr} {kk : Nat} {tpos : Pos} {e e2 : Expr} {b : Bool} {m : Res (List α)} {m2 : Res (List β)} {p pos : Pos} (h : PE X e (tP b F L O m)) (h2 : PE X e2 (tP b F L O m2)) (hm : X.mg "zip" = none) (hg : Gl X "zip" := by rfl) (hK : X.K = F.K := by rfl)
    (hs1 : starEach [e, e2] X.env = (false, eval e X.env) :: starEach [e2] X.env := by rfl) (hs2 : starEach [e2] X.env = (false, eval e2 X.env) :: starEach [] X.env := by rfl) (hs3 : ((backTo pos (starEach [e2] X.env)).any fun x => x.fst) = false := by rfl) :
    PI X (.Tuple elts kk tpos) (.Call (.Name "zip" p) [e, e2] [] pos) (tI b F L O (m.bind fun xs => m2.bind fun ys => .ok (xs.zip ys))) := pi_imp (pi_zip hg hm (pa_cons h (pa_cons h2 pa_nil hs2) hs1) hs1 hs3) fun σ H R ⟨g, q⟩ => by
  rw [out_bind] at q
  refine ⟨g, q.mono (fun xs k v H1 g1 s1 r1 => ?_) fun _ z => z⟩
  rw [out_bind] at k
  refine ⟨g1, k.mono (fun ys k v H2 g2 s2 r2 => ?_) fun H' ⟨a, b⟩ => ⟨a, s1.trans b⟩⟩
  obtain ⟨a, vs, rfl, h3, h4⟩ := r1
  obtain ⟨c, ws, rfl, h5, h6⟩ := r2
  rw [hK]
  have h3' := rgn_grow s2 _ _ h3
  exact ⟨a, c, vs, ws, rfl, .of (rgn_sub _ _ h3'), .of (rgn_sub _ _ h5), k _ H2 (srcZ h4.length h6.length) g2 (s1.trans s2) ⟨⟨.of h3', h4.mono (rgn_grow s2)⟩, ⟨.of h5, h6⟩⟩⟩
theorem i_enum {elts : List Expr} {kk : Nat} {tpos : Pos} {e : Expr} {b : Bool} {m : Res (List α)} {p pos : Pos} (h : PE X e (tP b F L O m)) (hm : X.mg "enumerate" = none) (hg : Gl X "enumerate" := by rfl) (hK : X.K = F.K := by rfl)
    (hs1 : starEach [e] X.env = (false, eval e X.env) :: starEach [] X.env := by rfl) (hs : starEach [e] X.env = [(false, eval e X.env)] := by rfl) :
    PI X (.Tuple elts kk tpos) (.Call (.Name "enumerate" p) [e] [] pos) (tI b F L O (m.bind fun xs => .ok (enumF 0 xs))) := pi_imp (pi_enum hg hm (pa_cons h pa_nil hs1) hs) fun σ H R ⟨g, q⟩ => by
  rw [out_bind] at q
  refine ⟨g, q.mono (fun xs k v H1 g1 s1 r1 => ?_) fun _ z => z⟩
  obtain ⟨a, vs, rfl, h3, h4⟩ := r1
  rw [hK]
  exact ⟨a, vs, rfl, .of (rgn_sub _ _ h3), k _ H1 (srcE h4.length) g1 s1 ⟨.of h3, h4⟩⟩
end
/-! ### what changes the list at p -/
def KeepBut (p : Addr) (H H' : Hp) : Prop := ∀ x o, H x = some o → x ≠ p → H' x = some o
section
variable {X : Cx} {F : Fr} {L : List (Option Asr)} {p : Addr} {O : List Own} {α β γ ι : Type} [Rep α] [Rep β] [Rep γ] [Rep ι]
theorem KeepBut.trans {H H1 H2 : Hp} (a : KeepBut p H H1) (b : KeepBut p H1 H2) : KeepBut p H H2 := fun x o h hx => b x o (a x o h hx) hx
theorem KeepBut.of {H H' : Hp} (e : Same H H') : KeepBut p H H' := fun x o h _ => e x o h
def tE {γ : Type} [Rep γ] (b : Bool) (F : Fr) (L : List (Option Asr)) (p : Addr) (xs : List ι) (O : List Own) (m : Res (γ × List ι)) : TE := fun σ H Q =>
  G F L (ow F.K F.mg p xs :: O) σ H ∧ Out F m (fun r => ∀ v H', G F L (ow F.K F.mg p r.2 :: O) σ H' → KeepBut p H H' → rp F (rgn b F (ow F.K F.mg p r.2 :: O) H') v r.1 → Q v H') (XPS F)
def tEB (F : Fr) (L : List (Option Asr)) (p : Addr) (xs : List ι) (O : List Own) (m : Res (Bool × List ι)) : TT := fun σ H Q =>
  G F L (ow F.K F.mg p xs :: O) σ H ∧ Out F m (fun r => ∀ H', G F L (ow F.K F.mg p r.2 :: O) σ H' → KeepBut p H H' → Q r.1 H') (XPS F)
def tEA {τ : Type} [RepA τ] (b : Bool) (F : Fr) (L : List (Option Asr)) (p : Addr) (xs : List ι) (O : List Own) (m : Res (τ × List ι)) : TA := fun σ H Q =>
  G F L (ow F.K F.mg p xs :: O) σ H ∧ Out F m (fun r => ∀ vs H', G F L (ow F.K F.mg p r.2 :: O) σ H' → KeepBut p H H' → RepA.rep F.K F.mg (rgn b F (ow F.K F.mg p r.2 :: O) H') vs r.1 → Q vs H') (XPS F)
variable {xs : List ι}
theorem e_p {e : Expr} {b : Bool} {m : Res γ} (hO : List.Sublist F.O0 (ow F.K F.mg p xs :: O)) (h : PE X e (tP b F L (ow F.K F.mg p xs :: O) m)) : PE X e (tE b F L p xs O (m.bind fun a => .ok (a, xs))) := pe_imp h fun σ H Q ⟨g, q⟩ => by
  rw [out_bind] at q
  exact ⟨g, q.mono (fun a k v H' g' s r => k v H' g' (.of s) r) fun H' ⟨a, _⟩ => a.go.sub hO⟩
theorem eb_p {e : Expr} {m : Res Bool} (hO : List.Sublist F.O0 (ow F.K F.mg p xs :: O)) (h : PT X e (tB' F L (ow F.K F.mg p xs :: O) m)) : PT X e (tEB F L p xs O (m.bind fun a => .ok (a, xs))) := pt_imp h fun σ H Q ⟨g, q⟩ => by
  rw [out_bind] at q
  exact ⟨g, q.mono (fun a k H' g' s => k H' g' (.of s)) fun H' ⟨a, _⟩ => a.go.sub hO⟩
theorem ne2 [Flat α] [Flat β] {x y e : Expr} {b1 b2 b3 : Bool} {r : R2} {ma : Res (α × List ι)} {mb : List ι → Res (β × List ι)} {mc : α → β → Res γ} (c : ∀ {ta tb : TE}, PE X x ta → PE X y tb → PE X e (tOp r ta tb))
    (hx : PE X x (tE b1 F L p xs O ma)) (hy : ∀ xs', PE X y (tE b2 F L p xs' O (mb xs'))) (hr : ∀ xs' : List ι, RR F L (ow F.K F.mg p xs' :: O) true true b3 r mc) (hO : ∀ xs' : List ι, List.Sublist F.O0 (ow F.K F.mg p xs' :: O)) :
    PE X e (tE b3 F L p xs O (ma.bind fun u => (mb u.2).bind fun w => (mc u.1 w.1).bind fun z => .ok (z, w.2))) := pe_imp (c hx (pe_ex hy)) fun σ H Q ⟨g, q⟩ => by
  rw [out_bind] at q
  refine ⟨g, q.mono (fun u qx v1 H1 g1 s1 r1 => ?_) fun _ z => z⟩
  rw [out_bind] at qx
  refine ⟨u.2, g1, qx.mono (fun w qy v2 H2 g2 s2 r2 => ?_) fun _ z => z⟩
  rw [out_bind] at qy
  exact hr w.2 u.1 w.1 v1 v2 H2 σ Q g2 (Flat.iff.mpr (Flat.iff.mp r1)) (Flat.iff.mpr (Flat.iff.mp r2)) (qy.mono (fun z kz v H' g' s' r' => kz v H' g' ((s1.trans s2).trans (.of s')) r') fun H' ⟨a, b⟩ => a.go.sub (hO _))
theorem ne2t [Flat α] [Flat β] {x y e : Expr} {b1 b2 : Bool} {r : R2} {ma : Res (α × List ι)} {mb : List ι → Res (β × List ι)} {mc : α → β → Res Bool} (c : ∀ {ta tb : TE}, PE X x ta → PE X y tb → PT X e (tTest (tOp r ta tb)))
    (hx : PE X x (tE b1 F L p xs O ma)) (hy : ∀ xs', PE X y (tE b2 F L p xs' O (mb xs'))) (hr : ∀ xs' : List ι, RR F L (ow F.K F.mg p xs' :: O) true true true r mc) (hO : ∀ xs' : List ι, List.Sublist F.O0 (ow F.K F.mg p xs' :: O)) :
    PT X e (tEB F L p xs O (ma.bind fun u => (mb u.2).bind fun w => (mc u.1 w.1).bind fun z => .ok (z, w.2))) := pt_imp (c hx (pe_ex hy)) fun σ H Q ⟨g, q⟩ => by
  rw [out_bind] at q
  refine ⟨g, q.mono (fun u qx v1 H1 g1 s1 r1 => ?_) fun _ z => z⟩
  rw [out_bind] at qx
  refine ⟨u.2, g1, qx.mono (fun w qy v2 H2 g2 s2 r2 => ?_) fun _ z => z⟩
  rw [out_bind] at qy
  exact hr w.2 u.1 w.1 v1 v2 H2 σ _ g2 (Flat.iff.mpr (Flat.iff.mp r1)) (Flat.iff.mpr (Flat.iff.mp r2)) (qy.mono (fun z kz v H' g' s' r' => ⟨z, r', kz H' g' ((s1.trans s2).trans (.of s'))⟩) fun H' ⟨a, b⟩ => a.go.sub (hO _))
/-- one argument -/
theorem ec1 [Flat α] {e : Expr} {b1 b3 : Bool} {r : List V → Hp → VK → Prop} {ma : Res (α × List ι)} {mc : α → Res γ} (h : PE X e (tCB r (tCons (tE b1 F L p xs O ma) tNil))) (hr : ∀ xs' : List ι, RC1 F L (ow F.K F.mg p xs' :: O) true b3 r mc) (hO : ∀ xs' : List ι, List.Sublist F.O0 (ow F.K F.mg p xs' :: O)) :
    PE X e (tE b3 F L p xs O (ma.bind fun u => (mc u.1).bind fun z => .ok (z, u.2))) := pe_imp h fun σ H Q ⟨g, q⟩ => by
  rw [out_bind] at q
  refine ⟨g, q.mono (fun u qx v1 H1 g1 s1 r1 => ?_) fun _ z => z⟩
  rw [out_bind] at qx
  exact hr u.2 u.1 v1 H1 σ Q g1 (Flat.iff.mpr (Flat.iff.mp r1)) (qx.mono (fun z kz v H' g' s' r' => kz v H' g' (s1.trans (.of s')) r') fun H' ⟨a, b⟩ => a.go.sub (hO _))
/-- if .. else, and, or -/
theorem e_if {c a e : Expr} {pos : Pos} {b : Bool} {mc : Res (Bool × List ι)} {ma mb : List ι → Res (γ × List ι)} (hc : PT X c (tEB F L p xs O mc)) (ha : ∀ xs', PE X a (tE b F L p xs' O (ma xs'))) (hb : ∀ xs', PE X e (tE b F L p xs' O (mb xs'))) :
    PE X (.IfExp c a e pos) (tE b F L p xs O (mc.bind fun u => if u.1 then ma u.2 else mb u.2)) := pe_imp (pe_ifExp hc (pe_ex ha) (pe_ex hb)) fun σ H Q ⟨g, q⟩ => by
  rw [out_bind] at q
  refine ⟨g, q.mono (fun u qc H1 g1 s1 => ?_) fun _ z => z⟩
  cases hu : u.1 with
  | true =>
    rw [hu] at qc
    exact ⟨u.2, g1, qc.mono (fun d kd v H' g' s' r' => kd v H' g' (s1.trans s') r') fun _ z => z⟩
  | false =>
    rw [hu] at qc
    exact ⟨u.2, g1, qc.mono (fun d kd v H' g' s' r' => kd v H' g' (s1.trans s') r') fun _ z => z⟩
theorem pw_ex {δ : Type} {e : Expr} {t : δ → TT} (h : ∀ b, PW X e (t b)) : PW X e (fun σ H Q => ∃ b, t b σ H Q) := ⟨fun wh pins s σ H Q I ⟨b, q⟩ => (h b).run wh pins s σ H Q I q⟩
theorem ew_and {x y : Expr} {rest : List Expr} {pos : Pos} {ma : Res (Bool × List ι)} {mb : List ι → Res (Bool × List ι)} (hx : PT X x (tEB F L p xs O ma)) (hy : ∀ xs', PW X (.BoolOp .And (y :: rest) pos) (tEB F L p xs' O (mb xs'))) :
    PW X (.BoolOp .And (x :: y :: rest) pos) (tEB F L p xs O (ma.bind fun u => if u.1 then mb u.2 else .ok (false, u.2))) := pw_imp (pw_and hx (pw_ex hy)) fun σ H Q ⟨g, q⟩ => by
  rw [out_bind] at q
  refine ⟨g, q.mono (fun u qc H1 g1 s1 => ?_) fun _ z => z⟩
  cases hu : u.1 with
  | true =>
    rw [hu] at qc
    show ∃ b, tEB F L p b O (mb b) σ H1 Q
    exact ⟨u.2, g1, qc.mono (fun d kd H' g' s' => kd H' g' (s1.trans s')) fun _ z => z⟩
  | false =>
    rw [hu] at qc
    exact qc H1 g1 s1
theorem ew_or {x y : Expr} {rest : List Expr} {pos : Pos} {ma : Res (Bool × List ι)} {mb : List ι → Res (Bool × List ι)} (hx : PT X x (tEB F L p xs O ma)) (hy : ∀ xs', PW X (.BoolOp .Or (y :: rest) pos) (tEB F L p xs' O (mb xs'))) :
    PW X (.BoolOp .Or (x :: y :: rest) pos) (tEB F L p xs O (ma.bind fun u => if u.1 then .ok (true, u.2) else mb u.2)) := pw_imp (pw_or hx (pw_ex hy)) fun σ H Q ⟨g, q⟩ => by
  rw [out_bind] at q
  refine ⟨g, q.mono (fun u qc H1 g1 s1 => ?_) fun _ z => z⟩
  cases hu : u.1 with
  | true =>
    rw [hu] at qc
    exact qc H1 g1 s1
  | false =>
    rw [hu] at qc
    show ∃ b, tEB F L p b O (mb b) σ H1 Q
    exact ⟨u.2, g1, qc.mono (fun d kd H' g' s' => kd H' g' (s1.trans s')) fun _ z => z⟩
end
end NF

set_option Elab.async false
set_option linter.all false
set_option maxRecDepth 100000
/-! Nf8: statements that change an owned list; defs that do. -/
namespace NF
open PySem PySem.Spec PyProof.Rows L2
open Data (toD)
section
variable {X : Cx} {F : Fr} {L : List (Option Asr)} {p : Addr} {O : List Own} {α β γ ι : Type} [Rep α] [Rep β] [Rep γ] [Rep ι]
/-! the owned objects in another order -/
theorem GO.perm {O2 : List Own} {H : Hp} (g : GO F O H) (h : O.Perm O2) : GO F O2 H where
  objs := fun w hw => let ⟨o, ho, q⟩ := g.objs w (h.symm.subset hw); ⟨o, ho, w.mono (less_sub fun a ha => by
    rcases List.mem_append.mp ha with z | z
    · exact List.mem_append_left _ ((h.map Own.a).symm.subset z)
    · exact List.mem_append_right _ z) q⟩
  nd := (h.map Own.a).nodup_iff.mp g.nd
  own := fun w hw => g.own w (h.symm.subset hw)
  keep := g.keep
  live := g.live
  hid := g.hid
  apart := fun w hw => g.apart w (h.symm.subset hw)
  facts := fun z hz => z.mono (less_sub fun a ha => by
    rcases List.mem_append.mp ha with z | z
    · exact List.mem_append_left _ ((h.map Own.a).symm.subset z)
    · exact List.mem_append_right _ z) (g.facts z hz)
theorem G.perm {O2 : List Own} {σ : L2.St} {H : Hp} (g : G F L O σ H) (h : O.Perm O2) : G F L O2 σ H := ⟨L2.Paired.mapP g.slots fun _ _ q => q.mono (less_sub fun a ha => by
    rcases List.mem_append.mp ha with z | z
    · exact List.mem_append_left _ ((h.map Own.a).symm.subset z)
    · exact List.mem_append_right _ z), g.go.perm h⟩
theorem s_perm {B : Type} {st : Stmt} {m : Res B} {L' : B → List (Option Asr)} {O2 : List Own} {O' O2' : B → List Own} (h : O.Perm O2) (h' : ∀ b, (O2' b).Perm (O' b)) (hs : PS X st (tN F L O2 m L' O2')) : PS X st (tN F L O m L' O') := ps_imp hs fun D σ H ⟨g, q⟩ =>
  ⟨g.perm h, q.mono (fun b k σ' H' g' => k σ' H' (g'.perm (h' b))) fun _ z => z⟩
theorem b_perm {D' : Type} {st : List Stmt} {m : Res D'} {Ret : D' → V → Hp → Prop} {O2 : List Own} (h : O.Perm O2) (hs : PSs X st (tT F L O2 m Ret)) : PSs X st (tT F L O m Ret) := pss_imp hs fun D σ H ⟨g, q⟩ => ⟨g.perm h, q⟩
theorem m_perm {B D' : Type} {st : List Stmt} {m : Res (Sum B D')} {L' : B → List (Option Asr)} {O' : B → List Own} {Ret : D' → V → Hp → Prop} {O2 : List Own} (h : O.Perm O2) (hs : PSs X st (tM F L O2 m L' O' Ret)) : PSs X st (tM F L O m L' O' Ret) := pss_imp hs fun D σ H ⟨g, q⟩ => ⟨g.perm h, q⟩
theorem n_perm {B : Type} {st : List Stmt} {m : Res B} {L' : B → List (Option Asr)} {O' : B → List Own} {O2 : List Own} (h : O.Perm O2) (hs : PSs X st (tN F L O2 m L' O')) : PSs X st (tN F L O m L' O') := pss_imp hs fun D σ H ⟨g, q⟩ => ⟨g.perm h, q⟩
/-! the list at p becomes another one -/
theorem g_upd {xs xs' : List ι} {vs' : List V} {σ : L2.St} {H : Hp} (g : G F L (ow F.K F.mg p xs :: O) σ H) (r : Reps F.K F.mg (rg F (ow F.K F.mg p xs :: O) H) vs' xs') :
    G F L (ow F.K F.mg p xs' :: O) σ (upd H p (.lst vs')) ∧ KeepBut p H (upd H p (.lst vs')) := by
  have hp : p ∈ addrs (ow F.K F.mg p xs :: O) ++ F.A := List.mem_append_left _ List.mem_cons_self
  have er : Same (rg F (ow F.K F.mg p xs :: O) H) (rg F (ow F.K F.mg p xs' :: O) (upd H p (.lst vs'))) := fun a o z => by
    unfold rg at z ⊢
    by_cases hb : a ∈ addrs (ow F.K F.mg p xs :: O) ++ F.A
    · rw [less_in hb] at z; cases z
    · rw [less_out hb] at z
      rw [less_out (show a ∉ addrs (ow F.K F.mg p xs' :: O) ++ F.A from hb), upd_ne (fun y => hb (by rw [y]; exact hp))]
      exact z
  have nd := List.nodup_cons.mp (show (p :: addrs O).Nodup from g.go.nd)
  refine ⟨⟨L2.Paired.mapP g.slots fun _ _ q => q.mono er, ?_⟩, fun x o h hx => by rw [upd_ne hx]; exact h⟩
  exact {
    objs := fun w hw => by
      rcases List.mem_cons.mp hw with rfl | hw
      · exact ⟨_, upd_same, vs', rfl, r.mono er⟩
      · obtain ⟨o, ho, q⟩ := g.go.objs w (List.mem_cons_of_mem _ hw)
        have hne : w.a ≠ p := fun y => nd.1 (by rw [← y]; exact List.mem_map.mpr ⟨w, hw, rfl⟩)
        exact ⟨o, by rw [upd_ne hne]; exact ho, w.mono er q⟩
    nd := g.go.nd
    own := fun w hw => by
      rcases List.mem_cons.mp hw with rfl | hw
      · exact g.go.own (ow F.K F.mg p xs) List.mem_cons_self
      · exact g.go.own w (List.mem_cons_of_mem _ hw)
    keep := fun a o h hw => by
      have hne : a ≠ p := fun y => by
        subst y
        rcases g.go.own _ List.mem_cons_self with z | z
        · exact hw z
        · have z' : F.H0 a = none := z
          rw [z'] at h; cases h
      rw [upd_ne hne]
      exact g.go.keep a o h hw
    live := fun a h => by
      by_cases hne : a = p
      · subst hne; rw [upd_same]; simp
      · rw [upd_ne hne]; exact g.go.live a h
    hid := g.go.hid
    apart := fun w hw => by
      rcases List.mem_cons.mp hw with rfl | hw
      · exact g.go.apart (ow F.K F.mg p xs) List.mem_cons_self
      · exact g.go.apart w (List.mem_cons_of_mem _ hw)
    facts := fun z hz => z.mono er (g.go.facts z hz) }
variable {xs : List ι}
theorem G.head {σ : L2.St} {H : Hp} (g : G F L (ow F.K F.mg p xs :: O) σ H) : ∃ vs, H p = some (.lst vs) ∧ Reps F.K F.mg (rg F (ow F.K F.mg p xs :: O) H) vs xs := by
  obtain ⟨o, h3, vs, h4, h5⟩ := g.go.objs _ List.mem_cons_self
  exact ⟨vs, h4 ▸ h3, h5⟩
/-- x = what changes the list -/
theorem s_setE {x : Str} {e : Expr} {pos pos' : Pos} (i : Nat) (hN : X.N.Nodup) {m : Res (α × List ι)} (he : PE X e (tE true F L p xs O m)) (hi : X.N[i]? = some x := by rfl) (hx : L2.Loc X.env.scope x := by first | exact .inl rfl | exact .inr rfl) (hs : swapsWith e (some (.Name x pos')) pos.line X.env = pure false := by rfl) (hf : X.fn x = true ∨ X.env.scope.names.lookup x = some .local := by first | exact .inl rfl | exact .inr rfl) :
    PS X (.Assign [.Name x pos'] e pos) (tN F L (ow F.K F.mg p xs :: O) m (fun r => L.set i (vl F.K F.mg r.1)) (fun r => ow F.K F.mg p r.2 :: O)) := ps_imp (ps_set (i := i) hN hi hx he hs hf) fun D σ H ⟨g, q⟩ =>
  ⟨g, q.mono (fun a k v H1 g1 s1 r1 => k _ _ ⟨set_ok (p := vl F.K F.mg a.1) r1 i g1.slots, g1.go⟩) fun _ z => z⟩
/-- e, for what it changes -/
theorem s_exprE {e : Expr} {pos : Pos} {m : Res (α × List ι)} (he : PE X e (tE true F L p xs O m)) (hs : swapsWith e none pos.line X.env = pure false := by rfl) :
    PS X (.Expr e pos) (tN F L (ow F.K F.mg p xs :: O) m (fun _ => L) (fun r => ow F.K F.mg p r.2 :: O)) := ps_imp (ps_expr he hs) fun D σ H ⟨g, q⟩ =>
  ⟨g, q.mono (fun a k v H1 g1 s1 r1 => k _ _ g1) fun _ z => z⟩
/-- x[i] = e -/
def setR (xs : List ι) (i : Int) (a : ι) : Res (List ι) := match ixN xs.length i with
  | some j => .ok (xs.set j a)
  | none => .bad
theorem s_sub {x : Str} {e ie : Expr} {pos pos1 pos2 : Pos} (i : Nat) (hL : L[i]? = some (rf p)) {m : Res (ι × List ι)} {mi : List ι → Res Int} (hO : ∀ xs' : List ι, List.Sublist F.O0 (ow F.K F.mg p xs' :: O)) (he : PE X e (tE true F L p xs O m)) (hie : ∀ xs' : List ι, PE X ie (tP true F L (ow F.K F.mg p xs' :: O) (mi xs')))
    (hN : X.N[i]? = some x := by rfl) (hv : Vis X.env.scope x := by first | exact Or.inl rfl | exact Or.inr (Or.inl rfl) | exact Or.inr (Or.inr rfl)) (hd : (x == ("__debug__" : Str)) = false := by decide) (hcd : (x == ("__classdict__" : Str)) = false := by decide)
    (ha : ∀ v, assign (.Subscript (.Name x pos1) ie pos2) X.env v = (do
      let ov ← holding [v] (eval (.Name x pos1) X.env)
      let iv ← holding [v, ov] (eval ie X.env)
      standAt pos2
      holding [v, ov, iv] (setItem ov iv v)
      release [v, ov, iv] []) := by intro _; rfl) (h1 : swapsWithSole [.Subscript (.Name x pos1) ie pos2] e pos.line X.env = pure false := by rfl) (h2 : swappedStores [.Subscript (.Name x pos1) ie pos2] e X.env = pure none := by rfl)
    (h3 : (assignEach [.Subscript (.Name x pos1) ie pos2] X.env).map (·.2) = [assign (.Subscript (.Name x pos1) ie pos2) X.env] := by rfl) :
    PS X (.Assign [.Subscript (.Name x pos1) ie pos2] e pos) (tN F L (ow F.K F.mg p xs :: O) (m.bind fun r => (mi r.2).bind fun j => setR r.2 j r.1) (fun _ => L) (fun ys => ow F.K F.mg p ys :: O)) := ps_imp (ps_asg he (pg_sub (pe_var hN hv hd hcd) (pe_ex hie) set_list ha) h1 h2 h3) fun D σ H ⟨g, q⟩ => by
  rw [out_bind] at q
  refine ⟨g, q.mono (fun r k v H1 g1 s1 r1 => ?_) fun _ z => z⟩
  obtain ⟨w, h4, h5⟩ := g1.slot hL
  rw [out_bind] at k
  refine ⟨w, h4, r.2, g1, k.mono (fun j k v2 H2 g2 s2 r2 => ?_) fun H' ⟨a, _⟩ => a.go.sub (hO _)⟩
  unfold setR at k
  obtain ⟨vs, h6, h7⟩ := g2.head
  cases e : ixN r.2.length j with
  | none => rw [e] at k; exact k.elim
  | some n =>
    rw [e] at k
    refine ⟨p, vs, j, n, h5, r2, h6, by rw [h7.length]; exact e, ?_⟩
    exact k σ _ (g_upd g2 (reps_set (Rep.mono (rg_grow s2) r1) n h7)).1
/-- x.append(e) -/
theorem s_app {x : Str} {e : Expr} {pos pos1 pos2 cpos : Pos} (i : Nat) (hL : L[i]? = some (rf p)) {m : Res ι} (hO : ∀ xs' : List ι, List.Sublist F.O0 (ow F.K F.mg p xs' :: O)) (he : PE X e (tP true F L (ow F.K F.mg p xs :: O) m))
    (h : ∀ {to : TE} {t : TA}, PE X (.Name x pos1) to → PA X [e] t → PE X (.Call (.Attribute (.Name x pos1) "append" pos2) [e] [] cpos) (tBM X.K "list" rAppend to t)) (hs1 : starEach [e] X.env = (false, eval e X.env) :: starEach [] X.env := by rfl)
    (hN : X.N[i]? = some x := by rfl) (hv : Vis X.env.scope x := by first | exact Or.inl rfl | exact Or.inr (Or.inl rfl) | exact Or.inr (Or.inr rfl)) (hd : (x == ("__debug__" : Str)) = false := by decide) (hcd : (x == ("__classdict__" : Str)) = false := by decide)
    (hs : swapsWith (.Call (.Attribute (.Name x pos1) "append" pos2) [e] [] cpos) none pos.line X.env = pure false := by rfl) :
    PS X (.Expr (.Call (.Attribute (.Name x pos1) "append" pos2) [e] [] cpos) pos) (tN F L (ow F.K F.mg p xs :: O) (m.bind fun a => need (xs.length < sizeLine) (.ok (xs ++ [a]))) (fun _ => L) (fun ys => ow F.K F.mg p ys :: O)) := ps_imp (ps_expr (h (pe_var hN hv hd hcd) (pa_cons he pa_nil hs1)) hs) fun D σ H ⟨g, q⟩ => by
  obtain ⟨w, h4, h5⟩ := g.slot hL
  obtain ⟨vs, h6, h7⟩ := g.head
  rw [out_bind] at q
  refine ⟨w, h4, ?_, g, q.mono (fun a k v H1 g1 s1 r1 => ?_) fun H' ⟨a, _⟩ => a.go.sub (hO _)⟩
  · rw [show w = V.ref p from h5]
    exact .inl ⟨rfl, _, .of h6⟩
  · rw [out_need] at k
    obtain ⟨vs', h8, h9⟩ := g1.head
    refine ⟨p, vs', v, h5, rfl, h8, by rw [h9.length]; exact k.1, ?_⟩
    exact k.2 σ _ (g_upd g1 (reps_append h9 (.cons r1 .nil))).1
/-- x.pop(i) -/
def popAtR (xs : List ι) (i : Int) : Res (ι × List ι) := match seqIndex? i xs.length with
  | some k => match xs[k]? with
    | some a => need (Rg63 i) (.ok (a, xs.eraseIdx k))
    | none => .bad
  | none => .bad
theorem reps_erase {K : Fg} {mg : MG} {H : Hp} : ∀ {vs : List V} {as : List ι} (n : Nat), Reps K mg H vs as → Reps K mg H (vs.eraseIdx n) (as.eraseIdx n)
  | _, _, _, .nil => .nil
  | _, _, 0, .cons _ t => t
  | _, _, n + 1, .cons q t => .cons q (reps_erase n t)
theorem e_popAt {x : Str} {ie : Expr} {pos1 pos2 cpos : Pos} (i : Nat) (hL : L[i]? = some (rf p)) {mi : Res Int} (hO : ∀ xs' : List ι, List.Sublist F.O0 (ow F.K F.mg p xs' :: O)) (hie : PE X ie (tP true F L (ow F.K F.mg p xs :: O) mi))
    (h : ∀ {to : TE} {t : TA}, PE X (.Name x pos1) to → PA X [ie] t → PE X (.Call (.Attribute (.Name x pos1) "pop" pos2) [ie] [] cpos) (tBM X.K "list" rPopAt to t)) (hs1 : starEach [ie] X.env = (false, eval ie X.env) :: starEach [] X.env := by rfl)
    (hN : X.N[i]? = some x := by rfl) (hv : Vis X.env.scope x := by first | exact Or.inl rfl | exact Or.inr (Or.inl rfl) | exact Or.inr (Or.inr rfl)) (hd : (x == ("__debug__" : Str)) = false := by decide) (hcd : (x == ("__classdict__" : Str)) = false := by decide) :
    PE X (.Call (.Attribute (.Name x pos1) "pop" pos2) [ie] [] cpos) (tE true F L p xs O (mi.bind fun j => popAtR xs j)) := pe_imp (h (pe_var hN hv hd hcd) (pa_cons hie pa_nil hs1)) fun σ H Q ⟨g, q⟩ => by
  obtain ⟨w, h4, h5⟩ := g.slot hL
  obtain ⟨vs, h6, h7⟩ := g.head
  rw [out_bind] at q
  refine ⟨w, h4, ?_, g, q.mono (fun j k v H1 g1 s1 r1 => ?_) fun H' ⟨a, _⟩ => a.go.sub (hO _)⟩
  · rw [show w = V.ref p from h5]
    exact .inl ⟨rfl, _, .of h6⟩
  · obtain ⟨vs', h8, h9⟩ := g1.head
    unfold popAtR at k
    cases e : seqIndex? j xs.length with
    | none => rw [e] at k; exact k.elim
    | some n =>
      rw [e] at k
      cases e2 : xs[n]? with
      | none => simp only [e2] at k; exact k.elim
      | some a =>
        simp only [e2] at k
        rw [out_need] at k
        obtain ⟨y, h10, h11⟩ := reps_get h9 e2
        have r1' : v = V.int j := r1
        refine ⟨p, vs', j, n, y, h5, by rw [r1'], h8, k.1.1, k.1.2, by rw [h9.length]; exact e, h10, ?_⟩
        have gu := g_upd g1 (reps_erase n h9)
        refine k.2 y _ gu.1 ((KeepBut.of s1).trans gu.2) ?_
        exact Rep.mono (fun a o z => by
          unfold rg at z
          show rgn true F (ow F.K F.mg p (xs.eraseIdx n) :: O) _ a = some o
          show less _ _ a = some o
          by_cases hb : a ∈ addrs (ow F.K F.mg p xs :: O) ++ F.A
          · rw [less_in hb] at z; cases z
          · rw [less_out hb] at z
            rw [less_out (show a ∉ addrs (ow F.K F.mg p (xs.eraseIdx n) :: O) ++ F.A from hb), upd_ne (fun y => hb (by rw [y]; exact List.mem_append_left _ List.mem_cons_self))]
            exact z) h11
end
end NF

set_option Elab.async false
set_option linter.all false
set_option maxRecDepth 100000
/-! Nf9: built-ins. -/
namespace NF
open PySem PySem.Spec PyProof.Rows L2
open Data (toD)
/-- the name of a value's type -/
class Ty (α : Type) [Rep α] where
  tyN : α → String
  ok : ∀ {K : Fg} {mg : MG} {H : Hp} {v : V} {a : α}, Rep.rep K mg H v a → TyX K H v (.type (tyN a))
theorem tyx_tup {K : Fg} {H : Hp} {p : Addr} {vs : List V} (h : SqT K H p vs) : TyX K H (.ref p) (.type "tuple") := by
  rcases h with (h | ⟨o, h⟩) | ⟨o, its, n, h1, h2, _⟩
  · exact .base (.tup h)
  · exact .fTuple h
  · exact .kTuple h1 h2
theorem tyx_lst {K : Fg} {H : Hp} {p : Addr} {vs : List V} (h : SqL K H p vs) : TyX K H (.ref p) (.type "list") := by
  rcases h with (h | ⟨o, h⟩) | ⟨o, its, n, h1, h2, _⟩
  · exact .base (.lst h)
  · exact .base (.frz h)
  · exact .kList h1 h2
instance : Ty Int := ⟨fun _ => "int", fun {K mg H v a} h => by subst h; exact .base (.int a)⟩
instance : Ty Bool := ⟨fun _ => "bool", fun {K mg H v a} h => by subst h; exact .base (.bl a)⟩
instance : Ty Str := ⟨fun _ => "str", fun {K mg H v a} h => by subst h; exact .base (.str a)⟩
instance : Ty Unit := ⟨fun _ => "NoneType", fun {K mg H v a} h => by subst h; exact .base .non⟩
instance {α : Type} [Rep α] : Ty (List α) := ⟨fun _ => "list", fun ⟨p, vs, h1, h2, h3⟩ => by subst h1; exact tyx_lst (.of h2)⟩
instance {α : Type} [Rep α] : Ty (Tp α) := ⟨fun _ => "tuple", fun ⟨p, vs, h1, h2, h3⟩ => by subst h1; exact tyx_tup h2⟩
instance {α β : Type} [Rep α] [Rep β] : Ty (α × β) := ⟨fun _ => "tuple", fun ⟨p, a, b, h1, h2, _⟩ => by subst h1; exact tyx_tup h2⟩
def dName : PyData → String
  | .none => "NoneType"
  | .bool _ => "bool"
  | .int _ => "int"
  | .str _ => "str"
  | .list _ => "list"
  | .tuple _ => "tuple"
  | .dict _ => "dict"
instance : Ty PyData := ⟨dName, fun {K mg H v a} h => by
  cases (show Dp K H v a from h) with
  | non => exact .base .non
  | bl b => exact .base (.bl b)
  | int i => exact .base (.int i)
  | str x => exact .base (.str x)
  | lst h2 hs => exact tyx_lst h2
  | tup h2 hs => exact tyx_tup h2⟩
/-- isinstance by the names -/
def isT (T n : String) : Res Bool := match kitB n T with
  | some b => .ok b
  | none => .bad
section
variable {X : Cx} {F : Fr} {L : List (Option Asr)} {O : List Own} {α β γ s : Type} [Rep α] [Rep β] [Rep γ] [Rep s] {b1 b2 b3 : Bool} {pos p1 p2 : Pos}
theorem ty_grow [Ty α] {K : Fg} {H H' : Hp} {t : Value} {v : V} (h : TyX K H v t) : True := trivial
theorem n_isi [Ty α] {e : Expr} {T : Str} {n : String} {m : Res α} (h : PE X e (tP b1 F L O m)) (hT : bootBuiltins T = some (.type n)) (hm : X.mg T = none) (hi : X.mg "isinstance" = none) (hg : Gl X "isinstance" := by rfl) (hgT : Gl X T := by rfl) (hK : X.K = F.K := by rfl) (hM : X.mg = F.mg := by rfl)
    (hn : T ≠ "__name__" := by decide) (hd : (T == ("__debug__" : Str)) = false := by decide)
    (h1 : starEach [e, .Name T p2] X.env = (false, eval e X.env) :: starEach [.Name T p2] X.env := by rfl) (h2 : starEach [.Name T p2] X.env = (false, eval (.Name T p2) X.env) :: starEach [] X.env := by rfl)
    (c : ∀ {r : List V → Hp → VK → Prop} {t : TA}, CallR X (.builtin "isinstance") r → PA X [e, .Name T p2] t → PE X (.Call (.Name "isinstance" p1) [e, .Name T p2] [] pos) (tCB r t)) :
    PE X (.Call (.Name "isinstance" p1) [e, .Name T p2] [] pos) (tP b3 F L O (m.bind fun a => isT n (Ty.tyN a))) := pe_imp (c call_isi (pa_cons h (pa_cons (pe_bltn (v := .ty n) hgT hm hT rfl hn hd) pa_nil h2) h1)) fun σ H Q ⟨g, q⟩ => by
  rw [out_bind] at q
  refine ⟨g, q.mono (fun a k v H1 g1 s1 r1 => ?_) fun _ z => z⟩
  unfold isT at k
  cases e : kitB (Ty.tyN a) n with
  | none => rw [e] at k; exact k.elim
  | some b =>
    rw [e] at k
    have ht : TyX F.K (rgn b1 F O H1) v (.type (Ty.tyN a)) := Ty.ok r1
    have ht' : TyX X.K H1 v (.type (Ty.tyN a)) := by rw [hK]; exact Ty.ok (α := α) (mg := F.mg) (Rep.mono rgn_sub r1)
    exact ⟨v, .ty n, _, _, b, rfl, .ty n, ht', kit_ty e, k _ H1 g1 s1 rfl⟩
/-- abs, int, bool, max, min -/
theorem n_abs {e : Expr} {m : Res Int} {es} (h : PE X e (tCB es (tCons (tP b1 F L O m) tNil))) (er : es = fun xs H Q => ∃ i, xs = [V.int i] ∧ Q (.int (if i < 0 then -i else i)) H) : PE X e (tP b3 F L O (m.bind fun i => .ok (if i < 0 then -i else i))) := nc1 h fun x vx H σ Q g rx q => by
  subst er; cases rx; exact ⟨x, rfl, kp_flat (α := Int) g q⟩
theorem n_int1 {e : Expr} {m : Res Int} {es} (h : PE X e (tCB es (tCons (tP b1 F L O m) tNil))) (er : es = fun xs H Q => (∃ i, xs = [V.int i] ∧ Q (.int i) H) ∨ ∃ k, xs = [V.bl k] ∧ Q (.int (if k then 1 else 0)) H) : PE X e (tP b3 F L O (m.bind fun i => .ok i)) := nc1 h fun x vx H σ Q g rx q => by
  subst er; cases rx; exact .inl ⟨x, rfl, kp_flat (α := Int) g q⟩
theorem n_intB {e : Expr} {m : Res Bool} {es} (h : PE X e (tCB es (tCons (tP b1 F L O m) tNil))) (er : es = fun xs H Q => (∃ i, xs = [V.int i] ∧ Q (.int i) H) ∨ ∃ k, xs = [V.bl k] ∧ Q (.int (if k then 1 else 0)) H) : PE X e (tP b3 F L O (m.bind fun k => .ok (if k then (1 : Int) else 0))) := nc1 h fun x vx H σ Q g rx q => by
  subst er; cases rx; exact .inr ⟨x, rfl, kp_flat (α := Int) g q⟩
theorem n_max2 {e : Expr} {ma mb : Res Int} {es} (h : PE X e (tCB es (tCons (tP b1 F L O ma) (tCons (tP b2 F L O mb) tNil)))) (er : es = fun xs H Q => ∃ i j, xs = [V.int i, V.int j] ∧ Q (.int (if j > i then j else i)) H) : PE X e (tP b3 F L O (ma.bind fun i => mb.bind fun j => .ok (if j > i then j else i))) := nc2 h fun x y vx vy H σ Q g rx ry q => by
  subst er; cases rx; cases ry; exact ⟨x, y, rfl, kp_flat (α := Int) g q⟩
theorem n_min2 {e : Expr} {ma mb : Res Int} {es} (h : PE X e (tCB es (tCons (tP b1 F L O ma) (tCons (tP b2 F L O mb) tNil)))) (er : es = fun xs H Q => ∃ i j, xs = [V.int i, V.int j] ∧ Q (.int (if j < i then j else i)) H) : PE X e (tP b3 F L O (ma.bind fun i => mb.bind fun j => .ok (if j < i then j else i))) := nc2 h fun x y vx vy H σ Q g rx ry q => by
  subst er; cases rx; cases ry; exact ⟨x, y, rfl, kp_flat (α := Int) g q⟩
/-- the least, the greatest of a list of ints -/
def minR (xs : List Int) : Res Int := match xs with
  | [] => .bad
  | x :: r => .ok (r.foldl min x)
def maxR (xs : List Int) : Res Int := match xs with
  | [] => .bad
  | x :: r => .ok (r.foldl max x)
theorem foldl_min_le : ∀ (r : List Int) (x : Int), r.foldl min x ≤ x ∧ (∀ y ∈ r, r.foldl min x ≤ y) ∧ (r.foldl min x = x ∨ r.foldl min x ∈ r)
  | [], x => ⟨Int.le_refl _, fun _ h => (List.not_mem_nil h).elim, .inl rfl⟩
  | y :: r, x => by
    obtain ⟨h1, h2, h3⟩ := foldl_min_le r (min x y)
    refine ⟨by show r.foldl min (min x y) ≤ x; omega, fun z hz => ?_, ?_⟩
    · rcases List.mem_cons.mp hz with rfl | hz
      · show r.foldl min (min x z) ≤ z; omega
      · exact h2 z hz
    · show r.foldl min (min x y) = x ∨ r.foldl min (min x y) ∈ y :: r
      rcases h3 with h3 | h3
      · by_cases h : x ≤ y
        · left; omega
        · right; rw [h3, show min x y = y by omega]; exact List.mem_cons_self
      · right; exact List.mem_cons_of_mem _ h3
theorem foldl_max_le : ∀ (r : List Int) (x : Int), x ≤ r.foldl max x ∧ (∀ y ∈ r, y ≤ r.foldl max x) ∧ (r.foldl max x = x ∨ r.foldl max x ∈ r)
  | [], x => ⟨Int.le_refl _, fun _ h => (List.not_mem_nil h).elim, .inl rfl⟩
  | y :: r, x => by
    obtain ⟨h1, h2, h3⟩ := foldl_max_le r (max x y)
    refine ⟨by show x ≤ r.foldl max (max x y); omega, fun z hz => ?_, ?_⟩
    · rcases List.mem_cons.mp hz with rfl | hz
      · show z ≤ r.foldl max (max x z); omega
      · exact h2 z hz
    · show r.foldl max (max x y) = x ∨ r.foldl max (max x y) ∈ y :: r
      rcases h3 with h3 | h3
      · by_cases h : y ≤ x
        · left; omega
        · right; rw [h3, show max x y = y by omega]; exact List.mem_cons_self
      · right; exact List.mem_cons_of_mem _ h3
theorem n_min {e : Expr} {m : Res (List Int)} {es} (h : PE X e (tCB es (tCons (tP b1 F L O m) tNil))) (er : es = rMin F.K) : PE X e (tP b3 F L O (m.bind minR)) := nc1 h fun x vx H σ Q g rx q => by
  subst er
  obtain ⟨p, vs, rfl, h2, h3⟩ := rx
  have e := reps_flat.mp h3
  subst e
  cases x with
  | nil => exact q.elim
  | cons y r =>
    refine ⟨p, y :: r, rfl, .of (rgn_sub _ _ h2), by simp, fun m hm hle => ?_⟩
    obtain ⟨f1, f2, f3⟩ := foldl_min_le r y
    have em : m = r.foldl min y := by
      have a1 : m ≤ r.foldl min y := by
        rcases f3 with f3 | f3
        · rw [f3]; exact hle y List.mem_cons_self
        · exact hle _ (List.mem_cons_of_mem _ f3)
      have a2 : r.foldl min y ≤ m := by
        rcases List.mem_cons.mp hm with e | e
        · rw [e]; exact f1
        · exact f2 m e
      omega
    subst em
    exact kp_flat (α := Int) g q
theorem n_max {e : Expr} {m : Res (List Int)} {es} (h : PE X e (tCB es (tCons (tP b1 F L O m) tNil))) (er : es = rMax F.K) : PE X e (tP b3 F L O (m.bind maxR)) := nc1 h fun x vx H σ Q g rx q => by
  subst er
  obtain ⟨p, vs, rfl, h2, h3⟩ := rx
  have e := reps_flat.mp h3
  subst e
  cases x with
  | nil => exact q.elim
  | cons y r =>
    refine ⟨p, y :: r, rfl, .of (rgn_sub _ _ h2), by simp, fun m hm hle => ?_⟩
    obtain ⟨f1, f2, f3⟩ := foldl_max_le r y
    have em : m = r.foldl max y := by
      have a1 : r.foldl max y ≤ m := by
        rcases f3 with f3 | f3
        · rw [f3]; exact hle y List.mem_cons_self
        · exact hle _ (List.mem_cons_of_mem _ f3)
      have a2 : m ≤ r.foldl max y := by
        rcases List.mem_cons.mp hm with e | e
        · rw [e]; exact f1
        · exact f2 m e
      omega
    subst em
    exact kp_flat (α := Int) g q
theorem n_sum {e : Expr} {m : Res (List Int)} {es} (h : PE X e (tCB es (tCons (tP b1 F L O m) tNil))) (er : es = rSum F.K) : PE X e (tP b3 F L O (m.bind fun xs => .ok xs.sum)) := nc1 h fun x vx H σ Q g rx q => by
  subst er
  obtain ⟨p, vs, rfl, h2, h3⟩ := rx
  have e := reps_flat.mp h3
  subst e
  exact ⟨p, x, rfl, .of (rgn_sub _ _ h2), kp_flat (α := Int) g q⟩
theorem n_all {e : Expr} {m : Res (List Bool)} {es} (h : PE X e (tCB es (tCons (tP b1 F L O m) tNil))) (er : es = rAll F.K) : PE X e (tP b3 F L O (m.bind fun xs => .ok (xs.all id))) := nc1 h fun x vx H σ Q g rx q => by
  subst er
  obtain ⟨p, vs, rfl, h2, h3⟩ := rx
  have e := reps_flat.mp h3
  subst e
  exact ⟨p, x, rfl, .of (rgn_sub _ _ h2), kp_flat (α := Bool) g q⟩
theorem n_any {e : Expr} {m : Res (List Bool)} {es} (h : PE X e (tCB es (tCons (tP b1 F L O m) tNil))) (er : es = rAny F.K) : PE X e (tP b3 F L O (m.bind fun xs => .ok (xs.any id))) := nc1 h fun x vx H σ Q g rx q => by
  subst er
  obtain ⟨p, vs, rfl, h2, h3⟩ := rx
  have e := reps_flat.mp h3
  subst e
  exact ⟨p, x, rfl, .of (rgn_sub _ _ h2), kp_flat (α := Bool) g q⟩
/-- list(xs), tuple(xs) -/
theorem f_list [Lk s α] {e : Expr} {m : Res s} {es} (h : PE X e (tCB es (tCons (tP b1 F L O m) tNil))) (er : es = fun xs H Q => ∃ p ys, xs = [V.ref p] ∧ (SqL F.K H p ys ∨ SqT F.K H p ys) ∧ ∀ l, H l = none → Q (.ref l) (upd H l (.lst ys))) : PE X e (tF b1 F L O (m.bind fun x => .ok (Lk.its x))) := nc1f h fun x vx H σ Q g rx q => by
  subst er
  obtain ⟨p, vs, rfl, h2, h3⟩ := Lk.get rx
  exact ⟨p, vs, rfl, h2.elim (fun z => .inl (rgn_sub.seq z)) (fun z => .inr (same_t rgn_sub z)), kf_new g q h3⟩
theorem n_tupleOf [Lk s α] {e : Expr} {m : Res s} {es} (h : PE X e (tCB es (tCons (tP b1 F L O m) tNil))) (er : es = fun xs H Q => ∃ p ys, xs = [V.ref p] ∧ ((SqL F.K H p ys ∧ ∀ l, H l = none → Q (.ref l) (upd H l (.tup ys))) ∨ SqT F.K H p ys ∧ Q (.ref p) H)) : PE X e (tP b1 F L O (m.bind fun x => .ok (Tp.mk (Lk.its x)))) := nc1 h fun x vx H σ Q g rx q => by
  subst er
  obtain ⟨p, vs, rfl, h2, h3⟩ := Lk.get rx
  refine ⟨p, vs, rfl, ?_⟩
  rcases h2 with h2 | h2
  · exact .inl ⟨rgn_sub.seq h2, fun l hl => q _ _ (g.grow (same_upd hl)) (same_upd hl) ⟨l, vs, rfl, .of (rgn_new g (same_upd hl) hl upd_same), h3.mono (rgn_grow (same_upd hl))⟩⟩
  · exact .inr ⟨same_t rgn_sub h2, q _ H g (Same.refl _) ⟨p, vs, rfl, h2, h3⟩⟩
/-- n.bit_length() -/
theorem n_bits {o : Expr} {apos : Pos} {m : Res Int} (h : PE X o (tP b1 F L O m)) (hb : attributeBase o "bit_length" X.env (eval o X.env) = eval o X.env := by rfl) (hl : (apos.endLine == pos.line) = true := by rfl) :
    PE X (.Call (.Attribute o "bit_length" apos) [] [] pos) (tP b3 F L O (m.bind fun i => .ok ((Builtin.Int.intBits i : Nat) : Int))) := pe_imp (pe_bits h hb hl) fun σ H Q ⟨g, q⟩ => by
  rw [out_bind] at q
  exact ⟨g, q.mono (fun i k v H1 g1 s1 r1 => ⟨i, r1, k _ H1 g1 s1 rfl⟩) fun _ z => z⟩
end
end NF

set_option Elab.async false
set_option linter.all false
set_option maxRecDepth 100000
/-! Nf10: where a def stands; defs that change a list. -/
namespace NF
open PySem PySem.Spec PyProof.Rows L2
open Data (toD)
/-- a def of the module, with its promise -/
structure DefAt (P : Program) (w : World) (K : Fg) (mg : MG) (base : Heap) (cx : CXT) (k : Nat) (x : Str) (ps : List Str) (sp : Sp) : Prop where
  ex : ∃ (f : Addr) (fd : FuncData), FnOk P w K mg base cx k f fd ps sp ∧ mg x = some (.ref f) ∧ PySem.W.keepIn K (.ref f) = true ∧ Binds K fd ps []
section
variable {X : Cx} {F : Fr} {L : List (Option Asr)} {O : List Own} {p : Addr} {τ ρ α ι : Type} [RepA τ] [Rep ρ] [Rep α] [Rep ι]
variable {k : Nat} {ps : List Str} {x : Str} {p1 pos : Pos} {e : Expr} {es : List Expr} {b : Bool}
theorem nd_call {mir : τ → Res ρ} {m : Res τ} (D : DefAt X.prog X.w X.K X.mg X.base CX0 k x ps (spP X.K X.mg mir)) (hr : Room k X.A) (ha : PA X (e :: es) (tA b F L O m)) (hg : Gl X x := by rfl) (hE : F.E = E0 := by rfl) (hK : X.K = F.K := by rfl) (hM : X.mg = F.mg := by rfl) (hd : (x == ("__debug__" : Str)) = false := by decide)
    (hs : starEach (e :: es) X.env = (false, eval e X.env) :: starEach es X.env := by rfl) (hs2 : ((backTo pos (starEach es X.env)).any fun x => x.fst) = false := by rfl) : PE X (.Call (.Name x p1) (e :: es) [] pos) (tP b F L O (m.bind mir)) := by
  obtain ⟨f, fd, h1, h2, h3, h4⟩ := D.ex
  exact n_call h1 hr h2 h3 h4 ha hg hE hK hM hd hs hs2
theorem fd_call {mir : τ → Res (List α)} {m : Res τ} (D : DefAt X.prog X.w X.K X.mg X.base CX0 k x ps (spF X.K X.mg mir)) (hr : Room k X.A) (ha : PA X (e :: es) (tA b F L O m)) (hg : Gl X x := by rfl) (hE : F.E = E0 := by rfl) (hK : X.K = F.K := by rfl) (hM : X.mg = F.mg := by rfl) (hd : (x == ("__debug__" : Str)) = false := by decide)
    (hs : starEach (e :: es) X.env = (false, eval e X.env) :: starEach es X.env := by rfl) (hs2 : ((backTo pos (starEach es X.env)).any fun x => x.fst) = false := by rfl) : PE X (.Call (.Name x p1) (e :: es) [] pos) (tF b F L O (m.bind mir)) := by
  obtain ⟨f, fd, h1, h2, h3, h4⟩ := D.ex
  exact f_call h1 hr h2 h3 h4 ha hg hE hK hM hd hs hs2
end
/-! ### defs that change the list that is passed first -/
abbrev F2 (K : Fg) (mg : MG) (H : Hp) (A : List Addr) (E : XK) (p : Addr) : Fr := ⟨K, mg, H, [p], A, [], E, []⟩
def spI {τ ρ ι : Type} [RepA τ] [Rep ρ] [Rep ι] (K : Fg) (mg : MG) (mir : List ι → τ → Res (ρ × List ι)) : Sp := fun vs H Q _ => ∃ (p : Addr) (a : τ) (A : List Addr) (xs : List ι) (us ws : List V), (∀ x ∈ A, H x ≠ none) ∧ p ∉ A ∧ vs = .ref p :: us ∧ RepA.rep K mg (less H (p :: A)) us a ∧
  H p = some (.lst ws) ∧ Reps K mg (less H (p :: A)) ws xs ∧
  Out (F2 K mg H A E0 p) (mir xs a) (fun r => ∀ v H' ws', KeepBut p H H' → H' p = some (.lst ws') → Reps K mg (less H' (p :: A)) ws' r.2 → Rep.rep K mg (less H' (p :: A)) v r.1 → Q v H') (fun H' => GO (F2 K mg H A E0 p) [] H')
def rI {ρ ι : Type} [Rep ρ] [Rep ι] (F : Fr) (p : Addr) (r : ρ × List ι) (v : V) (H : Hp) : Prop := GO F [ow F.K F.mg p r.2] H ∧ rp F (rg F [ow F.K F.mg p r.2] H) v r.1
theorem go_startI {ι : Type} [Rep ι] {K : Fg} {mg : MG} {H : Hp} {A : List Addr} {E : XK} {p : Addr} {xs : List ι} {ws : List V} (hA : ∀ x ∈ A, H x ≠ none) (hp : p ∉ A) (h : H p = some (.lst ws)) (r : Reps K mg (less H (p :: A)) ws xs) : GO (F2 K mg H A E p) [ow K mg p xs] H where
  objs := fun w hw => by
    rw [List.mem_singleton.mp hw]
    exact ⟨_, h, ws, rfl, r⟩
  nd := by simp
  own := fun w hw => by rw [List.mem_singleton.mp hw]; exact .inl List.mem_cons_self
  keep := fun _ _ h _ => h
  live := fun _ h => h
  hid := hA
  apart := fun w hw => by rw [List.mem_singleton.mp hw]; exact hp
  facts := fun _ h => (List.not_mem_nil h).elim
section
variable {P : Program} {w : World} {K : Fg} {mg : MG} {base : Heap} {τ ρ ι : Type} [RepA τ] [Rep ρ] [Rep ι]
variable {x qual : Str} {st : Stmt} {f : Addr} {fd : FuncData} {N ps : List Str} {k : Nat}
theorem def_I {mir : List ι → τ → Res (ρ × List ι)} (Fu : Fun K x qual st f fd) (S : FnScope N ps (defScope st)) (L0 : Addr → τ → List (Option Asr)) (hl : ∀ (vs : List V) (R : Hp) (p : Addr) (a : τ), RepA.rep K mg R vs a → (V.ref p :: vs).length = ps.length ∧ Paired (SlotOk R) (L0 p a) (start N (V.ref p :: vs)))
    (body : ∀ (cdv : Value) (A : Around) (outer : List Env) (s : Shared) (H : Hp) (Av : List Addr) (E : XK) (p : Addr) (xs : List ι) (a : τ), Room k (A.deeper (envOfC qual (defScope st) s.heap.objs.size f cdv)) →
      PSs (cxOf CX0 P w K mg base N qual (defScope st) f cdv A outer s H E).nox (defBody st) (tT (F2 K mg H Av E0 p) (L0 p a) [ow K mg p xs] (mir xs a) (rI (F2 K mg H Av E0 p) p))) :
    FnOk P w K mg base CX0 (k + 1) f fd ps (spI K mg mir) := by
  refine Fu.ok S (fun vs H Q E ⟨p, a, A, xs, us, ws, _, _, e, h, _⟩ => by rw [e]; exact (hl us _ p a h).1) (fun cdv A outer s H vs Q E hr ⟨p, a, Av, xs, us, ws, hA, hp, e, h, h1, h2, q⟩ => ⟨_, body cdv A outer s H Av E p xs a hr, ⟨?_, go_startI hA hp h1 h2⟩, ?_⟩)
  · rw [e]
    exact (hl us _ p a h).2
  · refine q.mono (fun r k v H' ⟨g, r'⟩ => ?_) fun H' g => g
    obtain ⟨vs', h3, h4⟩ := (show ∃ vs', H' p = some (.lst vs') ∧ _ from by
      obtain ⟨o, h5, vs', h6, h7⟩ := g.objs _ List.mem_cons_self
      exact ⟨vs', h6 ▸ h5, h7⟩)
    exact k v H' vs' (fun x o h hx => g.keep x o h (fun z => hx (List.mem_singleton.mp z))) h3 h4 r'
end
section
variable {X : Cx} {F : Fr} {L : List (Option Asr)} {O : List Own} {p : Addr} {τ ρ α ι : Type} [RepA τ] [Rep ρ] [Rep α] [Rep ι] {xs : List ι}
variable {k : Nat} {ps : List Str} {x y : Str} {p1 p2 pos : Pos} {e : Expr} {es : List Expr}
/-! arguments -/
theorem ea_p {b : Bool} {es : List Expr} {m : Res τ} (hO : List.Sublist F.O0 (ow F.K F.mg p xs :: O)) (h : PA X es (tA b F L (ow F.K F.mg p xs :: O) m)) : PA X es (tEA b F L p xs O (m.bind fun a => .ok (a, xs))) := pa_imp h fun σ H Q ⟨g, q⟩ => by
  rw [out_bind] at q
  exact ⟨g, q.mono (fun a k vs H' g' s r => k vs H' g' (.of s) r) fun H' ⟨a, _⟩ => a.go.sub hO⟩
theorem pa_ex {δ : Type} {es : List Expr} {t : δ → TA} (h : ∀ b, PA X es (t b)) : PA X es (fun σ H Q => ∃ b, t b σ H Q) := ⟨fun pos pins s σ H Q I ⟨b, q⟩ => (h b).run pos pins s σ H Q I q⟩
theorem ea_cons [Flat α] {e : Expr} {es : List Expr} {ma : Res (α × List ι)} {mr : List ι → Res (τ × List ι)} (he : PE X e (tE true F L p xs O ma)) (hr : ∀ xs', PA X es (tEA true F L p xs' O (mr xs'))) (hs : starEach (e :: es) X.env = (false, eval e X.env) :: starEach es X.env := by rfl) :
    PA X (e :: es) (tEA true F L p xs O (ma.bind fun u => (mr u.2).bind fun w => .ok (Ar.mk u.1 w.1, w.2))) := pa_imp (pa_cons he (pa_ex hr) hs) fun σ H Q ⟨g, q⟩ => by
  rw [out_bind] at q
  refine ⟨g, q.mono (fun u qx v1 H1 g1 s1 r1 => ?_) fun _ z => z⟩
  rw [out_bind] at qx
  refine ⟨u.2, g1, qx.mono (fun w qy v2 H2 g2 s2 r2 => ?_) fun _ z => z⟩
  exact qy _ H2 g2 (s1.trans s2) ⟨v1, v2, rfl, Flat.iff.mpr (Flat.iff.mp r1), r2⟩
/-- a pure argument, whose value stands outside the list -/
theorem ea_consP {e : Expr} {es : List Expr} {ma : Res α} {mr : Res (τ × List ι)} (hO : List.Sublist F.O0 (ow F.K F.mg p xs :: O)) (he : PE X e (tP true F L (ow F.K F.mg p xs :: O) ma)) (hr : PA X es (tEA true F L p xs O mr)) (hs : starEach (e :: es) X.env = (false, eval e X.env) :: starEach es X.env := by rfl) :
    PA X (e :: es) (tEA true F L p xs O (ma.bind fun u => mr.bind fun w => .ok (Ar.mk u w.1, w.2))) := pa_imp (pa_cons he hr hs) fun σ H Q ⟨g, q⟩ => by
  rw [out_bind] at q
  refine ⟨g, q.mono (fun u qx v1 H1 g1 s1 r1 => ?_) fun H' ⟨a, _⟩ => a.go.sub hO⟩
  rw [out_bind] at qx
  refine ⟨g1, qx.mono (fun w qy v2 H2 g2 s2 r2 => ?_) fun _ z => z⟩
  refine qy _ H2 g2 ((KeepBut.of s1).trans s2) ⟨v1, v2, rfl, Rep.mono (fun a o z => ?_) r1, r2⟩
  have hb : a ∉ addrs (ow F.K F.mg p xs :: O) ++ F.A := fun y => by
    have z' : less H1 _ a = some o := z
    rw [less_in y] at z'
    cases z'
  have z' : less H1 (addrs (ow F.K F.mg p xs :: O) ++ F.A) a = some o := z
  rw [less_out hb] at z'
  show less H2 (addrs (ow F.K F.mg p w.2 :: O) ++ F.A) a = some o
  rw [less_out (show a ∉ addrs (ow F.K F.mg p w.2 :: O) ++ F.A from hb)]
  exact s2 _ _ z' (fun y => hb (by rw [y]; exact List.mem_append_left _ List.mem_cons_self))
/-- f(pool, ..) -/
theorem e_call {mir : List ι → τ → Res (ρ × List ι)} {m : Res (τ × List ι)} (i : Nat) (D : DefAt X.prog X.w X.K X.mg X.base CX0 k x ps (spI X.K X.mg mir)) (hr : Room k X.A) (hL : L[i]? = some (rf p)) (ha : PA X es (tEA true F L p xs O m)) (hg : Gl X x := by rfl) (hE : F.E = E0 := by rfl) (hO0 : F.O0 = [] := by rfl) (hK : X.K = F.K := by rfl) (hM : X.mg = F.mg := by rfl) (hd : (x == ("__debug__" : Str)) = false := by decide)
    (hN : X.N[i]? = some y := by rfl) (hv : Vis X.env.scope y := by first | exact Or.inl rfl | exact Or.inr (Or.inl rfl) | exact Or.inr (Or.inr rfl)) (hd2 : (y == ("__debug__" : Str)) = false := by decide) (hcd : (y == ("__classdict__" : Str)) = false := by decide)
    (hs : starEach (.Name y p2 :: es) X.env = (false, eval (.Name y p2) X.env) :: starEach es X.env := by rfl) (hs2 : ((backTo pos (starEach es X.env)).any fun x => x.fst) = false := by rfl) : PE X (.Call (.Name x p1) (.Name y p2 :: es) [] pos) (tE true F L p xs O (m.bind fun u => mir u.2 u.1)) := by
  obtain ⟨f, fd, h1, h2, h3, h4⟩ := D.ex
  refine pe_imp (pe_call h1 hr hg h2 h3 h4 .nil pass0 (pa_cons (pe_var hN hv hd2 hcd) ha hs) hd hs hs2) fun σ H Q ⟨g, q⟩ => ?_
  rw [out_bind] at q
  obtain ⟨w, h5, h6⟩ := g.slot hL
  refine ⟨w, h5, g, q.mono (fun u qa vs H1 g1 s1 r1 => ?_) fun _ z => z⟩
  obtain ⟨ws, h7, h8⟩ := g1.head
  have e1 : w = V.ref p := h6
  subst e1
  show spI X.K X.mg mir ((V.ref p :: vs) ++ []) H1 Q E0
  rw [List.append_nil, hK, hM]
  have hmem : ∀ a ∈ addrs O ++ F.A, H1 a ≠ none := fun a ha z => g1.go.out z (List.mem_cons_of_mem _ ha)
  have hpn : p ∉ addrs O ++ F.A := fun z => by
    rcases List.mem_append.mp z with z | z
    · exact (List.nodup_cons.mp (show (p :: addrs O).Nodup from g1.go.nd)).1 z
    · exact g1.go.apart _ List.mem_cons_self z
  refine ⟨p, u.1, addrs O ++ F.A, u.2, vs, ws, hmem, hpn, rfl, r1, h7, h8, ?_⟩
  have back : ∀ {H' : Hp} {ys : List ι} {ws' : List V}, KeepBut p H1 H' → H' p = some (.lst ws') → Reps F.K F.mg (less H' (p :: (addrs O ++ F.A))) ws' ys → G F L (ow F.K F.mg p ys :: O) σ H' := fun {H' ys ws'} kb hp' rr => by
    have er : Same (rg F (ow F.K F.mg p u.2 :: O) H1) (rg F (ow F.K F.mg p ys :: O) H') := fun a o z => by
      have hb : a ∉ addrs (ow F.K F.mg p u.2 :: O) ++ F.A := fun y => by unfold rg at z; rw [less_in y] at z; cases z
      unfold rg at z ⊢
      rw [less_out hb] at z
      rw [less_out (show a ∉ addrs (ow F.K F.mg p ys :: O) ++ F.A from hb)]
      exact kb _ _ z (fun y => hb (by rw [y]; exact List.mem_append_left _ List.mem_cons_self))
    refine ⟨L2.Paired.mapP g1.slots fun _ _ z => z.mono er, ?_⟩
    exact {
      objs := fun w hw => by
        rcases List.mem_cons.mp hw with rfl | hw
        · exact ⟨_, hp', ws', rfl, rr⟩
        · obtain ⟨o, ho, q⟩ := g1.go.objs w (List.mem_cons_of_mem _ hw)
          exact ⟨o, kb _ _ ho (fun y => hpn (by rw [← y]; exact List.mem_append_left _ (List.mem_map.mpr ⟨w, hw, rfl⟩))), w.mono er q⟩
      nd := g1.go.nd
      own := fun w hw => by
        rcases List.mem_cons.mp hw with rfl | hw
        · exact g1.go.own (ow F.K F.mg p u.2) List.mem_cons_self
        · exact g1.go.own w (List.mem_cons_of_mem _ hw)
      keep := fun a o h hw => by
        refine kb _ _ (g1.go.keep a o h hw) fun y => ?_
        subst y
        rcases g1.go.own _ List.mem_cons_self with z | z
        · exact hw z
        · have z' : F.H0 a = none := z
          rw [z'] at h; cases h
      live := fun a h => by
        by_cases hne : a = p
        · subst hne; rw [hp']; simp
        · cases z : H1 a with
          | none => exact (g1.go.live a h z).elim
          | some o => rw [kb _ _ z hne]; simp
      hid := g1.go.hid
      apart := fun w hw => by
        rcases List.mem_cons.mp hw with rfl | hw
        · exact g1.go.apart (ow F.K F.mg p u.2) List.mem_cons_self
        · exact g1.go.apart w (List.mem_cons_of_mem _ hw)
      facts := fun z hz => z.mono er (g1.go.facts z hz) }
  cases e : mir u.2 u.1 with
  | ok r =>
    rw [e] at qa
    exact fun v H' ws' kb h9 h10 h11 => qa v H' (back kb h9 h10) (s1.trans kb) h11
  | err c fs =>
    rw [e] at qa
    rw [← hE]
    exact fun C d H' h9 h10 h12 => qa C d H' h9 (h10.older g1.go.live) (by
      rw [XPS, hO0]
      exact {
        objs := fun _ h => (List.not_mem_nil h).elim
        nd := List.nodup_nil
        own := fun _ h => (List.not_mem_nil h).elim
        keep := fun a o h hw => by
          have hne : a ≠ p := fun y => by
            subst y
            rcases g1.go.own _ List.mem_cons_self with z | z
            · exact hw z
            · have z' : F.H0 a = none := z
              rw [z'] at h; cases h
          exact h12.keep a o (g1.go.keep a o h hw) (fun z => hne (List.mem_singleton.mp z))
        live := fun a h => h12.live a (g1.go.live a h)
        hid := g1.go.hid
        apart := fun _ h => (List.not_mem_nil h).elim
        facts := fun z hz => z.mono (fun a o y => by
          have hb : a ∉ addrs (ow F.K F.mg p u.2 :: O) ++ F.A := fun y' => by unfold rg at y; rw [less_in y'] at y; cases y
          unfold rg at y ⊢
          rw [less_out hb] at y
          rw [show addrs ([] : List Own) ++ F.A = F.A from rfl, less_out (fun y' => hb (List.mem_append_right _ y'))]
          exact h12.keep a o y (fun z => hb (by rw [List.mem_singleton.mp z]; exact List.mem_append_left _ List.mem_cons_self))) (g1.go.facts z hz) })
  | bad =>
    rw [e] at qa
    exact qa.elim
/-! handing back from a def that changes p -/
theorem b_retI {m : Res ρ} {e : Expr} {pos : Pos} (he : PE X e (tP true F L O m)) (hO1 : List.Sublist [ow F.K F.mg p xs] O) (hO : List.Sublist F.O0 O) : PSs X [.Return (some e) pos] (tT F L O (m.bind fun a => .ok (a, xs)) (rI F p)) := pss_one (ps_imp (ps_ret he) fun D σ H ⟨g, q⟩ => by
  rw [out_bind] at q
  exact ⟨g, q.mono (fun a k v H1 g1 s1 r1 => k v H1 ⟨g1.go.sub hO1, Rep.mono (rg_sub hO1) r1⟩) fun H' ⟨a, _⟩ => a.go.sub hO⟩)
theorem b_retE {m : Res (ρ × List ι)} {e : Expr} {pos : Pos} (he : PE X e (tE true F L p xs O m)) : PSs X [.Return (some e) pos] (tT F L (ow F.K F.mg p xs :: O) m (rI F p)) := pss_one (ps_imp (ps_ret he) fun D σ H ⟨g, q⟩ =>
  ⟨g, q.mono (fun r k v H1 g1 s1 r1 => k v H1 ⟨g1.go.sub (.cons₂ _ (List.nil_sublist _)), Rep.mono (rg_sub (.cons₂ _ (List.nil_sublist _))) r1⟩) fun _ z => z⟩)
/-- an owned list (at q) handed back as a value -/
theorem b_retOI {as : List α} {q : Addr} {z : Str} {pos' pos : Pos} (i : Nat) (hL : L[i]? = some (rf q)) (hm : ow F.K F.mg q as ∈ O) (hO1 : List.Sublist [ow F.K F.mg p xs] O) (hne : (ow F.K F.mg p xs :: ow F.K F.mg q as :: []).Sublist O ∨ (ow F.K F.mg q as :: ow F.K F.mg p xs :: []).Sublist O) (hO : List.Sublist F.O0 O) (hN : X.N[i]? = some z := by rfl) (hv : Vis X.env.scope z := by first | exact Or.inl rfl | exact Or.inr (Or.inl rfl) | exact Or.inr (Or.inr rfl)) (hd : (z == ("__debug__" : Str)) = false := by decide)
    (hcd : (z == ("__classdict__" : Str)) = false := by decide) : PSs X [.Return (some (.Name z pos')) pos] (tT F L O (.ok (as, xs)) (rI F p)) := pss_one (ps_imp (ps_ret (pe_var hN hv hd hcd)) fun D σ H ⟨g, k⟩ => by
  obtain ⟨v, h1, h2⟩ := g.slot hL
  obtain ⟨o, h3, vs, h4, h5⟩ := g.go.objs _ hm
  subst h4
  refine ⟨v, h1, k v H ⟨g.go.sub hO1, q, vs, h2, ?_, h5.mono (rg_sub hO1)⟩⟩
  have nq : q ≠ p := by
    rcases hne with hne | hne
    · have nd := g.go.nd.sublist (hne.map Own.a)
      have nd' : [p, q].Nodup := nd
      intro e
      subst e
      simp at nd'
    · have nd := g.go.nd.sublist (hne.map Own.a)
      have nd' : [q, p].Nodup := nd
      intro e
      subst e
      simp at nd'
  show less H _ q = some (.lst vs)
  rw [less_out]
  · exact h3
  · intro y
    rcases List.mem_cons.mp (show q ∈ p :: F.A from y) with y | y
    · exact nq y
    · exact g.go.apart _ hm y)
end
end NF

set_option Elab.async false
set_option linter.all false
set_option maxRecDepth 100000
/-! Nf11: the operators that change the list; further statements. -/
namespace NF
open PySem PySem.Spec PyProof.Rows L2
open Data (toD)
section
variable {X : Cx} {F : Fr} {L : List (Option Asr)} {p : Addr} {O : List Own} {α β γ ι s : Type} [Rep α] [Rep β] [Rep γ] [Rep ι] [Rep s] {xs : List ι}
section
variable {x y : Expr} {pos : Pos} {b1 b2 b3 : Bool} {ma : Res (Int × List ι)} {mb : List ι → Res (Int × List ι)}
variable (hx : PE X x (tE b1 F L p xs O ma)) (hy : ∀ xs', PE X y (tE b2 F L p xs' O (mb xs'))) (hO : ∀ xs' : List ι, List.Sublist F.O0 (ow F.K F.mg p xs' :: O))
include hx hy hO
theorem e_add : PE X (.BinOp x .Add y pos) (tE b3 F L p xs O (ma.bind fun u => (mb u.2).bind fun w => .ok (u.1 + w.1, w.2))) := ne2 (pe_op op_add) hx hy (fun _ => rr_I0 (g := fun x y => x + y)) hO
theorem e_sub : PE X (.BinOp x .Sub y pos) (tE b3 F L p xs O (ma.bind fun u => (mb u.2).bind fun w => .ok (u.1 - w.1, w.2))) := ne2 (pe_op op_sub) hx hy (fun _ => rr_I0 (g := fun x y => x - y)) hO
theorem e_mul : PE X (.BinOp x .Mult y pos) (tE b3 F L p xs O (ma.bind fun u => (mb u.2).bind fun w => (need (CMul u.1 w.1) (.ok (u.1 * w.1))).bind fun z => .ok (z, w.2))) := ne2 (pe_op op_mul) hx hy (fun _ => rr_I (g := fun x y => x * y)) hO
theorem e_mod : PE X (.BinOp x .Mod y pos) (tE b3 F L p xs O (ma.bind fun u => (mb u.2).bind fun w => (need (0 < w.1) (.ok (u.1 % w.1))).bind fun z => .ok (z, w.2))) := ne2 (pe_op op_mod) hx hy (fun _ => rr_I (C := fun _ y => 0 < y) (g := fun x y => x % y)) hO
theorem e_fdiv : PE X (.BinOp x .FloorDiv y pos) (tE b3 F L p xs O (ma.bind fun u => (mb u.2).bind fun w => (need (CDiv u.1 w.1) (.ok (u.1 / w.1))).bind fun z => .ok (z, w.2))) := ne2 (pe_op op_fdiv) hx hy (fun _ => rr_I (g := fun x y => x / y)) hO
theorem et_eq : PT X (.Compare x [.Eq] [y] pos) (tEB F L p xs O (ma.bind fun u => (mb u.2).bind fun w => .ok (decide (u.1 = w.1), w.2))) := ne2t (mc := fun x y => .ok (decide (x = y))) (fun h1 h2 => pt_cmpR op_eq h1 h2 (nomark _)) hx hy (fun _ x y vx vy H σ Q g rx ry q => by
  cases rx; cases ry
  exact ⟨rfl, by rw [show decide (V.int x = V.int y) = decide (x = y) by simp]; exact kp_flat g q⟩) hO
theorem et_ne : PT X (.Compare x [.NotEq] [y] pos) (tEB F L p xs O (ma.bind fun u => (mb u.2).bind fun w => .ok (!decide (u.1 = w.1), w.2))) := ne2t (mc := fun x y => .ok (!decide (x = y))) (fun h1 h2 => pt_cmpR op_ne h1 h2 (nomark _)) hx hy (fun _ x y vx vy H σ Q g rx ry q => by
  cases rx; cases ry
  exact ⟨rfl, by rw [show decide (V.int x = V.int y) = decide (x = y) by simp]; exact kp_flat g q⟩) hO
theorem et_lt : PT X (.Compare x [.Lt] [y] pos) (tEB F L p xs O (ma.bind fun u => (mb u.2).bind fun w => .ok (decide (u.1 < w.1), w.2))) := ne2t (mc := fun x y => .ok (decide (x < y))) (fun h1 h2 => pt_cmpR op_lt h1 h2 (nomark _)) hx hy (fun _ => rr_I0 (g := fun x y => decide (x < y))) hO
theorem et_gt : PT X (.Compare x [.Gt] [y] pos) (tEB F L p xs O (ma.bind fun u => (mb u.2).bind fun w => .ok (decide (w.1 < u.1), w.2))) := ne2t (mc := fun x y => .ok (decide (y < x))) (fun h1 h2 => pt_cmpR op_gt h1 h2 (nomark _)) hx hy (fun _ => rr_I0 (g := fun x y => decide (y < x))) hO
end
theorem ec2 [Flat α] [Flat β] {e : Expr} {b1 b2 b3 : Bool} {r : List V → Hp → VK → Prop} {ma : Res (α × List ι)} {mb : List ι → Res (β × List ι)} {mc : α → β → Res γ} {t1 t2 : TE}
    (h : PE X e (tCB r (tCons (tE b1 F L p xs O ma) (tCons (fun σ H Q => ∃ xs', tE b2 F L p xs' O (mb xs') σ H Q) tNil))))
    (hr : ∀ xs' : List ι, ∀ x y vx vy H σ Q, G F L (ow F.K F.mg p xs' :: O) σ H → rp F (rgn true F (ow F.K F.mg p xs' :: O) H) vx x → rp F (rgn true F (ow F.K F.mg p xs' :: O) H) vy y → Out F (mc x y) (KP γ b3 F L (ow F.K F.mg p xs' :: O) σ H Q) (XP F L (ow F.K F.mg p xs' :: O) σ H) → r [vx, vy] H Q) (hO : ∀ xs' : List ι, List.Sublist F.O0 (ow F.K F.mg p xs' :: O)) :
    PE X e (tE b3 F L p xs O (ma.bind fun u => (mb u.2).bind fun w => (mc u.1 w.1).bind fun z => .ok (z, w.2))) := pe_imp h fun σ H Q ⟨g, q⟩ => by
  rw [out_bind] at q
  refine ⟨g, q.mono (fun u qx v1 H1 g1 s1 r1 => ?_) fun _ z => z⟩
  rw [out_bind] at qx
  refine ⟨u.2, g1, qx.mono (fun w qy v2 H2 g2 s2 r2 => ?_) fun _ z => z⟩
  rw [out_bind] at qy
  exact hr w.2 u.1 w.1 v1 v2 H2 σ Q g2 (Flat.iff.mpr (Flat.iff.mp r1)) (Flat.iff.mpr (Flat.iff.mp r2)) (qy.mono (fun z kz v H' g' s' r' => kz v H' g' ((s1.trans s2).trans (.of s')) r') fun H' ⟨a, b⟩ => a.go.sub (hO _))
/-- int(e), e an int -/
theorem e_int1 {e : Expr} {b1 b3 : Bool} {m : Res (Int × List ι)} {es} (h : PE X e (tCB es (tCons (tE b1 F L p xs O m) tNil))) (er : es = fun xs H Q => (∃ i, xs = [V.int i] ∧ Q (.int i) H) ∨ ∃ k, xs = [V.bl k] ∧ Q (.int (if k then 1 else 0)) H) (hO : ∀ xs' : List ι, List.Sublist F.O0 (ow F.K F.mg p xs' :: O)) : PE X e (tE b3 F L p xs O (m.bind fun u => .ok (u.1, u.2))) := ec1 (mc := fun i => .ok i) h (fun xs' x vx H σ Q g rx q => by
  subst er; cases rx; exact .inl ⟨x, rfl, kp_flat (α := Int) g q⟩) hO
theorem e_max2 {e : Expr} {b1 b2 b3 : Bool} {ma : Res (Int × List ι)} {mb : List ι → Res (Int × List ι)} {es} (h : PE X e (tCB es (tCons (tE b1 F L p xs O ma) (tCons (fun σ H Q => ∃ xs', tE b2 F L p xs' O (mb xs') σ H Q) tNil)))) (er : es = fun xs H Q => ∃ i j, xs = [V.int i, V.int j] ∧ Q (.int (if j > i then j else i)) H) (hO : ∀ xs' : List ι, List.Sublist F.O0 (ow F.K F.mg p xs' :: O)) : PE X e (tE b3 F L p xs O (ma.bind fun u => (mb u.2).bind fun w => .ok (if w.1 > u.1 then w.1 else u.1, w.2))) := ec2 (mc := fun i j => .ok (if j > i then j else i)) (t1 := tC .non) (t2 := tC .non) h (fun xs' x y vx vy H σ Q g rx ry q => by
  subst er; cases rx; cases ry; exact ⟨x, y, rfl, kp_flat (α := Int) g q⟩) hO
theorem e_min2 {e : Expr} {b1 b2 b3 : Bool} {ma : Res (Int × List ι)} {mb : List ι → Res (Int × List ι)} {es} (h : PE X e (tCB es (tCons (tE b1 F L p xs O ma) (tCons (fun σ H Q => ∃ xs', tE b2 F L p xs' O (mb xs') σ H Q) tNil)))) (er : es = fun xs H Q => ∃ i j, xs = [V.int i, V.int j] ∧ Q (.int (if j < i then j else i)) H) (hO : ∀ xs' : List ι, List.Sublist F.O0 (ow F.K F.mg p xs' :: O)) : PE X e (tE b3 F L p xs O (ma.bind fun u => (mb u.2).bind fun w => .ok (if w.1 < u.1 then w.1 else u.1, w.2))) := ec2 (mc := fun i j => .ok (if j < i then j else i)) (t1 := tC .non) (t2 := tC .non) h (fun xs' x y vx vy H σ Q g rx ry q => by
  subst er; cases rx; cases ry; exact ⟨x, y, rfl, kp_flat (α := Int) g q⟩) hO
theorem ew_and1 {x : Expr} {pos : Pos} {m : Res (Bool × List ι)} (h : PT X x (tEB F L p xs O m)) : PW X (.BoolOp .And [x] pos) (tEB F L p xs O m) := pw_and1 h
theorem ew_or1 {x : Expr} {pos : Pos} {m : Res (Bool × List ι)} (h : PT X x (tEB F L p xs O m)) : PW X (.BoolOp .Or [x] pos) (tEB F L p xs O m) := pw_or1 h
/-! ifs whose tests change the list -/
section
variable {D' B : Type} {Ret : D' → V → Hp → Prop} {c : Expr} {mc : Res (Bool × List ι)} {body orelse rest : List Stmt} {pos : Pos} {L' : B → List (Option Asr)} {O' : B → List Own}
theorem be_if {m1 m2 : List ι → Res D'} (hc : PT X c (tEB F L p xs O mc)) (hb : ∀ xs', PSs X body (tT F L (ow F.K F.mg p xs' :: O) (m1 xs') Ret)) (hr : ∀ xs', PSs X rest (tT F L (ow F.K F.mg p xs' :: O) (m2 xs') Ret)) : PSs X (.If c body [] pos :: rest) (tT F L (ow F.K F.mg p xs :: O) (mc.bind fun u => if u.1 then m1 u.2 else m2 u.2) Ret) := pss_imp (pss_cons (ps_if hc (pss_ex hb) pss_nil) (pss_ex hr)) fun D σ H ⟨g, q⟩ => by
  rw [out_bind] at q
  refine ⟨g, q.mono (fun u k H1 g1 s1 => ?_) fun _ z => z⟩
  cases hu : u.1 with
  | true => rw [hu] at k; exact ⟨u.2, g1, k⟩
  | false => rw [hu] at k; exact ⟨u.2, g1, k⟩
theorem se_if {m1 m2 : List ι → Res B} (sp : Sp2 L' O') (hc : PT X c (tEB F L p xs O mc)) (hb : ∀ xs', PSs X body (tN F L (ow F.K F.mg p xs' :: O) (m1 xs') L' O')) (hr : ∀ xs', PSs X orelse (tN F L (ow F.K F.mg p xs' :: O) (m2 xs') L' O')) : PS X (.If c body orelse pos) (tN F L (ow F.K F.mg p xs :: O) (mc.bind fun u => if u.1 then m1 u.2 else m2 u.2) L' O') := ps_imp (ps_if hc (pss_ex hb) (pss_ex hr)) fun D σ H ⟨g, q⟩ => by
  rw [out_bind] at q
  refine ⟨g, q.mono (fun u k H1 g1 s1 => ?_) fun _ z => z⟩
  cases hu : u.1 with
  | true => rw [hu] at k; exact ⟨u.2, g1, k⟩
  | false => rw [hu] at k; exact ⟨u.2, g1, k⟩
theorem s_ifS {m1 m2 : Res B} {mc : Res Bool} {O : List Own} (sp : Sp2 L' O') (hc : PT X c (tB' F L O mc)) (hb : PSs X body (tN F L O m1 L' O')) (hr : PSs X orelse (tN F L O m2 L' O')) (hO : List.Sublist F.O0 O) : PS X (.If c body orelse pos) (tN F L O (mc.bind fun c => if c then m1 else m2) L' O') := s_if hc hb hr hO
end
/-! coercions -/
theorem n_sql {e : Expr} {b : Bool} {m : Res (List α)} (h : PE X e (tP b F L O m)) : PE X e (tP b F L O (m.bind fun x => .ok (Sq.l x))) := pe_imp h fun σ H Q ⟨g, q⟩ => by
  rw [out_bind] at q
  exact ⟨g, q.mono (fun a k v H1 g1 s1 r1 => k v H1 g1 s1 r1) fun _ z => z⟩
theorem n_sqt {e : Expr} {b : Bool} {m : Res (Tp α)} (h : PE X e (tP b F L O m)) : PE X e (tP b F L O (m.bind fun x => .ok (Sq.t x.xs))) := pe_imp h fun σ H Q ⟨g, q⟩ => by
  rw [out_bind] at q
  exact ⟨g, q.mono (fun a k v H1 g1 s1 r1 => k v H1 g1 s1 r1) fun _ z => z⟩
theorem n_toD [Data α] {e : Expr} {b : Bool} {m : Res α} (h : PE X e (tP b F L O m)) : PE X e (tP b F L O (m.bind fun x => .ok (toD x))) := pe_imp h fun σ H Q ⟨g, q⟩ => by
  rw [out_bind] at q
  exact ⟨g, q.mono (fun a k v H1 g1 s1 r1 => k v H1 g1 s1 (Data.dp r1)) fun _ z => z⟩
/-- a, b = e -/
theorem s_unp {x y : Str} {e : Expr} {px py pt pos : Pos} {kk : Nat} (i j : Nat) (hij : i ≠ j) [Flat α] [Flat β] (hc : X.calm = true) (hN : X.N.Nodup) (hO : List.Sublist F.O0 O) {b : Bool} {m : Res (α × β)} (he : PE X e (tP b F L O m))
    (hi : X.N[i]? = some x := by rfl) (hj : X.N[j]? = some y := by rfl) (hx : L2.Loc X.env.scope x := by first | exact .inl rfl | exact .inr rfl) (hy : L2.Loc X.env.scope y := by first | exact .inl rfl | exact .inr rfl)
    (hf : X.fn x = true ∨ X.env.scope.names.lookup x = some .local := by first | exact .inl rfl | exact .inr rfl) (hf2 : X.fn y = true ∨ X.env.scope.names.lookup y = some .local := by first | exact .inl rfl | exact .inr rfl) (hK : X.K = F.K := by rfl)
    (h1 : (assignEach [.Name x px, .Name y py] X.env).map (·.2) = assign (.Name x px) X.env :: (assignEach [.Name y py] X.env).map (·.2) := by rfl) (h2 : (assignEach [.Name y py] X.env).map (·.2) = assign (.Name y py) X.env :: (assignEach [] X.env).map (·.2) := by rfl)
    (hn : (assignEach [.Name x px, .Name y py] X.env).length = 2 := by rfl) (hst : (assignEach [.Name x px, .Name y py] X.env).findIdx? (·.1) = none := by rfl)
    (hs : swapsWithSole [.Tuple [.Name x px, .Name y py] kk pt] e pos.line X.env = pure false := by rfl) (hw : swappedStores [.Tuple [.Name x px, .Name y py] kk pt] e X.env = pure none := by rfl) (h3 : (assignEach [.Tuple [.Name x px, .Name y py] kk pt] X.env).map (·.2) = [assign (.Tuple [.Name x px, .Name y py] kk pt) X.env] := by rfl) :
    PS X (.Assign [.Tuple [.Name x px, .Name y py] kk pt] e pos) (tN F L O m (fun ab => (L.set i (vl F.K F.mg ab.1)).set j (vl F.K F.mg ab.2)) (fun _ => O)) := ps_imp (ps_asg he (pg_tup hc (pgs_cons (pg_name hN hi hx hf) (pgs_cons (pg_name hN hj hy hf2) pgs_nil h2) h1) hn hst) hs hw h3) fun D σ H ⟨g, q⟩ =>
  ⟨g, q.mono (fun ab k v H1 g1 s1 r1 => by
    obtain ⟨p, v1, v2, rfl, h2, h3, h4⟩ := r1
    rw [hK]
    exact ⟨p, _, rfl, same_t rgn_sub h2, rfl, v1, _, rfl, v2, _, rfl, rfl, k _ _ ⟨set_ok (p := vl F.K F.mg ab.2) (Flat.iff.mpr (Flat.iff.mp h4)) j (set_ok (p := vl F.K F.mg ab.1) (Flat.iff.mpr (Flat.iff.mp h3)) i g1.slots), g1.go⟩⟩) fun H' ⟨a, _⟩ => a.go.sub hO⟩
/-- x op= e -/
theorem s_aug {x : Str} {e : Expr} {op : Operator} {pos pos' : Pos} {f : Int → Int → Int} (i : Nat) {a : Int} (hN : X.N.Nodup) (hO : List.Sublist F.O0 O) (hL : L[i]? = some (vl F.K F.mg a)) {b : Bool} {m : Res Int} (hop : PIp X op (ipI f)) (he : PE X e (tP b F L O m)) (hi : X.N[i]? = some x := by rfl) (hx : L2.Loc X.env.scope x := by first | exact .inl rfl | exact .inr rfl) (hf : X.fn x = true ∨ X.env.scope.names.lookup x = some .local := by first | exact .inl rfl | exact .inr rfl) :
    PS X (.AugAssign (.Name x pos') op e pos) (tN F L O (m.bind fun c => .ok (f a c)) (fun c => L.set i (vl F.K F.mg c)) (fun _ => O)) := ps_imp (ps_aug (i := i) hN hi hx he hop hf) fun D σ H ⟨g, q⟩ => by
  rw [out_bind] at q
  obtain ⟨w, h1, h2⟩ := g.slot hL
  have h2' : w = V.int a := h2
  exact ⟨w, h1, g, q.mono (fun c k v H1 g1 s1 r1 => ⟨a, c, h2', r1, k _ _ ⟨set_ok (p := vl F.K F.mg (f a c)) rfl i g1.slots, g1.go⟩⟩) fun H' ⟨a, _⟩ => a.go.sub hO⟩
/-- x.insert(i, e) -/
theorem s_ins {x : Str} {ie e : Expr} {pos pos1 pos2 cpos : Pos} (i : Nat) (hL : L[i]? = some (rf p)) {b : Bool} {mi : Res Int} {m : Res ι} (hO : List.Sublist F.O0 (ow F.K F.mg p xs :: O)) (hi : PE X ie (tP b F L (ow F.K F.mg p xs :: O) mi)) (he : PE X e (tP true F L (ow F.K F.mg p xs :: O) m))
    (h : ∀ {to : TE} {t : TA} {r : V → List V → Hp → VK → Prop}, MtR X "list.insert" r → PE X (.Name x pos1) to → PA X [ie, e] t → PE X (.Call (.Attribute (.Name x pos1) "insert" pos2) [ie, e] [] cpos) (tBM X.K "list" r to t)) (hs1 : starEach [ie, e] X.env = (false, eval ie X.env) :: starEach [e] X.env := by rfl) (hs2 : starEach [e] X.env = (false, eval e X.env) :: starEach [] X.env := by rfl)
    (hN : X.N[i]? = some x := by rfl) (hv : Vis X.env.scope x := by first | exact Or.inl rfl | exact Or.inr (Or.inl rfl) | exact Or.inr (Or.inr rfl)) (hd : (x == ("__debug__" : Str)) = false := by decide) (hcd : (x == ("__classdict__" : Str)) = false := by decide)
    (hs : swapsWith (.Call (.Attribute (.Name x pos1) "insert" pos2) [ie, e] [] cpos) none pos.line X.env = pure false := by rfl) :
    PS X (.Expr (.Call (.Attribute (.Name x pos1) "insert" pos2) [ie, e] [] cpos) pos) (tN F L (ow F.K F.mg p xs :: O) (mi.bind fun j => m.bind fun a => need (xs.length < sizeLine ∧ Ps63 j) (.ok (xs.take j.toNat ++ [a] ++ xs.drop j.toNat))) (fun _ => L) (fun ys => ow F.K F.mg p ys :: O)) := ps_imp (ps_expr (h mt_insert (pe_var hN hv hd hcd) (pa_cons hi (pa_cons he pa_nil hs2) hs1)) hs) fun D σ H ⟨g, q⟩ => by
  obtain ⟨w, h4, h5⟩ := g.slot hL
  obtain ⟨vs, h6, h7⟩ := g.head
  rw [out_bind] at q
  refine ⟨w, h4, ?_, g, q.mono (fun j k vj H1 g1 s1 r1 => ?_) fun H' ⟨a, _⟩ => a.go.sub hO⟩
  · rw [show w = V.ref p from h5]
    exact .inl ⟨rfl, _, .of h6⟩
  · rw [out_bind] at k
    refine ⟨g1, k.mono (fun a k v H2 g2 s2 r2 => ?_) fun H' ⟨a, _⟩ => a.go.sub hO⟩
    rw [out_need] at k
    obtain ⟨vs', h8, h9⟩ := g2.head
    have r1' : vj = V.int j := r1
    refine ⟨p, vs', j, v, h5, by rw [r1'], h8, by rw [h9.length]; exact k.1.1, k.1.2.1, k.1.2.2, ?_⟩
    exact k.2 σ _ (g_upd g2 (reps_append (reps_append (reps_take _ h9) (.cons r2 .nil)) (reps_drop _ h9))).1
/-- x.append(e), e changing the list at p, x the list at q -/
theorem s_appE {x : Str} {e : Expr} {pos pos1 pos2 cpos : Pos} {q : Addr} {ys : List α} (i : Nat) (hL : L[i]? = some (rf q)) {m : Res (α × List ι)} (hO : ∀ (xs' : List ι), List.Sublist F.O0 (ow F.K F.mg p xs' :: ow F.K F.mg q ys :: O)) (he : PE X e (tE true F L p xs (ow F.K F.mg q ys :: O) m))
    (h : ∀ {to : TE} {t : TA}, PE X (.Name x pos1) to → PA X [e] t → PE X (.Call (.Attribute (.Name x pos1) "append" pos2) [e] [] cpos) (tBM X.K "list" rAppend to t)) (hs1 : starEach [e] X.env = (false, eval e X.env) :: starEach [] X.env := by rfl)
    (hN : X.N[i]? = some x := by rfl) (hv : Vis X.env.scope x := by first | exact Or.inl rfl | exact Or.inr (Or.inl rfl) | exact Or.inr (Or.inr rfl)) (hd : (x == ("__debug__" : Str)) = false := by decide) (hcd : (x == ("__classdict__" : Str)) = false := by decide)
    (hs : swapsWith (.Call (.Attribute (.Name x pos1) "append" pos2) [e] [] cpos) none pos.line X.env = pure false := by rfl) :
    PS X (.Expr (.Call (.Attribute (.Name x pos1) "append" pos2) [e] [] cpos) pos) (tN F L (ow F.K F.mg p xs :: ow F.K F.mg q ys :: O) (m.bind fun u => need (ys.length < sizeLine) (.ok (ys ++ [u.1], u.2))) (fun _ => L) (fun z => ow F.K F.mg p z.2 :: ow F.K F.mg q z.1 :: O)) := ps_imp (ps_expr (h (pe_var hN hv hd hcd) (pa_cons he pa_nil hs1)) hs) fun D σ H ⟨g, q'⟩ => by
  obtain ⟨w, h4, h5⟩ := g.slot hL
  obtain ⟨o, h6, vs0, h60, h7⟩ := g.go.objs (ow F.K F.mg q ys) (List.mem_cons_of_mem _ List.mem_cons_self)
  subst h60
  rw [out_bind] at q'
  refine ⟨w, h4, ?_, g, q'.mono (fun u k v H1 g1 s1 r1 => ?_) fun _ z => z⟩
  · rw [show w = V.ref q from h5]
    exact .inl ⟨rfl, _, .of h6⟩
  · rw [out_need] at k
    have gp : G F L (ow F.K F.mg q ys :: ow F.K F.mg p u.2 :: O) σ H1 := g1.perm (List.Perm.swap _ _ _)
    obtain ⟨vs', h8, h9⟩ := gp.head
    refine ⟨q, vs', v, h5, rfl, h8, by rw [h9.length]; exact k.1, ?_⟩
    refine k.2 σ _ ((g_upd gp (reps_append h9 (.cons (Rep.mono (fun a o z => ?_) r1) .nil))).1.perm (List.Perm.swap _ _ _))
    have z' : less H1 (addrs (ow F.K F.mg p u.2 :: ow F.K F.mg q ys :: O) ++ F.A) a = some o := z
    show less H1 (addrs (ow F.K F.mg q ys :: ow F.K F.mg p u.2 :: O) ++ F.A) a = some o
    by_cases hb : a ∈ addrs (ow F.K F.mg p u.2 :: ow F.K F.mg q ys :: O) ++ F.A
    · rw [less_in hb] at z'; cases z'
    · rw [less_out hb] at z'
      rw [less_out]
      · exact z'
      · intro y
        apply hb
        rcases List.mem_append.mp y with y | y
        · refine List.mem_append_left _ ?_
          rcases List.mem_cons.mp y with y | y
          · rw [y]; exact List.mem_cons_of_mem _ List.mem_cons_self
          · rcases List.mem_cons.mp y with y | y
            · rw [y]; exact List.mem_cons_self
            · exact List.mem_cons_of_mem _ (List.mem_cons_of_mem _ y)
        · exact List.mem_append_right _ y
/-- xs.index(a), for ints -/
def indexR (xs : List Int) (a : Int) : Res Int := match xs.findIdx? (· == a) with
  | some j => .ok (j : Nat)
  | none => .bad
theorem n_index {o e : Expr} {apos cpos : Pos} {b1 b2 b3 : Bool} {m : Res (List Int)} {m2 : Res Int} (ho : PE X o (tP b1 F L O m)) (he : PE X e (tP b2 F L O m2))
    (h : ∀ {to : TE} {t : TA}, PE X o to → PA X [e] t → PE X (.Call (.Attribute o "index" apos) [e] [] cpos) (tBM X.K "list" (rIndex X.K) to t)) (hK : X.K = F.K := by rfl) (hs1 : starEach [e] X.env = (false, eval e X.env) :: starEach [] X.env := by rfl) :
    PE X (.Call (.Attribute o "index" apos) [e] [] cpos) (tP b3 F L O (m.bind fun xs => m2.bind fun a => indexR xs a)) := pe_imp (h ho (pa_cons he pa_nil hs1)) fun σ H Q ⟨g, q⟩ => by
  rw [out_bind] at q
  refine ⟨g, q.mono (fun xs k v H1 g1 s1 r1 => ?_) fun _ z => z⟩
  obtain ⟨p, vs, rfl, h2, h3⟩ := r1
  have e := reps_flat.mp h3
  subst e
  rw [out_bind] at k
  have h2' := rgn_sub _ _ h2
  refine ⟨.inl ⟨rfl, _, .of h2'⟩, g1, k.mono (fun a k2 v2 H2 g2 s2 r2 => ?_) fun H' ⟨a, b⟩ => ⟨a, s1.trans b⟩⟩
  unfold indexR at k2
  cases e : xs.findIdx? (· == a) with
  | none => rw [e] at k2; exact k2.elim
  | some j =>
    rw [e] at k2
    obtain ⟨hj, h4, h5⟩ := List.findIdx?_eq_some_iff_getElem.mp e
    rw [hK]
    have r2' : v2 = V.int a := r2
    subst r2'
    refine ⟨p, xs.map Flat.enc, V.int a, j, V.int xs[j], rfl, rfl, .of (s2 _ _ h2'), rfl, ?_, ?_, ?_, ?_, ?_⟩
    · rw [List.all_map]
      exact List.all_eq_true.mpr fun x _ => rfl
    · rw [List.getElem?_map, List.getElem?_eq_getElem hj]; rfl
    · have : xs[j] = a := by simpa using h4
      rw [this]
      simp [eqV]
    · intro m' z' hm hz
      rw [List.getElem?_map, List.getElem?_eq_getElem (Nat.lt_trans hm hj)] at hz
      cases hz
      have := h5 m' hm
      show (xs[m'] == a) = false
      simpa using this
    · exact k2 _ H2 g2 (s1.trans s2) rfl
end
/-- a frame with fewer facts -/
inductive FLe : Fr → Fr → Prop where
  | refl (F : Fr) : FLe F F
  | add {F F' : Fr} {z : Fact} : FLe F' F → FLe F' (F.add z)
theorem FLe.go {F F' : Fr} (h : FLe F' F) : ∀ {O : List Own} {H : Hp}, GO F O H → GO F' O H := by
  induction h with
  | refl => exact fun g => g
  | add _ ih => exact fun g => ih g.unadd
theorem FLe.eqs {F F' : Fr} (h : FLe F' F) : F'.K = F.K ∧ F'.mg = F.mg ∧ F'.A = F.A ∧ F'.H0 = F.H0 := by
  induction h with
  | refl => exact ⟨rfl, rfl, rfl, rfl⟩
  | add _ ih => exact ih
theorem FLe.rg {F F' : Fr} (h : FLe F' F) (O : List Own) (H : Hp) : NF.rg F' O H = NF.rg F O H := by
  unfold NF.rg; rw [h.eqs.2.2.1]
section
variable {F F' : Fr} {α ι : Type} [Rep α] [Rep ι]
theorem rV_le (h : FLe F' F) : ∀ (b : α) (v : V) (H : Hp), rV F b v H → rV F' b v H := fun b v H ⟨g, r⟩ => ⟨h.go g, by
  show Rep.rep F'.K F'.mg (NF.rg F' [] H) v b
  rw [h.rg, h.eqs.1, h.eqs.2.1]; exact r⟩
theorem rF_le (h : FLe F' F) : ∀ (b : List α) (v : V) (H : Hp), rF F b v H → rF F' b v H := fun b v H ⟨p, vs, e, g, h1, h2, h3, h4⟩ => ⟨p, vs, e, h.go g, by rw [h.eqs.2.2.2]; exact h1, by rw [h.eqs.2.2.1]; exact h2, h3, by
  rw [h.rg, h.eqs.1, h.eqs.2.1]; exact h4⟩
theorem rI_le {p : Addr} (h : FLe F' F) : ∀ (b : α × List ι) (v : V) (H : Hp), rI F p b v H → rI F' p b v H := fun b v H ⟨g, r⟩ => by
  have e1 := h.eqs.1
  have e2 := h.eqs.2.1
  have g' := h.go g
  have hr := h.rg [ow F.K F.mg p b.2] H
  refine ⟨by rw [e1, e2]; exact g', ?_⟩
  show Rep.rep F'.K F'.mg (NF.rg F' [ow F'.K F'.mg p b.2] H) v b.1
  rw [e1, e2, hr]
  exact r
end
theorem b_le {X : Cx} {F : Fr} {L : List (Option Asr)} {O : List Own} {D' : Type} {Ret Ret' : D' → V → Hp → Prop} {st : List Stmt} {m : Res D'} (i : ∀ b v H, Ret b v H → Ret' b v H) (h : PSs X st (tT F L O m Ret)) : PSs X st (tT F L O m Ret') := pss_imp h fun D σ H ⟨g, q⟩ => ⟨g, q.mono (fun b k v H' r => k v H' (i b v H' r)) fun _ z => z⟩
theorem tT_cast {X : Cx} {F : Fr} {L : List (Option Asr)} {O : List Own} {D' : Type} {Ret : D' → V → Hp → Prop} {st : List Stmt} {m m' : Res D'} (h : PSs X st (tT F L O m Ret)) (e : m = m') : PSs X st (tT F L O m' Ret) := e ▸ h
end NF

set_option Elab.async false
set_option linter.all false
set_option maxRecDepth 100000
/-! Nf12: exceptions: defs that raise, their calls, raise. -/
namespace NF
open PySem PySem.Spec PyProof.Rows L2
open Data (toD)
/-- what is raised here is let out as F wishes -/
def TkX (X : Cx) (F : Fr) (L : List (Option Asr)) (O : List Own) : Prop := ∃ W : WX, L2N.Takes X W ∧ ∀ c d σ H, F.E c d H → G F L O σ H → W c d σ H
theorem TkX.to {X : Cx} {F : Fr} {L L' : List (Option Asr)} {O O' : List Own} (t : TkX X F L' O') (h : wk L L') (ho : List.Sublist O' O) : TkX X F L O := by
  obtain ⟨W, tk, q⟩ := t
  exact ⟨W, tk, fun c d σ H e g => q c d σ H e (g.to h ho)⟩
theorem takes0N {X : Cx} : L2N.Takes X (fun _ _ _ _ => False) := fun _ _ x => by
  obtain ⟨_, _, _, _, _, _, _, _, _, _, _, _, _, _, _, _, z⟩ := x
  exact z.elim
section
variable {P : Program} {w : World} {K : PySem.W.Frag} {mg : Str → Option Value} {base : Heap} {τ ρ α : Type} [RepA τ] [Rep ρ] [Rep α]
variable {x qual : Str} {st : Stmt} {f : Addr} {fd : FuncData} {N ps : List Str} {k : Nat}
theorem def_XN {mir : τ → Res ρ} (Fu : Fun K x qual st f fd) (S : FnScope N ps (defScope st)) (L0 : τ → List (Option Asr)) (hl : ∀ (vs : List V) (R : Hp) (a : τ), RepA.rep K mg R vs a → vs.length = ps.length ∧ Paired (SlotOk R) (L0 a) (start N vs))
    (body : ∀ (cdv : Value) (A : Around) (outer : List Env) (s : Shared) (H : Hp) (Av : List Addr) (E : XK) (a : τ), Room k (A.deeper (envOfC qual (defScope st) s.heap.objs.size f cdv)) →
      (∀ L O, TkX (cxOf (L2N.CX P w) P w K mg base N qual (defScope st) f cdv A outer s H E) (F0 K mg H Av E) L O) →
      PSs (cxOf (L2N.CX P w) P w K mg base N qual (defScope st) f cdv A outer s H E) (defBody st) (tT (F0 K mg H Av E) (L0 a) [] (mir a) (rV (F0 K mg H Av E)))) :
    FnOk P w K mg base (L2N.CX P w) (k + 1) f fd ps (spX K mg mir) := by
  obtain ⟨oc, od, kV, doc, pm, an, cdv, ct, osl, rfl, lk, hcd⟩ := Fu.ex
  refine fn_of lk hcd S (fun vs H Q E ⟨a, A, _, h, _⟩ => (hl vs _ a h).1) fun A outer s H vs Q E hr ⟨a, Av, hA, h, q⟩ =>
    ⟨_, body cdv A outer s H Av E a hr fun L O => ⟨_, L2N.takes_of rfl rfl rfl rfl, fun c d σ H e _ => e⟩, ⟨(hl vs _ a h).2, go_start hA⟩, ?_⟩
  exact q.mono (fun r k v H' ⟨g, r'⟩ => k v H' (go_same g) r') fun H' g => go_same g
end
section
variable {X : Cx} {F : Fr} {L : List (Option Asr)} {O : List Own} {τ ρ α : Type} [RepA τ] [Rep ρ] [Rep α]
variable {k : Nat} {ps : List Str} {x : Str} {p1 pos : Pos} {e : Expr} {es : List Expr} {b : Bool}
theorem n_callX {mir : τ → Res ρ} {m : Res τ} (D : DefAt X.prog X.w X.K X.mg X.base (L2N.CX X.prog X.w) k x ps (spX X.K X.mg mir)) (hr : Room k X.A) (tk : TkX X F L O) (ha : PA X (e :: es) (tA b F L O m)) (hg : Gl X x := by rfl) (hK : X.K = F.K := by rfl) (hM : X.mg = F.mg := by rfl) (hd : (x == ("__debug__" : Str)) = false := by decide)
    (hs : starEach (e :: es) X.env = (false, eval e X.env) :: starEach es X.env := by rfl) (hs2 : ((backTo pos (starEach es X.env)).any fun x => x.fst) = false := by rfl) : PE X (.Call (.Name x p1) (e :: es) [] pos) (tP b F L O (m.bind mir)) := by
  obtain ⟨f, fd, h1, h2, h3, h4⟩ := D.ex
  obtain ⟨W, tk, hW⟩ := tk
  refine pe_imp (pe_callS (E := WE W) h1 hr hg h2 h3 h4 (fun σ => L2N.passAt tk σ) ha hd hs hs2) fun σ H Q ⟨g, q⟩ => ?_
  rw [out_bind] at q
  refine ⟨g, q.mono (fun a qa vs H1 g1 s1 r1 => ?_) fun _ z => z⟩
  refine ⟨a, avoid b F O, g1.go.avoided, by rw [hK, hM, ← rgn_avoid]; exact r1, ?_⟩
  rw [hK, hM]
  cases e : mir a with
  | ok r =>
    rw [e] at qa
    exact fun v H' s2 r2 => qa v H' (g1.grow s2) (s1.trans s2) (by rw [rgn_avoid]; exact r2)
  | err c fs =>
    rw [e] at qa
    exact fun C d H' h1 h2 h4 => hW _ _ _ _ (qa C d H' h1 (h2.older g1.go.live) ⟨g1.grow h4, s1.trans h4⟩) (g1.grow h4)
  | bad =>
    rw [e] at qa
    exact qa.elim
end
/-! ### raise -/
/-- the promise of an exception's __init__(self, y): self.f = y -/
def spO (C : Addr) (f : Str) : Sp := fun vs H Q _ => ∃ (a : Addr) (y : V), vs = [.ref a, y] ∧ H a = some (exo a C none) ∧ ∀ dx, H dx = none → dx ≠ a → Q .non (upd (upd H dx (exd dx [(f, y)])) a (exo a C (some dx)))
section
variable {P : Program} {w : World} {K : PySem.W.Frag} {mg : Str → Option Value} {base : Heap}
variable {qual y f sf : Str} {st : Stmt} {fI C : Addr} {fd : FuncData} {k : Nat} {p1 p2 p3 p4 : Pos}
theorem def_O (Fu : Fun K "__init__" qual st fI fd) (S : FnScope [sf, y] [sf, y] (defScope st)) (hb : defBody st = [.Assign [.Attribute (.Name sf p1) f p2] (.Name y p3) p4]) (T : OexC K C) (hno : PySem.W.findIn K (.ref C) f = some none)
    (hv1 : Vis (defScope st) sf) (hv2 : Vis (defScope st) y) (hd1 : (sf == ("__debug__" : Str)) = false) (hd2 : (y == ("__debug__" : Str)) = false) (hc1 : (sf == ("__classdict__" : Str)) = false) (hc2 : (y == ("__classdict__" : Str)) = false) :
    FnOk P w K mg base CX0 (k + 1) fI fd [sf, y] (spO C f) := by
  refine Fu.ok S (fun vs H Q E ⟨a, z, e, _⟩ => by rw [e]; rfl) fun cdv A outer s H vs Q E hr ⟨a, z, e, ha, q⟩ => ?_
  rw [hb]
  refine ⟨_, pss_one (ps_ost (pe_var (i := 0) rfl hv1 hd1 hc1) (pe_var (i := 1) rfl hv2 hd2 hc2)), ?_⟩
  subst e
  exact ⟨z, rfl, V.ref a, rfl, a, C, rfl, T, hno, .inl ⟨ha, q⟩⟩
end
end NF

set_option Elab.async false
set_option linter.all false
set_option maxRecDepth 100000
set_option maxHeartbeats 1000000
/-! Nf13: raise C(y). -/
namespace NF
open PySem PySem.Spec PyProof.Rows L2
open Data (toD)
/-- what the module says of an own error with one field -/
structure ErrAt (P : Program) (w : World) (K : Fg) (mg : MG) (base : Heap) (k : Nat) (x f : Str) : Prop where
  ex : ∃ (C fI : Addr) (fd : FuncData) (ps : List Str), mg x = some (.ref C) ∧ OexC K C ∧ PySem.W.findIn K (.ref C) "__init__" = some (some (.ref fI)) ∧ PySem.W.typeIn K (.ref fI) = some (.type "function") ∧ FnOk P w K mg base CX0 k fI fd ps (spO C f) ∧ Binds K fd ps []
section
variable {X : Cx} {e : Expr} {es : List Expr} {ta : TA} {p pos : Pos}
theorem pmkN_own {x : Str} {C fI : Addr} {k : Nat} {fd : FuncData} {ps : List Str} {sp : Sp} (T : OexC X.K C) (iC : PySem.W.findIn X.K (.ref C) "__init__" = some (some (.ref fI))) (tI : PySem.W.typeIn X.K (.ref fI) = some (.type "function"))
    (F1 : FnOk X.prog X.w X.K X.mg X.base CX0 k fI fd ps sp) (hr : Room (k + 1) X.A) (hb : Binds X.K fd ps []) (hg : Gl X x) (hm : X.mg x = some (.ref C)) (ha : PA X (e :: es) ta)
    (hdb : (x == ("__debug__" : Str)) = false := by decide) (he : starEach (e :: es) X.env = (false, eval e X.env) :: starEach es X.env := by rfl) (hpl : (backTo pos (starEach es X.env)).any (·.1) = false := by rfl) :
    L2N.PMk X (.Call (.Name x p) (e :: es) [] pos) (tMkO C sp [] ta) := by
  intro pins s σ H Q I h
  obtain ⟨_, _, _, _, bm, _, _, _, _, _, _, _, _, _, _, hC, hbm⟩ := T.cls
  refine wpAny_Call_Name_kw (ld_glob I hg hm ?_ hdb)
  refine PySem.W.callWith_K (h₀ := X.base) I.ok.mod.kin T.kC (thn (ha.run pos pins s σ H _ I h) fun us s1 ⟨vs, H1, I1, r1, hz, q1⟩ => ⟨I1.kIn, ?_⟩) he hpl
  show wpAny _ _ (call (.ref C) us) _ _ _
  obtain ⟨hp, g, dr, tk, os⟩ := s1
  generalize ea : hp.objs.size + 1 = a at *
  have hsz : hp.objs.size ≤ a := by omega
  have hq := q1 a (I1.hok.fresh hsz)
  rw [List.append_nil] at hq
  have kk : ∀ b o, hp.get? b = some o → ((hp.push (PySem.W.kdv_tup us)).push (PySem.HandSPX.excO C hp.objs.size)).get? b = some o := fun b o e => Heap.get?_push_of_some _ (Heap.get?_push_of_some _ e)
  have hget : ((hp.push (PySem.W.kdv_tup us)).push (PySem.HandSPX.excO C hp.objs.size)).get? a = some (PySem.HandSPX.excO C hp.objs.size) := by
    subst ea
    heap_get
  have I2 := I1.laid (t' := tk) (a := a) (o := exo a C none) (h' := (hp.push (PySem.W.kdv_tup us)).push (PySem.HandSPX.excO C hp.objs.size)) kk hsz (exo_ok hget)
  have r2 : Vals (V.ref a :: vs) (Value.ref a :: us) := .cons rfl r1
  have b2 := hb _ (Value.ref a :: us) I2.kIn (by rw [List.append_nil, ← F1.len _ _ _ _ hq]; exact r2.length.symm)
  rw [List.append_nil] at b2
  subst ea
  refine wpAny_call (PySem.HandSPX.call_own F.excBase_ValueError (fun Y => PySem.HandSPX.refsVE_contains Y bm hbm) (I1.kIn _ _ hC) (PySem.W.looks_findIn I1.kIn iC) (fun self => PySem.W.bind_fn I1.kIn self tI) (by rw [← Paired.length r1, sizeLine_eq]; omega)
    (codeAny_mono (F1.run _ X.stack _ _ ⟨_, []⟩ _ _ _ E0 (hr.make C us []) (I2.env0.make C us []) b2 r2 hq) fun r s' hq' => ?_))
  cases r with
  | error er => exact pass0 pins σ _ _ er s' I2 hq'
  | ok fl =>
    cases fl with
    | ret u =>
      obtain ⟨v, H2, os2, bare2, un2, hok2, rv, ev, d, fs, e1, e2, hd1, q2⟩ := hq'
      subst ev
      obtain ⟨h2, g2, d2, t2, os'⟩ := s'
      obtain ⟨t0, G, J, kG, ge, hoe, na⟩ := mk_end0 (d2 := d2) (t2 := t2) I1 hsz kk un2 hok2 os2 bare2 e1 e2 hd1
      exact ⟨rv, ⟨_, _, _, ⟨G, g2, d2, t2, os'⟩, _, .ref C, some d, rfl, J, kG, ge, hoe, ⟨rfl, rfl, fun vs hv => by cases hv; rfl⟩, rfl, rfl, na, rfl, bare2, raises_own T.exC T.tyC, q2⟩⟩
    | next => exact hq'.elim
    | brk => exact hq'.elim
    | cont => exact hq'.elim
variable {F : Fr} {L : List (Option Asr)} {O : List Own} {α D' : Type} [Rep α] [Data α] {Ret : D' → V → Hp → Prop} {k : Nat} {x f : Str} {pos2 : Pos}
/-- raise x(e) -/
theorem s_raise {m : Res α} (D : ErrAt X.prog X.w X.K X.mg X.base k x f) (hr : Room (k + 1) X.A) (hc : X.calm = true) (tk : TkX X F L O) (hO : List.Sublist F.O0 O) (he : PE X e (tP true F L O m)) (hg : Gl X x := by rfl) (hK : X.K = F.K := by rfl) (hM : X.mg = F.mg := by rfl) (hdb : (x == ("__debug__" : Str)) = false := by decide)
    (hs : starEach [e] X.env = (false, eval e X.env) :: starEach [] X.env := by rfl) (hpl : (backTo pos (starEach [] X.env)).any (·.1) = false := by rfl) :
    PS X (.Raise (some (.Call (.Name x p) [e] [] pos)) none pos2) (tT F L O (m.bind fun a => .err x [(f, toD a)]) Ret) := by
  obtain ⟨C, fI, fd, ps, hm, T, iC, tI, F1, hb⟩ := D.ex
  obtain ⟨W, tk, hW⟩ := tk
  refine ps_imp (L2N.ps_raise hc tk (pmkN_own T iC tI F1 hr hb hg hm (a_cons he a_nil hs) hdb hs hpl)) fun D σ H ⟨g, q⟩ => ?_
  rw [out_bind] at q
  refine ⟨g, ?_⟩
  rw [out_bind]
  refine q.mono (fun a k => ?_) fun H' ⟨a, _⟩ => a.go.sub hO
  show ∀ vs H', _
  intro vs H1 g1 s1 r1
  obtain ⟨v, ws, e1, r2, e2⟩ := r1
  cases e2
  subst e1
  refine ⟨by show 1 ≤ 1000; decide, fun a ha => ⟨a, v, rfl, upd_same, fun dx hdx hne => ⟨rfl, dx, [(f, v)], upd_same, ?_, ?_, ?_⟩⟩⟩
  · rw [upd_ne hne, upd_same]
  · rwa [upd_ne hne] at hdx
  · rw [upd_ne hne] at hdx
    have sm : Same H1 (upd (del (upd (upd (upd H1 a (exo a C none)) dx (exd dx [(f, v)])) a (exo a C (some dx))) a) dx (.xd [(f, v)])) := fun b o hbo => by
      have n1 : b ≠ a := fun z => by rw [z, ha] at hbo; cases hbo
      have n2 : b ≠ dx := fun z => by rw [z, hdx] at hbo; cases hbo
      rw [upd_ne n2, del_ne n1, upd_ne n1, upd_ne n2, upd_ne n1]
      exact hbo
    have g2 := g1.grow sm
    refine hW _ _ _ _ (k (C := C) (d := some dx) (H' := _) (hM ▸ hm) ⟨Decidable.byContradiction fun z => g1.go.live _ z hdx, _, upd_same, .cons ⟨rfl, ?_⟩ .nil⟩ (g2.go.sub hO)) g2
    exact Data.dp (Rep.mono sm (Rep.mono rgn_sub r2))
end
end NF

set_option Elab.async false
set_option linter.all false
set_option maxRecDepth 100000
set_option maxHeartbeats 1000000
/-! Nf14: try .. except C as e. -/
namespace NF
open PySem PySem.Spec PyProof.Rows L2
open Data (toD)
/-! flat fields -/
def encD : PyData → V
  | .int i => .int i
  | .bool b => .bl b
  | .str s => .str s
  | _ => .non
def flatD : PyData → Bool
  | .int _ => true
  | .bool _ => true
  | .str _ => true
  | .none => true
  | _ => false
theorem dp_flat {K : Fg} {H : Hp} {v : V} {d : PyData} (h : Dp K H v d) (f : flatD d = true) : v = encD d := by
  cases h with
  | non => rfl
  | bl b => rfl
  | int i => rfl
  | str x => rfl
  | lst _ _ => cases f
  | tup _ _ => cases f
theorem flat_dp {K : Fg} {H : Hp} : ∀ {d : PyData}, flatD d = true → Dp K H (encD d) d
  | .int i, _ => .int i
  | .bool b, _ => .bl b
  | .str s, _ => .str s
  | .none, _ => .non
def encF (fs : List (Str × PyData)) : List (Str × V) := fs.map fun p => (p.1, encD p.2)
theorem xd_flat {K : Fg} {H : Hp} : ∀ {vs : List (Str × V)} {fs : List (Str × PyData)}, XdOk K H vs fs → (fs.all fun p => flatD p.2) = true → vs = encF fs
  | [], [], _, _ => rfl
  | (a, v) :: vs, (b, d) :: fs, .cons h t, e => by
    obtain ⟨e1, e2⟩ := Bool.and_eq_true_iff.mp (show (flatD d && fs.all fun p => flatD p.2) = true from e)
    obtain ⟨h1, h2⟩ := h
    have h1' : a = b := h1
    subst h1'
    show (a, v) :: vs = (a, encD d) :: encF fs
    rw [show v = encD d from dp_flat h2 e1, xd_flat t e2]
def xdF (d : Option Addr) (fs : List (Str × PyData)) : Fact := ⟨fun H => match d with
  | none => fs = []
  | some d => H d = some (.xd (encF fs)), fun e h => by
  cases d with
  | none => exact h
  | some d => exact e _ _ h⟩
/-- the body, and what is done with an error of class x -/
def tryR {α : Type} (x : Str) (m : Res α) (h : List (Str × PyData) → Res α) : Res α := match m with
  | .ok a => .ok a
  | .err c fs => if c = x then need ((fs.all fun p => flatD p.2) = true) (h fs) else .bad
  | .bad => .bad
abbrev Ft (F : Fr) (E : XK) (O : List Own) : Fr := ⟨F.K, F.mg, F.H0, F.W, F.A, O, E, F.Z⟩
theorem go_ft {F : Fr} {E : XK} {O O' : List Own} {H : Hp} (g : GO F O' H) : GO (Ft F E O) O' H := ⟨g.objs, g.nd, g.own, g.keep, g.live, g.hid, g.apart, g.facts⟩
theorem go_tf {F : Fr} {E : XK} {O O' : List Own} {H : Hp} (g : GO (Ft F E O) O' H) : GO F O' H := ⟨g.objs, g.nd, g.own, g.keep, g.live, g.hid, g.apart, g.facts⟩
theorem g_ft {F : Fr} {E : XK} {L : List (Option Asr)} {O O' : List Own} {σ : L2.St} {H : Hp} (g : G F L O' σ H) : G (Ft F E O) L O' σ H := ⟨g.slots, go_ft g.go⟩
theorem g_tf {F : Fr} {E : XK} {L : List (Option Asr)} {O O' : List Own} {σ : L2.St} {H : Hp} (g : G (Ft F E O) L O' σ H) : G F L O' σ H := ⟨g.slots, go_tf g.go⟩
theorem paired_set {α β : Type} {R : α → β → Prop} {x : α} {y : β} (h : R x y) : ∀ {l : List α} {σ : List β} (i : Nat), Paired R l σ → Paired R (l.set i x) (σ.set i y)
  | _, _, _, .nil => .nil
  | _, _, 0, .cons _ t => .cons h t
  | _, _, n + 1, .cons q t => .cons q (paired_set h n t)
theorem pss_fact {X : Cx} {st : List Stmt} {p : Prop} {t : TS} (h : p → PSs X st t) : PSs X st (fun D σ H => p ∧ t D σ H) := ⟨fun pins s σ H D I ⟨b, q⟩ => (h b).run pins s σ H D I q⟩
/-- only lists are owned -/
def NoXd (O : List Own) : Prop := ∀ w ∈ O, ∀ H vs, ¬ w.P H (.xd vs)
theorem noxd_nil : NoXd [] := fun _ h => (List.not_mem_nil h).elim
theorem noxd_cons {α : Type} [Rep α] {K : Fg} {mg : MG} {p : Addr} {xs : List α} {O : List Own} (h : NoXd O) : NoXd (ow K mg p xs :: O) := fun w hw H vs z => by
  rcases List.mem_cons.mp hw with rfl | hw
  · obtain ⟨_, e, _⟩ := z
    cases e
  · exact h w hw H vs z
section
variable {X : Cx} {F : Fr} {L Lh : List (Option Asr)} {O : List Own} {B D' : Type} {Ret : D' → V → Hp → Prop} {L' : B → List (Option Asr)} {O' : B → List Own}
variable {x n : Str} {C : Addr} {body suite : List Stmt} {b₀ : Stmt} {np pos pos' : Pos}
theorem s_try {W0 : WX} {mb : Res (Sum B D')} {mh : List (Str × PyData) → Res (Sum B D')} (i : Nat) (hm : X.mg x = some (.ref C)) (hex : PySem.W.exmOne X.K (.ref C) (.ref C) = some true) (tk : L2N.Takes X W0) (hN : X.N.Nodup) (hno : NoXd O) (hO : List.Sublist F.O0 O)
    (hLi : ∀ b, (L' b).set i none = L' b)
    (hb : ∀ (E' : XK) (pn : List (Addr × Obj)) (xe : Value → Shared → Prop), TkX (X.tr pn xe) (Ft F E' O) Lh O → PSs (X.tr pn xe) body (tM (Ft F E' O) L O mb L' O' Ret))
    (hh : ∀ (a : Addr) (oe : Obj) (d : Option Addr) (pn : List (Addr × Obj)) (fs : List (Str × PyData)), L2N.Zn (.ref C) d oe → (∃ vs, oe.data = .fields vs) → PSs (X.suite a ((a, oe) :: pn)) (b₀ :: suite) (tM (F.add (xdF d fs)) (Lh.set i (rf a)) O (mh fs) L' O' Ret))
    (hi : X.N[i]? = some n := by rfl) (hln : X.env.kindOf n = some .local := by rfl) (hg : Gl X x := by rfl) (hdb : (x == ("__debug__" : Str)) = false := by decide) (hs : X.stack = X.env :: X.outer := by rfl) (hf : X.env.frame = some X.env.locals := by rfl) (hK : X.K = F.K := by rfl) (hM : X.mg = F.mg := by rfl) :
    PS X (.Try body [.ExceptHandler (some (.Name x np)) (some n) (b₀ :: suite) pos'] [] [] pos) (tM F L O (tryR x mb mh) L' O' Ret) := by
  have hc : Names X x (.ref C) := ⟨hg, hdb, .inl hm⟩
  refine ps_imp (L2N.ps_try_as (tb := fun W D σ H => tM (Ft F (fun cls d H' => ∀ σ', G F Lh O σ' H' → W cls d σ' H') O) L O mb L' O' Ret D σ H)
    (ts := fun a cls d D σ H => cls = .ref C ∧ ∃ fs, tM (F.add (xdF d fs)) (Lh.set i (rf a)) O (mh fs) L' O' Ret D σ H) (i := i) hs hf hN hi hln hc tk
    (fun W pn xe tkW _ => hb _ pn xe ⟨W, tkW, fun c d σ H e g => e σ (g_tf g)⟩)
    (fun a oe cls d pn hz hd => pss_fact fun e => pss_ex fun fs => by
      subst e
      exact hh a oe d pn fs hz hd)) fun D σ H ⟨g, q⟩ => ?_
  refine ⟨g_ft g, ?_⟩
  cases em : mb with
  | ok r =>
    rw [em] at q
    cases r with
    | inl b => exact fun σ' H' g' => q σ' H' (g_tf g')
    | inr d => exact q
  | bad =>
    rw [em] at q
    exact q
  | err c fs =>
    rw [em] at q
    unfold tryR at q
    by_cases hcx : c = x
    · subst hcx
      simp only [if_true] at q
      rw [out_need] at q
      obtain ⟨hfl, q⟩ := q
      intro C' d H' h1 h2 h4 σ' gh
      have eC : C' = C := by
        have z : F.mg c = some (.ref C') := h1
        rw [← hM, hm] at z
        cases z
        rfl
      subst eC
      refine ⟨true, hex, fun _ a na => ⟨rfl, fs, ⟨paired_set (x := rf a) (y := some (V.ref a)) rfl i gh.slots, gh.go.add _ ?_⟩, ?_⟩, fun z => by cases z⟩
      · cases d with
        | none => exact h2
        | some d =>
          obtain ⟨h5, vs, h6, h7⟩ := h2
          have e := xd_flat h7 hfl
          subst e
          show less H' (addrs O ++ F.A) d = _
          rw [less_out]
          · exact h6
          · intro z
            rcases List.mem_append.mp z with z | z
            · obtain ⟨w, hw, e⟩ := List.mem_map.mp z
              obtain ⟨o, h8, h9⟩ := gh.go.objs w hw
              rw [e, h6] at h8
              cases h8
              exact hno w hw _ _ h9
            · exact gh.go.hid d z h5
      · rw [out_add]
        refine q.mono (fun r k => ?_) fun H'' (x : GO (F.add _) F.O0 H'') => x.unadd
        cases r with
        | inl b => exact fun σ2 H2 g2 => k _ _ ⟨by have z := paired_set (x := (none : Option Asr)) (y := (none : Option V)) (R := SlotOk (rg F (O' b) H2)) trivial i g2.slots; rwa [hLi] at z, g2.go.unadd⟩
        | inr d => exact k
    · simp only [if_neg hcx] at q
      exact q.elim
end
/-! ### in the suite -/
section
variable {X : Cx} {F : Fr} {L : List (Option Asr)} {O : List Own} {b3 : Bool} {a C : Addr} {oe : Obj} {d : Option Addr} {pn : List (Addr × Obj)} {fs : List (Str × PyData)} {n f : Str} {p1 p2 pos : Pos}
def xfR (fs : List (Str × PyData)) (f : Str) : Res PyData := match fs.lookup f with
  | some x => need (flatD x = true) (.ok x)
  | none => .bad
theorem lookup_enc : ∀ {fs : List (Str × PyData)} {f : Str} {x : PyData}, fs.lookup f = some x → (encF fs).lookup f = some (encD x)
  | [], _, _, h => by cases h
  | (g, y) :: fs, f, x, h => by
    show ((g, encD y) :: encF fs).lookup f = _
    rw [lookup_put]
    by_cases e : f = g
    · subst e
      simp [List.lookup] at h
      subst h
      rw [if_pos rfl]
    · rw [if_neg e]
      have e2 : (f == g) = false := by simpa using e
      simp only [List.lookup, e2] at h
      exact lookup_enc h
/-- e.f -/
theorem n_xf (i : Nat) (T : XfC X.K C) (hno : PySem.W.findIn X.K (.ref C) f = some none) (hz : L2N.Zn (.ref C) d oe) (hd : ∃ vs, oe.data = .fields vs) (hL : L[i]? = some (rf a)) (hK : X.K = F.K := by rfl)
    (hN : X.N[i]? = some n := by rfl) (hv : Vis X.env.scope n := by first | exact Or.inl rfl | exact Or.inr (Or.inl rfl) | exact Or.inr (Or.inr rfl)) (hd1 : (n == ("__debug__" : Str)) = false := by decide) (hcd : (n == ("__classdict__" : Str)) = false := by decide)
    (hb : attributeBase (.Name n p1) f (X.suite a ((a, oe) :: pn)).env (eval (.Name n p1) (X.suite a ((a, oe) :: pn)).env) = eval (.Name n p1) (X.suite a ((a, oe) :: pn)).env := by rfl) :
    PE (X.suite a ((a, oe) :: pn)) (.Attribute (.Name n p1) f pos) (tP b3 (F.add (xdF d fs)) L O (xfR fs f)) := pe_imp (pe_xf T hno hz.zc hd (pe_var (X := X.suite a ((a, oe) :: pn)) (i := i) hN hv hd1 hcd) hb) fun σ H Q ⟨g, q⟩ => by
  obtain ⟨v, h1, h2⟩ := g.slot hL
  refine ⟨v, h1, h2, rfl, ?_⟩
  unfold xfR at q
  cases e : fs.lookup f with
  | none => rw [e] at q; exact q.elim
  | some x =>
    rw [e] at q
    dsimp only at q
    rw [out_need] at q
    have fact := g.go.fact
    cases d with
    | none =>
      have z : fs = [] := fact
      subst z
      cases e
    | some dd =>
      exact ⟨dd, encF fs, encD x, rfl, less_same _ _ fact, lookup_enc e, q.2 _ H g (Same.refl _) (flat_dp q.1)⟩
end
end NF

set_option Elab.async false
set_option linter.all false
set_option maxRecDepth 100000
set_option maxHeartbeats 1000000
/-! Nf15: isinstance of the caught error (with its dict), defs called in the suite. -/
namespace PySem.W
open PySem PySem.Spec PySem.Calls PyProof.Rows
section
variable {prog : Program} {w : World} {A : Around} {E : Value → Shared → Prop} {s : Shared} {K : Frag} {x D : Addr} {ox : Obj} {od : Option Obj}
theorem nf_find {a g : Value} (hc : (clsIn K D).isSome = true) (ha : findIn K (.ref D) "__class__" = some (some a)) (hg : specialIn K a "__get__" = some (some g)) (ht : takesIn K a = some true) : findObj K D od "__class__" = some (.bind g a) := by
  cases od with
  | none => exact findObj_dataN hc ha hg ht
  | some o => exact findObj_data hc ha hg ht
theorem nf_kitx (C : L2.ExcC K D) : KitX K (.ref x) (.ref D) (fun h => InstAt h x ox D od) where
  ty := fun _ _ _ I => I.type
  it := fun M h X _ => by
    obtain ⟨cd, hc, _⟩ := any_some C.hd
    unfold clsIn at hc
    split at hc
    · rename_i ho
      exact fun A Q E s k q => by
        unfold isType loadHead
        exact wpAny_bind (wpAny_loadPart (k _ _ (X _ _ ho)) (wpAny_pure q))
    · cases hc
  ne := (handS_kitx_exc (x := x) (ox := ox) C.hg C.hk C.hs C.hd C.ha C.hn C.ht C.hm).ne
  ca := fun {prog w A E Q s} X I h => by
    have hf : findObj K D od "__class__" = _ := nf_find (by obtain ⟨cd, hc, _⟩ := any_some C.hd; rw [hc]; rfl) C.ha C.hn C.ht
    obtain ⟨hp, g, d, t, os⟩ := s
    have L0 := I.type (M := model prog w)
    have hx2 : (Value.builtin "BaseException.__getattribute__" == Value.builtin "object.__getattribute__") = false := by decide +kernel
    unfold getAttr? getAttrBy? getAttrBy
    refine wpAny_bind (wpAny_mkText (wpAny_bind (wpAny_attempt (wpAny_holding (wpAny_bind (L0.at (wpAny_bind ((looks_findIn (M := model prog w) X C.hg).at ?_))))))))
    show wpAny _ _ (if (onTheHeap (Value.ref D) && Value.builtin "BaseException.__getattribute__" == Value.builtin "object.__getattribute__") = true then _ else _) _ _ _
    rw [show (onTheHeap (Value.ref D) && Value.builtin "BaseException.__getattribute__" == Value.builtin "object.__getattribute__") = false by rw [hx2]; rfl, if_neg Bool.false_ne_true]
    unfold getAttrByItsOwn hookBefore
    refine wpAny_bind ?_
    rw [if_pos (show onTheHeap (Value.ref D) = true from rfl)]
    refine (looks_findIn (M := model prog w) X C.hk).at (wpAny_bind (wpAny_attempt (wpAny_holding ?_)))
    unfold callGetattribute
    rw [show (false && onTheHeap (Value.builtin "BaseException.__getattribute__")) = false from rfl, if_neg Bool.false_ne_true]
    unfold boundAndCalled
    rw [PySem.F.excAttr_ValueError.ga.bind (.ref x)]
    refine wpAny_bind (wpAny_pure ?_)
    show wpAny _ _ (call (.builtin "BaseException.__getattribute__") [.ref x, .str "__class__" t]) _ _ _
    refine wpAny_call (codeAny_call_builtin PySem.F.excAttr_ValueError.ga.plain PySem.F.entry_bexc_ga ?_)
    refine @check_slot (model prog w) _ _ ⟨hp, g, d, t + 1, os⟩ "BaseException.__getattribute__" "BaseException" "__getattribute__" (.ref x) [.str "__class__" t] [] _ (by decide +kernel) (by decide +kernel) (L0.andThen (looks_subIn X C.hs)) (PySem.F.args_bexc_ga (.ref x) (.str "__class__" t)) ?_
    unfold Builtin.«object.__getattribute__»
    refine wpAny_bind (wpAny_of_eq (a := ((Value.ref x : Value), [Value.str "__class__" t])) (by first | rfl | (simp only [slotArgs]; rfl)) ?_)
    refine wpAny_bind (wpAny_pure (wpAny_bind (L0.at (wpAny_bind ((looks_find (M := model prog w) X I hf).at ?_)))))
    show wpAny _ _ (holding [Value.builtin "object.__class__"] (call (.builtin "getset_descriptor.__get__") [.builtin "object.__class__", .ref x, .ref D]) >>= ret) _ _ _
    refine wpAny_bind (wpAny_holding (wpAny_call (class_get (s := ⟨hp, g, d, t + 1, os⟩) (ox := ox) (od := od) X I C.hm ?_)))
    refine wpAny_pure ?_
    show wpAny _ _ (handedOut (.ref D)) _ _ _
    rw [handedOut_of (v := .ref D) rfl]
    first
      | exact wpAny_pure (wpAny_pure h)
      | exact wpAny_pure h
      | exact wpAny_pure (wpAny_bind (wpAny_pure (wpAny_pure h)))
end
end PySem.W
namespace NF
open PySem PySem.Spec PyProof.Rows L2
open Data (toD)
/-- isinstance(e, c) -/
def rIsD (K : Fg) (D a : Addr) (d : Option Addr) : List V → Hp → VK → Prop := fun xs H Q => ∃ (c : V) (cv : Value) (b : Bool), xs = [.ref a, c] ∧ (∀ u, RelV c u → u = cv) ∧ PySem.W.kitOne K (.ref D) cv = some b ∧ (∀ dd, d = some dd → ∃ fs, H dd = some (.xd fs)) ∧ Q (.bl b) H
theorem call_isD {X : Cx} {a D : Addr} {oe : Obj} {d : Option Addr} {pn : List (Addr × Obj)} (C : ExcC X.K D) (hz : L2N.Zn (.ref D) d oe) (hf : ∃ vs, oe.data = .fields vs) : CallR (X.suite a ((a, oe) :: pn)) (.builtin "isinstance") (rIsD X.K D a d) := by
  intro pins s σ H xs us Q I r h
  obtain ⟨c, cv, b, rfl, hcv, e, hd, q⟩ := h
  cases r with
  | cons rx rr =>
    cases rr with
    | cons rt rr =>
      cases rr
      cases rx
      have ec := hcv _ rt
      subst ec
      obtain ⟨hget, _⟩ := I.pin (a, oe) (List.mem_append.mpr (.inl List.mem_cons_self))
      obtain ⟨vs, hv⟩ := hf
      have J : ∃ od, PySem.W.InstAt s.heap a oe D od := by
        cases d with
        | none => exact ⟨none, hget, hz.1, by unfold PySem.W.notCls; rw [hv] <;> rfl, by rw [hz.2.1] <;> trivial⟩
        | some dd =>
          obtain ⟨fs, hx⟩ := hd dd rfl
          have hx : ObjOk X.prog X.w H s.heap dd (.xd fs) := I.hok dd _ hx
          obtain ⟨mA, hns, _⟩ := hx
          obtain ⟨o, ho, _⟩ := lookIn_ns hns
          exact ⟨some o, hget, hz.1, by unfold PySem.W.notCls; rw [hv] <;> rfl, by rw [hz.2.1]; exact ho⟩
      obtain ⟨od, J⟩ := J
      exact PySem.W.kia_one (PySem.W.nf_kitx C) I.kIn J e (fun z => nomatch z) fun tk => ⟨.bl b, H, I.kept (t' := tk) fun _ _ z => z, rfl, q⟩
section
variable {X : Cx} {F : Fr} {L : List (Option Asr)} {O : List Own} {b3 : Bool} {a C C2 : Addr} {oe : Obj} {d : Option Addr} {pn : List (Addr × Obj)} {fs : List (Str × PyData)} {n y : Str} {p1 p2 p3 pos : Pos}
theorem n_isE {v : Bool} (i : Nat) (T : ExcC X.K C) (hz : L2N.Zn (.ref C) d oe) (hd : ∃ vs, oe.data = .fields vs) (hL : L[i]? = some (rf a)) (hm : X.mg y = some (.ref C2)) (hk : PySem.W.kitOne X.K (.ref C) (.ref C2) = some v) (hib : X.mg "isinstance" = none)
    (hN : X.N[i]? = some n := by rfl) (hv : Vis X.env.scope n := by first | exact Or.inl rfl | exact Or.inr (Or.inl rfl) | exact Or.inr (Or.inr rfl)) (hd1 : (n == ("__debug__" : Str)) = false := by decide) (hcd : (n == ("__classdict__" : Str)) = false := by decide)
    (hg : Gl X "isinstance" := by rfl) (hgy : Gl X y := by rfl) (hd2 : (y == ("__debug__" : Str)) = false := by decide)
    (h1 : starEach [.Name n p2, .Name y p3] (X.suite a ((a, oe) :: pn)).env = (false, eval (.Name n p2) (X.suite a ((a, oe) :: pn)).env) :: starEach [.Name y p3] (X.suite a ((a, oe) :: pn)).env := by rfl) (h2 : starEach [.Name y p3] (X.suite a ((a, oe) :: pn)).env = (false, eval (.Name y p3) (X.suite a ((a, oe) :: pn)).env) :: starEach [] (X.suite a ((a, oe) :: pn)).env := by rfl)
    (hpl : (backTo pos (starEach [.Name y p3] (X.suite a ((a, oe) :: pn)).env)).any (·.1) = false := by rfl) :
    PE (X.suite a ((a, oe) :: pn)) (.Call (.Name "isinstance" p1) [.Name n p2, .Name y p3] [] pos) (tP b3 (F.add (xdF d fs)) L O (.ok v)) :=
  pe_imp (pe_callB (X := X.suite a ((a, oe) :: pn)) (call_isD T hz hd) hg hib (by decide +kernel) (pa_cons (pe_var (X := X.suite a ((a, oe) :: pn)) (i := i) hN hv hd1 hcd) (pa_cons (pe_glob (X := X.suite a ((a, oe) :: pn)) (v := .ref C2) hgy hm rfl hd2) pa_nil h2) h1) (by decide) (by decide) h1 hpl) fun σ H Q ⟨g, q⟩ => by
  obtain ⟨v1, h3, h4⟩ := g.slot hL
  have e1 : v1 = V.ref a := h4
  subst e1
  refine ⟨_, h3, .ref C2, .ref C2, v, rfl, fun u r => r, hk, fun dd e => ?_, q _ H g (Same.refl _) rfl⟩
  subst e
  exact ⟨_, less_same _ _ g.go.fact⟩
end
/-! ### defs called in the suite -/
structure DefH (P : Program) (w : World) (K : Fg) (mg : MG) (base : Heap) (k : Nat) (x : Str) (ps : List Str) (sp : Sp) : Prop where
  ex : ∃ (f : Addr) (fd : FuncData), L2H.FnH P w K mg base CX0 k f fd ps sp ∧ mg x = some (.ref f) ∧ PySem.W.keepIn K (.ref f) = true ∧ Binds K fd ps []
section
variable {P : Program} {w : World} {K : PySem.W.Frag} {mg : Str → Option Value} {base : Heap} {τ ρ : Type} [RepA τ] [Rep ρ]
variable {x qual : Str} {st : Stmt} {f : Addr} {fd : FuncData} {N ps : List Str} {k : Nat}
theorem def_PH {mir : τ → Res ρ} (Fu : Fun K x qual st f fd) (S : FnScope N ps (defScope st)) (L0 : τ → List (Option Asr)) (hl : ∀ (vs : List V) (R : Hp) (a : τ), RepA.rep K mg R vs a → vs.length = ps.length ∧ Paired (SlotOk R) (L0 a) (start N vs))
    (body : ∀ (cdv : Value) (A : Around) (outer : List Env) (s : Shared) (H : Hp) (Av : List Addr) (E : XK) (p : Addr × Obj) (a : τ), L2H.RoomH k (A.deeper (envOfC qual (defScope st) s.heap.objs.size f cdv)) →
      PSs (L2H.cxH CX0 P w K mg base N qual (defScope st) f cdv A outer s H E p).nox (defBody st) (tT (F0 K mg H Av E0) (L0 a) [] (mir a) (rV (F0 K mg H Av E0)))) :
    L2H.FnH P w K mg base CX0 (k + 1) f fd ps (spP K mg mir) := by
  obtain ⟨oc, od, kV, doc, pm, an, cdv, ct, osl, rfl, lk, hcd⟩ := Fu.ex
  refine L2H.fn_ofH lk hcd S (fun vs H Q E ⟨a, A, _, h, _⟩ => (hl vs _ a h).1) fun A outer s H vs Q E p hot hr ⟨a, Av, hA, h, q⟩ =>
    ⟨_, (body cdv A outer s H Av E p a hr).nox, ⟨(hl vs _ a h).2, go_start hA⟩, ?_⟩
  exact q.mono (fun r k v H' ⟨g, r'⟩ => k v H' (go_same g) r') fun H' g => go_same g
end
section
variable {X : Cx} {F : Fr} {L : List (Option Asr)} {O : List Own} {τ ρ : Type} [RepA τ] [Rep ρ]
variable {k : Nat} {ps : List Str} {x : Str} {p1 pos : Pos} {e : Expr} {es : List Expr} {b : Bool} {a : Addr} {oe : Obj} {pn : List (Addr × Obj)} {cls : Value} {d : Option Addr}
theorem nh_call {mir : τ → Res ρ} {m : Res τ} (D : DefH X.prog X.w X.K X.mg X.base k x ps (spP X.K X.mg mir)) (hz : L2N.Zn cls d oe) (hdt : ∃ vs, oe.data = .fields vs) (hr : Room k X.A) (ha : PA (X.suite a ((a, oe) :: pn)) (e :: es) (tA b F L O m)) (hg : Gl X x := by rfl) (hE : F.E = E0 := by rfl) (hK : X.K = F.K := by rfl) (hM : X.mg = F.mg := by rfl) (hd : (x == ("__debug__" : Str)) = false := by decide)
    (hs : starEach (e :: es) (X.suite a ((a, oe) :: pn)).env = (false, eval e (X.suite a ((a, oe) :: pn)).env) :: starEach es (X.suite a ((a, oe) :: pn)).env := by rfl) (hs2 : ((backTo pos (starEach es (X.suite a ((a, oe) :: pn)).env)).any fun x => x.fst) = false := by rfl) :
    PE (X.suite a ((a, oe) :: pn)) (.Call (.Name x p1) (e :: es) [] pos) (tP b F L O (m.bind mir)) := by
  obtain ⟨f, fd, h1, h2, h3, h4⟩ := D.ex
  obtain ⟨vs, hv⟩ := hdt
  refine call_core (sp := spP X.K X.mg mir) hE (fun vs H Q q => by rw [← hK, ← hM] at q; exact q) (pe_imp (L2H.pe_callH (X := X.suite a ((a, oe) :: pn)) (E := fun _ => E0) h1 (L2H.roomH_mark hr _) ⟨(a, oe), ⟨rfl, vs, hv, hz.2.2 vs hv⟩, List.mem_cons_self⟩ hg h2 h3 h4 (fun σ pins H s e s' I c => pass0 pins σ H s e s' I c) ha hd hs hs2) fun σ H Q q => ?_)
  show tA b F L O m σ H (fun vs H1 => spP X.K X.mg mir vs H1 Q E0)
  have q' : tA b F L O m σ H (fun vs H1 => spP X.K X.mg mir (vs ++ []) H1 Q E0) := q
  simp only [List.append_nil] at q'
  exact q'
end
end NF

set_option Elab.async false
set_option linter.all false
set_option maxRecDepth 100000
set_option maxHeartbeats 1000000
/-! Nf16: quiet calls, stores of comprehensions, repr, the script. -/
namespace NF
open PySem PySem.Spec PyProof.Rows L2
open Data (toD)
section
variable {X : Cx} {F : Fr} {L : List (Option Asr)} {O : List Own} {τ ρ α β : Type} [RepA τ] [Rep ρ] [Rep α] [Rep β]
variable {k : Nat} {ps : List Str} {x y : Str} {p1 pos : Pos} {e : Expr} {es : List Expr} {b : Bool}
/-- a call of a def that lets nothing out, where something may be let out -/
theorem nq_call {mir : τ → Res ρ} {m : Res τ} (D : DefAt X.prog X.w X.K X.mg X.base CX0 k x ps (spP X.K X.mg mir)) (hr : Room k X.A) (ha : PA X (e :: es) (tA b F L O m)) (hg : Gl X x := by rfl) (hK : X.K = F.K := by rfl) (hM : X.mg = F.mg := by rfl) (hd : (x == ("__debug__" : Str)) = false := by decide)
    (hs : starEach (e :: es) X.env = (false, eval e X.env) :: starEach es X.env := by rfl) (hs2 : ((backTo pos (starEach es X.env)).any fun x => x.fst) = false := by rfl) : PE X (.Call (.Name x p1) (e :: es) [] pos) (tP b F L O (m.bind fun a => (mir a).quiet)) := by
  obtain ⟨f, fd, h1, h2, h3, h4⟩ := D.ex
  refine pe_imp (pe_call h1 hr hg h2 h3 h4 .nil pass0 ha hd hs hs2) fun σ H Q ⟨g, q⟩ => ?_
  rw [out_bind] at q
  refine ⟨g, q.mono (fun a qa vs H1 g1 s1 r1 => ?_) fun _ z => z⟩
  show spP X.K X.mg mir (vs ++ []) H1 Q E0
  rw [List.append_nil]
  refine ⟨a, avoid b F O, g1.go.avoided, by rw [hK, hM, ← rgn_avoid]; exact r1, ?_⟩
  rw [hK, hM]
  cases e : mir a with
  | ok r =>
    rw [e] at qa
    exact fun v H' s2 r2 => qa v H' (g1.grow s2) (s1.trans s2) (by rw [rgn_avoid]; exact r2)
  | err c fs =>
    rw [e] at qa
    exact qa.elim
  | bad =>
    rw [e] at qa
    exact qa.elim
theorem fq_call {mir : τ → Res (List α)} {m : Res τ} (D : DefAt X.prog X.w X.K X.mg X.base CX0 k x ps (spF X.K X.mg mir)) (hr : Room k X.A) (ha : PA X (e :: es) (tA b F L O m)) (hg : Gl X x := by rfl) (hK : X.K = F.K := by rfl) (hM : X.mg = F.mg := by rfl) (hd : (x == ("__debug__" : Str)) = false := by decide)
    (hs : starEach (e :: es) X.env = (false, eval e X.env) :: starEach es X.env := by rfl) (hs2 : ((backTo pos (starEach es X.env)).any fun x => x.fst) = false := by rfl) : PE X (.Call (.Name x p1) (e :: es) [] pos) (tF b F L O (m.bind fun a => (mir a).quiet)) := by
  obtain ⟨f, fd, h1, h2, h3, h4⟩ := D.ex
  refine pe_imp (pe_call h1 hr hg h2 h3 h4 .nil pass0 ha hd hs hs2) fun σ H Q ⟨g, q⟩ => ?_
  rw [out_bind] at q
  refine ⟨g, q.mono (fun a qa vs H1 g1 s1 r1 => ?_) fun _ z => z⟩
  show spF X.K X.mg mir (vs ++ []) H1 Q E0
  rw [List.append_nil]
  refine ⟨a, avoid b F O, g1.go.avoided, by rw [hK, hM, ← rgn_avoid]; exact r1, ?_⟩
  rw [hK, hM]
  cases e : mir a with
  | ok r =>
    rw [e] at qa
    exact fun p ws H' s2 h1 h2 r2 => qa p ws H' (g1.grow s2) (s1.trans s2) (s1.free h1) h2 (by rw [rgn_avoid]; exact r2)
  | err c fs =>
    rw [e] at qa
    exact qa.elim
  | bad =>
    rw [e] at qa
    exact qa.elim
/-! x = [..] -/
inductive SpN : Nat → Prop
  | mk {i : Nat} : SpN i
section
variable {tg iter elt : Expr} {ifs : List Expr} {scope : Scope} {own : List (Str × Nat)} {p2 pos2 : Pos} {g : TG} {bd : α → List (Option Asr) → List (Option Asr)} {m : Res (List α)} {p : α → Res Bool} {f : α → Res β}
/-- a value -/
theorem s_setLc (i : Nat) (hc : X.calm = true) (hN : X.N.Nodup) (hO : List.Sublist F.O0 O) (hi : PI X tg iter (tI b F L O m)) (hfl : b = true ∨ FlatP α) (hb : BlkOk X.N X.env.scope scope own)
    (hok : TgOk F.K F.mg g (own.map (·.2)) bd) (ht : ∀ (s : Shared) (H : Hp) (C : Addr) (cl : List (Str × Addr)) (fp : List Addr), Tg (X.blk s H scope (compEnvC scope cl C X.env) fp) F.K F.mg tg g (own.map (·.2)) bd)
    (hp : ∀ (s : Shared) (H : Hp) (C : Addr) (cl : List (Str × Addr)) (fp : List Addr) (a : α) (D : Addr) (ds : List β), PTs (X.blk s H scope (compEnvC scope cl C X.env) fp) ifs (tB' F.nox (bd a (wipeL L (own.map (·.2)))) (ow F.K F.mg D ds :: O) (p a)))
    (he : ∀ (s : Shared) (H : Hp) (C : Addr) (cl : List (Str × Addr)) (fp : List Addr) (a : α) (D : Addr) (ds : List β), PE (X.blk s H scope (compEnvC scope cl C X.env) fp) elt (tP true F.nox (bd a (wipeL L (own.map (·.2)))) (ow F.K F.mg D ds :: O) (f a)))
    (hy : X.N[i]? = some y := by rfl) (hyl : X.env.scope.names.lookup y = some .local := by rfl) (hk : X.env.scope.kind = .function := by rfl) (hl : (p1.line == pos.line) = true := by rfl) (ha : (scope.names.any fun (n, k) => n == y && (k == .local || k == .cell)) = false := by rfl) (hpl : pos2.line = pos.line := by rfl)
    (hf : ∀ x, foldedSetIterable iter X.env x = pure x := by intro _; rfl) :
    PS X (.Assign [.Name y p1] (.ListComp elt [{ target := tg, iter := iter, ifs := ifs, is_async := 0 }] scope pos) pos2) (tN F L O (m.bind fun as => need (as.length ≤ sizeLine) (filtR (fun a => (p a).quiet) (fun a => (f a).quiet) as)) (fun as => L.set i (vl F.K F.mg as)) (fun _ => O)) := by
  refine ps_imp (ps_setLc hc hN hy hyl (sw_true hk hyl hl ha) hi hb (fun s H C cl fp => (ht s H C cl fp).pg) (fun s H C cl fp => pts_ex fun a => pts_ex fun D => pts_ex fun ds => hp s H C cl fp a D ds) (fun s H C cl fp => pe_ex fun a => pe_ex fun D => pe_ex fun ds => he s H C cl fp a D ds) hf) fun D σ H ⟨g0, q⟩ => ?_
  refine comp_core _ _ rfl hfl hok rfl rfl σ H (fun x H1 => gName i x σ H1 D.nx) ⟨g0, q.mono (fun as k p vs H1 g1 s1 h1 h2 r1 => ?_) fun H' ⟨a, _⟩ => a.go.sub hO⟩
  refine k _ _ ⟨set_ok (p := vl F.K F.mg as) ?_ i g1.slots, g1.go⟩
  refine ⟨p, vs, rfl, ?_, r1.mono less_same⟩
  show less H1 (addrs O ++ F.A) p = some (.lst vs)
  rw [less_out (g0.go.out h1)]
  exact h2
/-- an owned list -/
theorem s_ownLc (i : Nat) (hc : X.calm = true) (hN : X.N.Nodup) (hO : List.Sublist F.O0 O) (hi : PI X tg iter (tI b F L O m)) (hfl : b = true ∨ FlatP α) (hb : BlkOk X.N X.env.scope scope own)
    (hok : TgOk F.K F.mg g (own.map (·.2)) bd) (ht : ∀ (s : Shared) (H : Hp) (C : Addr) (cl : List (Str × Addr)) (fp : List Addr), Tg (X.blk s H scope (compEnvC scope cl C X.env) fp) F.K F.mg tg g (own.map (·.2)) bd)
    (hp : ∀ (s : Shared) (H : Hp) (C : Addr) (cl : List (Str × Addr)) (fp : List Addr) (a : α) (D : Addr) (ds : List β), PTs (X.blk s H scope (compEnvC scope cl C X.env) fp) ifs (tB' F.nox (bd a (wipeL L (own.map (·.2)))) (ow F.K F.mg D ds :: O) (p a)))
    (he : ∀ (s : Shared) (H : Hp) (C : Addr) (cl : List (Str × Addr)) (fp : List Addr) (a : α) (D : Addr) (ds : List β), PE (X.blk s H scope (compEnvC scope cl C X.env) fp) elt (tP true F.nox (bd a (wipeL L (own.map (·.2)))) (ow F.K F.mg D ds :: O) (f a)))
    (hy : X.N[i]? = some y := by rfl) (hyl : X.env.scope.names.lookup y = some .local := by rfl) (hk : X.env.scope.kind = .function := by rfl) (hl : (p1.line == pos.line) = true := by rfl) (ha : (scope.names.any fun (n, k) => n == y && (k == .local || k == .cell)) = false := by rfl) (hpl : pos2.line = pos.line := by rfl)
    (hf : ∀ x, foldedSetIterable iter X.env x = pure x := by intro _; rfl) :
    PS X (.Assign [.Name y p1] (.ListComp elt [{ target := tg, iter := iter, ifs := ifs, is_async := 0 }] scope pos) pos2) (tNp F L O (m.bind fun as => need (as.length ≤ sizeLine) (filtR (fun a => (p a).quiet) (fun a => (f a).quiet) as)) (fun p _ => L.set i (rf p)) (fun p as => ow F.K F.mg p as :: O)) := by
  refine ps_imp (ps_setLc hc hN hy hyl (sw_true hk hyl hl ha) hi hb (fun s H C cl fp => (ht s H C cl fp).pg) (fun s H C cl fp => pts_ex fun a => pts_ex fun D => pts_ex fun ds => hp s H C cl fp a D ds) (fun s H C cl fp => pe_ex fun a => pe_ex fun D => pe_ex fun ds => he s H C cl fp a D ds) hf) fun D σ H ⟨g0, q⟩ => ?_
  refine comp_core _ _ rfl hfl hok rfl rfl σ H (fun x H1 => gName i x σ H1 D.nx) ⟨g0, q.mono (fun as k p vs H1 g1 s1 h1 h2 r1 => ?_) fun H' ⟨a, _⟩ => a.go.sub hO⟩
  exact k p _ _ ⟨set_ok (p := rf p) rfl i (L2.Paired.mapP g0.slots fun _ _ z => z.mono (rg_new rfl s1 h1)), go_new g0 g1.go s1 h1 h2 r1⟩
end
/-! repr of an int -/
theorem n_repr {b1 b3 : Bool} {m : Res Int} {t : TA} (h : PE X e (tCB (fun xs H Q => ∃ i, xs = [.int i] ∧ i.natAbs.log2 < 1920 ∧ Q (.str (PySem.Str.ofString (toString i))) H) t)) (ht : t = tCons (tP b1 F L O m) tNil) : PE X e (tP b3 F L O (m.bind fun i => need (i.natAbs.log2 < 1920) (.ok (PySem.Str.ofString (toString i))))) := pe_imp h fun σ H Q ⟨g, q⟩ => by
  subst ht
  rw [out_bind] at q
  refine ⟨g, q.mono (fun i k v H1 g1 s1 r1 => ?_) fun _ z => z⟩
  rw [out_need] at k
  exact ⟨i, by cases r1; rfl, k.1, k.2 _ H1 g1 s1 rfl⟩
end
/-! the script -/
structure Scr where
  ns : List Int
instance : Rep Scr := ⟨fun K _ H v a => ∃ p, v = .ref p ∧ SqL K H p (a.ns.map V.int), fun e ⟨p, h1, h2⟩ => ⟨p, h1, e.seq h2⟩⟩
theorem reps_ints {K : Fg} {mg : MG} {H : Hp} (ns : List Int) : Reps K mg H (ns.map V.int) ns := reps_flat.mpr rfl
instance : Lk Scr Int := ⟨Scr.ns, fun ⟨p, h1, h2⟩ => ⟨p, _, h1, .inl h2, reps_ints _⟩⟩
section
variable {X : Cx} {F : Fr} {L : List (Option Asr)} {O : List Own}
theorem f_sliceS {x : Expr} {b : Bool} {ma : Res Scr} {lo hi : Option Expr} {ml mh : Res (Option Int)} {p1 p2 : Pos} (hx : PE X x (tP b F L O ma)) (hl : PO X lo (tO F L O ml)) (hh : PO X hi (tO F L O mh)) (hK : X.K = F.K := by rfl) :
    PE X (.Subscript x (.Slice lo hi none p2) p1) (tF b F L O (ma.bind fun x => ml.bind fun l => mh.bind fun h => .ok (cut x.ns l h))) := pe_imp (pe_slice sl_list hx hl hh) fun σ H Q ⟨g, q⟩ => by
  rw [out_bind] at q
  refine ⟨g, q.mono (fun x qx v1 H1 g1 s1 r1 => ?_) fun _ z => z⟩
  rw [out_bind] at qx
  refine ⟨g1, qx.mono (fun l ql H2 g2 s2 => ?_) fun H' ⟨a, b⟩ => ⟨a, s1.trans b⟩⟩
  rw [out_bind] at ql
  refine ⟨g2, ql.mono (fun h qh H3 g3 s3 => ?_) fun H' ⟨a, b⟩ => ⟨a, (s1.trans s2).trans b⟩⟩
  obtain ⟨p, rfl, h2⟩ := r1
  refine ⟨p, x.ns.map V.int, rfl, ?_, kf_new g3 (KF.mono ((s1.trans s2).trans s3) qh) ?_⟩
  · rw [hK]
    exact (s2.trans s3).seq (rgn_sub.seq h2)
  · unfold cutV cut
    rw [List.length_map]
    exact reps_take _ (reps_drop _ (reps_ints _))
end
theorem FnOk.weaker {P : Program} {w : World} {K : Fg} {mg : MG} {base : Heap} {CX : CXT} {k : Nat} {f : Addr} {fd : FuncData} {ps : List Str} {sp sp' : Sp} (F : FnOk P w K mg base CX k f fd ps sp) (i : ∀ vs H Q E, sp' vs H Q E → sp vs H Q E) : FnOk P w K mg base CX k f fd ps sp' :=
  ⟨fun vs H Q E h => F.len _ _ _ _ (i _ _ _ _ h), fun A outer s H args us vs Q E h1 h2 h3 h4 h => F.run A outer s H args us vs Q E h1 h2 h3 h4 (i _ _ _ _ h)⟩
/-- a law over a list of ints -/
def spLaw (K : Fg) (n : Nat) : Sp := fun vs H Q _ => ∃ (a : Addr) (ns : List Int), vs = [.ref a] ∧ SqL K H a (ns.map V.int) ∧ ns.length ≤ n ∧ ∀ H', Q (.bl true) H'
theorem law_of {P : Program} {w : World} {K : Fg} {mg : MG} {base : Heap} {k n : Nat} {f : Addr} {fd : FuncData} {ps : List Str} {mir : Ar Scr Unit → Res Bool} (F : FnOk P w K mg base CX0 k f fd ps (spP K mg mir)) (math : ∀ ns : List Int, ns.length ≤ n → mir ⟨⟨ns⟩, ()⟩ = .ok true) :
    FnOk P w K mg base CX0 k f fd ps (spLaw K n) := FnOk.weaker F fun vs H Q E ⟨a, ns, e, h, hl, q⟩ => by
  refine ⟨⟨⟨ns⟩, ()⟩, [], fun _ z => (List.not_mem_nil z).elim, ?_, ?_⟩
  · subst e
    refine ⟨_, _, rfl, ⟨a, rfl, ?_⟩, rfl⟩
    have : Same H (less H []) := fun b o z => by rw [less_out List.not_mem_nil]; exact z
    exact this.seq h
  · rw [math ns hl]
    intro v H' _ r
    have r' : v = .bl true := r
    rw [r']
    exact q H'
end NF

set_option Elab.async false
set_option linter.all false
set_option maxRecDepth 100000
/-! Nf17: module constants, chains of comparisons, ranges with a step, backward slices, calls that may raise and give a new list, defs that give nothing, errors without fields. -/
namespace NF
open PySem PySem.Spec PyProof.Rows L2
open Data (toD)
/-! ### module constants -/
structure GlobV (mg : MG) (x : Str) (v : V) : Prop where
  ex : ∃ u, mg x = some u ∧ RelV v u
section
variable {X : Cx} {F : Fr} {L : List (Option Asr)} {O : List Own} {α β γ s ι : Type} [Rep α] [Rep β] [Rep γ] [Rep s] [Rep ι]
theorem n_glob [Flat α] {x : Str} {pos : Pos} {b : Bool} {a : α} (h : GlobV X.mg x (Flat.enc a)) (hg : Gl X x := by rfl) (hd : (x == ("__debug__" : Str)) = false := by decide) : PE X (.Name x pos) (tP b F L O (.ok a)) := by
  obtain ⟨u, h1, h2⟩ := h.ex
  exact n_c (pe_glob hg h1 h2 hd)
/-! ### a < b < c -/
theorem nf_chain {e : Expr} {b1 b2 b4 b3 : Bool} {ma mb mc : Res Int} (f g : Int → Int → Bool) (h : PE X e (tChain (rI0 fun i j => .bl (f i j)) (rI0 fun i j => .bl (g i j)) (tP b1 F L O ma) (tP b2 F L O mb) (tP b4 F L O mc))) :
    PE X e (tP b3 F L O (ma.bind fun x => mb.bind fun y => if f x y then mc.bind fun z => .ok (g y z) else .ok false)) := pe_imp h fun σ H Q ⟨g0, q⟩ => by
  rw [out_bind] at q
  refine ⟨g0, q.mono (fun x qx v1 H1 g1 s1 r1 => ?_) fun _ z => z⟩
  rw [out_bind] at qx
  refine ⟨g1, qx.mono (fun y qy v2 H2 g2 s2 r2 => ?_) fun H' ⟨a, b⟩ => ⟨a, s1.trans b⟩⟩
  refine ⟨x, y, r1, r2, f x y, rfl, ?_⟩
  cases hf : f x y with
  | false =>
    rw [hf] at qy
    exact qy (.bl false) H2 g2 (s1.trans s2) rfl
  | true =>
    rw [hf] at qy
    simp only [if_true] at qy ⊢
    rw [out_bind] at qy
    exact ⟨g2, qy.mono (fun z kz v3 H3 g3 s3 r3 => ⟨y, z, r2, r3, kz (.bl (g y z)) H3 g3 ((s1.trans s2).trans s3) rfl⟩) fun H' ⟨a, b⟩ => ⟨a, (s1.trans s2).trans b⟩⟩
theorem nf_chainT {e : Expr} {b1 b2 b4 : Bool} {ma mb mc : Res Int} (f g : Int → Int → Bool) (h : PT X e (tTest (tChain (rI0 fun i j => .bl (f i j)) (rI0 fun i j => .bl (g i j)) (tP b1 F L O ma) (tP b2 F L O mb) (tP b4 F L O mc)))) :
    PT X e (tB' F L O (ma.bind fun x => mb.bind fun y => if f x y then mc.bind fun z => .ok (g y z) else .ok false)) := pt_imp h fun σ H Q ⟨g0, q⟩ => by
  rw [out_bind] at q
  refine ⟨g0, q.mono (fun x qx v1 H1 g1 s1 r1 => ?_) fun _ z => z⟩
  rw [out_bind] at qx
  refine ⟨g1, qx.mono (fun y qy v2 H2 g2 s2 r2 => ?_) fun H' ⟨a, b⟩ => ⟨a, s1.trans b⟩⟩
  refine ⟨x, y, r1, r2, f x y, rfl, ?_⟩
  cases hf : f x y with
  | false =>
    rw [hf] at qy
    exact ⟨false, rfl, qy H2 g2 (s1.trans s2)⟩
  | true =>
    rw [hf] at qy
    simp only [if_true] at qy ⊢
    rw [out_bind] at qy
    exact ⟨g2, qy.mono (fun z kz v3 H3 g3 s3 r3 => ⟨y, z, r2, r3, g y z, rfl, kz H3 g3 ((s1.trans s2).trans s3)⟩) fun H' ⟨a, b⟩ => ⟨a, (s1.trans s2).trans b⟩⟩
/-! ### wide operators -/
@[irreducible] def decCDivW : ∀ i j, Decidable (CDivW i j) := fun i j => by unfold CDivW; infer_instance
instance : ∀ i j, Decidable (CDivW i j) := decCDivW
theorem n_fdivW {x y : Expr} {b1 b2 b3 : Bool} {ma mb : Res Int} {pos : Pos} (hx : PE X x (tP b1 F L O ma)) (hy : PE X y (tP b2 F L O mb)) : PE X (.BinOp x .FloorDiv y pos) (tP b3 F L O (ma.bind fun x => mb.bind fun y => need (CDivW x y) (.ok (x / y)))) := nf2 (pe_op op_fdivW hx hy) (rr_I (g := fun x y => x / y))
/-! ### statements -/
/-- e, for nothing but what it may raise -/
theorem s_expr {e : Expr} {pos : Pos} {b : Bool} {m : Res α} (he : PE X e (tP b F L O m)) (hO : List.Sublist F.O0 O) (hs : swapsWith e none pos.line X.env = pure false := by rfl) :
    PS X (.Expr e pos) (tN F L O (m.bind fun _ => .ok ()) (fun _ => L) (fun _ => O)) := ps_imp (ps_expr he hs) fun D σ H ⟨g, q⟩ => by
  rw [out_bind] at q
  exact ⟨g, q.mono (fun a k v H1 g1 s1 r1 => k _ _ g1) fun H' ⟨a, _⟩ => a.go.sub hO⟩
/-- goes on or hands back, then goes on or hands back -/
def goOnM {B B' D' : Type} (m : Res (Sum B D')) (f : B → Res (Sum B' D')) : Res (Sum B' D') := m.bind fun r => match r with
  | .inl b => f b
  | .inr d => .ok (.inr d)
theorem m_M {B B' D' : Type} {st : Stmt} {rest : List Stmt} {m1 : Res (Sum B D')} {m2 : B → Res (Sum B' D')} {L' : B → List (Option Asr)} {O' : B → List Own} {L2' : B' → List (Option Asr)} {O2' : B' → List Own} {Ret : D' → V → Hp → Prop} (h1 : PS X st (tM F L O m1 L' O' Ret)) (h2 : ∀ b, PSs X rest (tM F (L' b) (O' b) (m2 b) L2' O2' Ret)) :
    PSs X (st :: rest) (tM F L O (goOnM m1 m2) L2' O2' Ret) := pss_imp (pss_cons h1 (pss_ex h2)) fun D σ H ⟨g, q⟩ => by
  unfold goOnM at q
  rw [out_bind] at q
  refine ⟨g, q.mono (fun r k => ?_) fun _ z => z⟩
  cases r with
  | inl b => exact fun σ' H' g' => ⟨b, g', k⟩
  | inr d => exact k
/-! ### xs[::-1], range(a, b, c) -/
theorem f_rev {e : Expr} {b : Bool} {m : Res (List α)} {k : Nat} {p1 p2 p3 pos : Pos} (he : PE X e (tP b F L O m)) (hK : X.K = F.K := by rfl) : PE X (.Subscript e (.Slice none none (some (.UnaryOp .USub (.Constant (.int 1) k p1) p2)) p3) pos) (tF b F L O (m.bind fun xs => .ok xs.reverse)) := pe_imp (pe_revL he) fun σ H Q ⟨g, q⟩ => by
  rw [out_bind] at q
  refine ⟨g, q.mono (fun xs k v H1 g1 s1 r1 => ?_) fun _ z => z⟩
  obtain ⟨p, vs, rfl, h2, h3⟩ := r1
  rw [hK]
  exact ⟨p, vs, rfl, .of (rgn_sub _ _ h2), kf_new g1 (KF.mono s1 k) (reps_reverse h3)⟩
where
  reps_reverse {K : Fg} {mg : MG} {H : Hp} : ∀ {vs : List V} {as : List α}, Reps K mg H vs as → Reps K mg H vs.reverse as.reverse
  | _, _, .nil => .nil
  | _, _, .cons r t => by
    rw [List.reverse_cons, List.reverse_cons]
    exact reps_append (reps_reverse t) (.cons r .nil)
def irange3 (lo hi c : Int) : List Int := (List.range (Builtin.Range.rangeSize lo hi c).toNat).map fun i : Nat => lo + (i : Int) * c
def srcR3 {K : Fg} {mg : MG} {lo hi c : Int} : Src K mg (Itc lo c (Builtin.Range.rangeSize lo hi c).toNat) (irange3 lo hi c) where
  src H := True
  mono e h := h
  Y := YFn fun i => .int (lo + (i : Nat) * c)
  walk := by
    have e : (irange3 lo hi c).length = (Builtin.Range.rangeSize lo hi c).toNat := by unfold irange3; simp
    rw [e]
    exact walk_rangeC
  ylds i H x H' y := by
    obtain ⟨rfl, y⟩ := y
    refine ⟨Same.refl _, fun Av _ h a ha => ?_⟩
    subst y
    unfold irange3 at ha
    rw [List.getElem?_map] at ha
    cases e : (List.range (Builtin.Range.rangeSize lo hi c).toNat)[i]? with
    | none => rw [e] at ha; cases ha
    | some j =>
      rw [e] at ha
      have : j = i := by
        have := List.getElem?_eq_some_iff.mp e
        obtain ⟨h1, h2⟩ := this
        rw [List.getElem_range] at h2
        exact h2.symm
      subst this
      cases ha
      rfl
theorem i_range3 {tg e e2 e3 : Expr} {b b1 b2 b' : Bool} {m m2 m3 : Res Int} {p pos : Pos} (h : PE X e (tP b F L O m)) (h2 : PE X e2 (tP b1 F L O m2)) (h3 : PE X e3 (tP b2 F L O m3)) (hm : X.mg "range" = none) (hg : Gl X "range" := by rfl)
    (hs1 : starEach [e, e2, e3] X.env = (false, eval e X.env) :: starEach [e2, e3] X.env := by rfl) (hs2 : starEach [e2, e3] X.env = (false, eval e2 X.env) :: starEach [e3] X.env := by rfl) (hs3 : starEach [e3] X.env = (false, eval e3 X.env) :: starEach [] X.env := by rfl) (hpl : (backTo pos (starEach [e2, e3] X.env)).any (·.1) = false := by rfl) :
    PI X tg (.Call (.Name "range" p) [e, e2, e3] [] pos) (tI b' F L O (m.bind fun lo => m2.bind fun hi => m3.bind fun c => need (c ≠ 0 ∧ c.natAbs < 1073741824 ∧ Builtin.Range.small lo hi c = true) (.ok (irange3 lo hi c)))) := pi_imp (pi_range3 hg hm (pa_cons h (pa_cons h2 (pa_cons h3 pa_nil hs3) hs2) hs1) hs1 hpl) fun σ H R ⟨g, q⟩ => by
  rw [out_bind] at q
  refine ⟨g, q.mono (fun n k v H1 g1 s1 r1 => ?_) fun _ z => z⟩
  rw [out_bind] at k
  refine ⟨g1, k.mono (fun n2 k v H2 g2 s2 r2 => ?_) fun H' ⟨a, b⟩ => ⟨a, s1.trans b⟩⟩
  rw [out_bind] at k
  refine ⟨g2, k.mono (fun n3 k v H3 g3 s3 r3 => ?_) fun H' ⟨a, b⟩ => ⟨a, (s1.trans s2).trans b⟩⟩
  rw [out_need] at k
  cases r1
  cases r2
  cases r3
  exact ⟨n, n2, n3, _, rfl, ⟨k.1.1, k.1.2.1, k.1.2.2, rangeSize_toNat n n2 n3⟩, k.2 _ H3 srcR3 g3 ((s1.trans s2).trans s3) trivial⟩
end
/-! ### defs that may raise: the three kinds of what they give -/
section
variable (K : Fg) (mg : MG) {τ ρ α : Type} [RepA τ] [Rep ρ] [Rep α]
/-- a new list, or raises -/
def spXF (mir : τ → Res (List α)) : Sp := fun vs H Q E => ∃ (a : τ) (A : List Addr), (∀ x ∈ A, H x ≠ none) ∧ RepA.rep K mg (less H A) vs a ∧
  Out (F0 K mg H A E) (mir a) (fun as => ∀ p ws H', Same H H' → H p = none → H' p = some (.lst ws) → Reps K mg (less (less H' A) [p]) ws as → Q (.ref p) H') (fun H' => Same H H')
end
section
variable {P : Program} {w : World} {K : PySem.W.Frag} {mg : Str → Option Value} {base : Heap} {τ ρ α : Type} [RepA τ] [Rep ρ] [Rep α]
variable {x qual : Str} {st : Stmt} {f : Addr} {fd : FuncData} {N ps : List Str} {k : Nat}
theorem def_XF {mir : τ → Res (List α)} (Fu : Fun K x qual st f fd) (S : FnScope N ps (defScope st)) (L0 : τ → List (Option Asr)) (hl : ∀ (vs : List V) (R : Hp) (a : τ), RepA.rep K mg R vs a → vs.length = ps.length ∧ Paired (SlotOk R) (L0 a) (start N vs))
    (body : ∀ (cdv : Value) (A : Around) (outer : List Env) (s : Shared) (H : Hp) (Av : List Addr) (E : XK) (a : τ), Room k (A.deeper (envOfC qual (defScope st) s.heap.objs.size f cdv)) →
      (∀ L O, TkX (cxOf (L2N.CX P w) P w K mg base N qual (defScope st) f cdv A outer s H E) (F0 K mg H Av E) L O) →
      PSs (cxOf (L2N.CX P w) P w K mg base N qual (defScope st) f cdv A outer s H E) (defBody st) (tT (F0 K mg H Av E) (L0 a) [] (mir a) (rF (F0 K mg H Av E)))) :
    FnOk P w K mg base (L2N.CX P w) (k + 1) f fd ps (spXF K mg mir) := by
  obtain ⟨oc, od, kV, doc, pm, an, cdv, ct, osl, rfl, lk, hcd⟩ := Fu.ex
  refine fn_of lk hcd S (fun vs H Q E ⟨a, A, _, h, _⟩ => (hl vs _ a h).1) fun A outer s H vs Q E hr ⟨a, Av, hA, h, q⟩ =>
    ⟨_, body cdv A outer s H Av E a hr fun L O => ⟨_, L2N.takes_of rfl rfl rfl rfl, fun c d σ H e _ => e⟩, ⟨(hl vs _ a h).2, go_start hA⟩, ?_⟩
  exact q.mono (fun r k v H' ⟨p, ws, e, g, h1, h2, h3, h4⟩ => by subst e; exact k p ws H' (go_same g) h1 h3 h4) fun H' g => go_same g
/-- nothing (None), or raises -/
theorem def_XU {mir : τ → Res (Sum Unit Unit)} (Fu : Fun K x qual st f fd) (S : FnScope N ps (defScope st)) (L0 : τ → List (Option Asr)) (Le : List (Option Asr)) (hl : ∀ (vs : List V) (R : Hp) (a : τ), RepA.rep K mg R vs a → vs.length = ps.length ∧ Paired (SlotOk R) (L0 a) (start N vs))
    (body : ∀ (cdv : Value) (A : Around) (outer : List Env) (s : Shared) (H : Hp) (Av : List Addr) (E : XK) (a : τ), Room k (A.deeper (envOfC qual (defScope st) s.heap.objs.size f cdv)) →
      (∀ L O, TkX (cxOf (L2N.CX P w) P w K mg base N qual (defScope st) f cdv A outer s H E) (F0 K mg H Av E) L O) →
      PSs (cxOf (L2N.CX P w) P w K mg base N qual (defScope st) f cdv A outer s H E) (defBody st) (tM (F0 K mg H Av E) (L0 a) [] (mir a) (fun _ : Unit => Le) (fun _ : Unit => []) (rV (F0 K mg H Av E)))) :
    FnOk P w K mg base (L2N.CX P w) (k + 1) f fd ps (spX K mg fun a => goOn (mir a) fun _ => .ok ()) := by
  obtain ⟨oc, od, kV, doc, pm, an, cdv, ct, osl, rfl, lk, hcd⟩ := Fu.ex
  refine fn_of lk hcd S (fun vs H Q E ⟨a, A, _, h, _⟩ => (hl vs _ a h).1) fun A outer s H vs Q E hr ⟨a, Av, hA, h, q⟩ =>
    ⟨_, body cdv A outer s H Av E a hr fun L O => ⟨_, L2N.takes_of rfl rfl rfl rfl, fun c d σ H e _ => e⟩, ⟨(hl vs _ a h).2, go_start hA⟩, ?_⟩
  unfold goOn at q
  rw [out_bind] at q
  refine q.mono (fun r k => ?_) fun H' g => go_same g
  cases r with
  | inl u => exact fun σ' H' g => k .non H' (go_same g.go) rfl
  | inr d => exact fun v H' ⟨g, r'⟩ => k v H' (go_same g) r'
end
section
variable {X : Cx} {F : Fr} {L : List (Option Asr)} {O : List Own} {τ ρ α : Type} [RepA τ] [Rep ρ] [Rep α]
variable {k : Nat} {ps : List Str} {x : Str} {p1 pos : Pos} {e : Expr} {es : List Expr} {b : Bool}
theorem f_callX {mir : τ → Res (List α)} {m : Res τ} (D : DefAt X.prog X.w X.K X.mg X.base (L2N.CX X.prog X.w) k x ps (spXF X.K X.mg mir)) (hr : Room k X.A) (tk : TkX X F L O) (ha : PA X (e :: es) (tA b F L O m)) (hg : Gl X x := by rfl) (hK : X.K = F.K := by rfl) (hM : X.mg = F.mg := by rfl) (hd : (x == ("__debug__" : Str)) = false := by decide)
    (hs : starEach (e :: es) X.env = (false, eval e X.env) :: starEach es X.env := by rfl) (hs2 : ((backTo pos (starEach es X.env)).any fun x => x.fst) = false := by rfl) : PE X (.Call (.Name x p1) (e :: es) [] pos) (tF b F L O (m.bind mir)) := by
  obtain ⟨f, fd, h1, h2, h3, h4⟩ := D.ex
  obtain ⟨W, tk, hW⟩ := tk
  refine pe_imp (pe_callS (E := WE W) h1 hr hg h2 h3 h4 (fun σ => L2N.passAt tk σ) ha hd hs hs2) fun σ H Q ⟨g, q⟩ => ?_
  rw [out_bind] at q
  refine ⟨g, q.mono (fun a qa vs H1 g1 s1 r1 => ?_) fun _ z => z⟩
  refine ⟨a, avoid b F O, g1.go.avoided, by rw [hK, hM, ← rgn_avoid]; exact r1, ?_⟩
  rw [hK, hM]
  cases e : mir a with
  | ok r =>
    rw [e] at qa
    exact fun p ws H' s2 h1 h2 r2 => qa p ws H' (g1.grow s2) (s1.trans s2) (s1.free h1) h2 (by rw [rgn_avoid]; exact r2)
  | err c fs =>
    rw [e] at qa
    exact fun C d H' h1 h2 h4 => hW _ _ _ _ (qa C d H' h1 (h2.older g1.go.live) ⟨g1.grow h4, s1.trans h4⟩) (g1.grow h4)
  | bad =>
    rw [e] at qa
    exact qa.elim
/-- a call that may raise, where it does not -/
theorem n_callXq {mir : τ → Res ρ} {m : Res τ} (D : DefAt X.prog X.w X.K X.mg X.base (L2N.CX X.prog X.w) k x ps (spX X.K X.mg mir)) (hr : Room k X.A) (ha : PA X (e :: es) (tA b F L O m)) (hg : Gl X x := by rfl) (hK : X.K = F.K := by rfl) (hM : X.mg = F.mg := by rfl) (hd : (x == ("__debug__" : Str)) = false := by decide)
    (hs : starEach (e :: es) X.env = (false, eval e X.env) :: starEach es X.env := by rfl) (hs2 : ((backTo pos (starEach es X.env)).any fun x => x.fst) = false := by rfl) : PE X (.Call (.Name x p1) (e :: es) [] pos) (tP b F L O (m.bind fun a => (mir a).quiet)) := by
  obtain ⟨f, fd, h1, h2, h3, h4⟩ := D.ex
  refine pe_imp (pe_callS (E := WE (fun _ _ _ _ => False)) h1 hr hg h2 h3 h4 (fun σ => L2N.passAt takes0N σ) ha hd hs hs2) fun σ H Q ⟨g, q⟩ => ?_
  rw [out_bind] at q
  refine ⟨g, q.mono (fun a qa vs H1 g1 s1 r1 => ?_) fun _ z => z⟩
  refine ⟨a, avoid b F O, g1.go.avoided, by rw [hK, hM, ← rgn_avoid]; exact r1, ?_⟩
  rw [hK, hM]
  cases e : mir a with
  | ok r =>
    rw [e] at qa
    exact fun v H' s2 r2 => qa v H' (g1.grow s2) (s1.trans s2) (by rw [rgn_avoid]; exact r2)
  | err c fs =>
    rw [e] at qa
    exact qa.elim
  | bad =>
    rw [e] at qa
    exact qa.elim
theorem f_callXq {mir : τ → Res (List α)} {m : Res τ} (D : DefAt X.prog X.w X.K X.mg X.base (L2N.CX X.prog X.w) k x ps (spXF X.K X.mg mir)) (hr : Room k X.A) (ha : PA X (e :: es) (tA b F L O m)) (hg : Gl X x := by rfl) (hK : X.K = F.K := by rfl) (hM : X.mg = F.mg := by rfl) (hd : (x == ("__debug__" : Str)) = false := by decide)
    (hs : starEach (e :: es) X.env = (false, eval e X.env) :: starEach es X.env := by rfl) (hs2 : ((backTo pos (starEach es X.env)).any fun x => x.fst) = false := by rfl) : PE X (.Call (.Name x p1) (e :: es) [] pos) (tF b F L O (m.bind fun a => (mir a).quiet)) := by
  obtain ⟨f, fd, h1, h2, h3, h4⟩ := D.ex
  refine pe_imp (pe_callS (E := WE (fun _ _ _ _ => False)) h1 hr hg h2 h3 h4 (fun σ => L2N.passAt takes0N σ) ha hd hs hs2) fun σ H Q ⟨g, q⟩ => ?_
  rw [out_bind] at q
  refine ⟨g, q.mono (fun a qa vs H1 g1 s1 r1 => ?_) fun _ z => z⟩
  refine ⟨a, avoid b F O, g1.go.avoided, by rw [hK, hM, ← rgn_avoid]; exact r1, ?_⟩
  rw [hK, hM]
  cases e : mir a with
  | ok r =>
    rw [e] at qa
    exact fun p ws H' s2 h1 h2 r2 => qa p ws H' (g1.grow s2) (s1.trans s2) (s1.free h1) h2 (by rw [rgn_avoid]; exact r2)
  | err c fs =>
    rw [e] at qa
    exact qa.elim
  | bad =>
    rw [e] at qa
    exact qa.elim
end
/-! ### raise C(), C an own error without __init__ -/
/-- the class x, an own error (over ValueError in the end) without an __init__ of its own -/
structure Err0 (K : Fg) (mg : MG) (x : Str) : Prop where
  ex : ∃ C, mg x = some (.ref C) ∧ PySem.W.excIn K C [.type "ValueError", .type "Exception", .type "BaseException", .type "object"] "ValueError.__new__" = true ∧ PySem.W.keepIn K (.ref C) = true ∧ PySem.W.subIn K (.ref C) (.type "BaseException") = some true ∧ PySem.W.typeIn K (.ref C) = some (.type "type")
section
variable {X : Cx} {p pos pos2 : Pos} {x : Str}
theorem pmkN_own0 {C : Addr} {bmB : List Value} {B newId initId : String} (F : ExcBaseFacts B newId initId bmB) (q : PySem.W.excIn X.K C bmB newId = true) (gC : X.mg x = some (.ref C)) (kC : PySem.W.keepIn X.K (.ref C) = true) (r : Raises X (.ref C)) (hg : Gl X x)
    (hdb : (x == ("__debug__" : Str)) = false := by decide) : L2N.PMk X (.Call (.Name x p) [] [] pos) (fun _ H Q => Q (.ref C) none H) := by
  intro pins s σ H Q I h
  refine wpAny_Call_Name_kw (ld_glob I hg gC ?_ hdb)
  refine PySem.W.callWith_K0 I.kIn kC ?_
  show wpAny _ _ (call (.ref C) []) _ _ _
  obtain ⟨bm, N, nm, qn, bs, hdct, sn, sub, ab, col, dd, k0, k1, k2, k3, k5, mN, hC, hN, hni, T⟩ := exc_obj I.kIn q
  refine wpAny_call_exc_subT F T hC hN hni (fun h' e hm => ?_) (Nat.zero_le _)
  exact L2N.mk_of I hm r h (I.hok.gone hm.new)
variable {F : Fr} {L : List (Option Asr)} {O : List Own} {D' : Type} {Ret : D' → V → Hp → Prop}
/-- raise x() -/
theorem s_raise0 (D : Err0 X.K X.mg x) (hc : X.calm = true) (tk : TkX X F L O) (hO : List.Sublist F.O0 O) (hg : Gl X x := by rfl) (hM : X.mg = F.mg := by rfl) (hdb : (x == ("__debug__" : Str)) = false := by decide) :
    PS X (.Raise (some (.Call (.Name x p) [] [] pos)) none pos2) (tT F L O (.err x []) Ret) := by
  obtain ⟨C, hm, h1, h2, h3, h4⟩ := D.ex
  obtain ⟨W, tk, hW⟩ := tk
  refine ps_imp (L2N.ps_raise hc tk (pmkN_own0 PySem.F.excBase_ValueError h1 hm h2 (raises_own h3 h4) hg hdb)) fun D σ H ⟨g, q⟩ => ?_
  exact hW _ _ _ _ (q C none H (hM ▸ hm) rfl (g.go.sub hO)) g
end
end NF

set_option Elab.async false
set_option linter.all false
set_option maxRecDepth 100000
/-! Nf18: what changes the owned list: further operators, comparisons as values, places, displays, walks; a try that gives a new list. -/
namespace NF
open PySem PySem.Spec PyProof.Rows L2
open Data (toD)
section
variable {X : Cx} {F : Fr} {L : List (Option Asr)} {p : Addr} {O : List Own} {α β γ s ι : Type} [Rep α] [Rep β] [Rep γ] [Rep s] [Rep ι] {xs : List ι}
section
variable {x y : Expr} {pos : Pos} {b1 b2 b3 : Bool} {ma : Res (Int × List ι)} {mb : List ι → Res (Int × List ι)}
variable (hx : PE X x (tE b1 F L p xs O ma)) (hy : ∀ xs', PE X y (tE b2 F L p xs' O (mb xs'))) (hO : ∀ xs' : List ι, List.Sublist F.O0 (ow F.K F.mg p xs' :: O))
include hx hy hO
theorem e_shl : PE X (.BinOp x .LShift y pos) (tE b3 F L p xs O (ma.bind fun u => (mb u.2).bind fun w => (need (CPow u.1 w.1) (.ok (u.1 * 2 ^ w.1.toNat))).bind fun z => .ok (z, w.2))) := ne2 (pe_op op_shl) hx hy (fun _ => rr_I (g := fun x y => x * 2 ^ y.toNat)) hO
theorem e_shr : PE X (.BinOp x .RShift y pos) (tE b3 F L p xs O (ma.bind fun u => (mb u.2).bind fun w => (need (0 ≤ w.1) (.ok (u.1 / 2 ^ w.1.toNat))).bind fun z => .ok (z, w.2))) := ne2 (pe_op op_shr) hx hy (fun _ => rr_I (C := fun _ y => 0 ≤ y) (g := fun x y => x / 2 ^ y.toNat)) hO
theorem e_pow : PE X (.BinOp x .Pow y pos) (tE b3 F L p xs O (ma.bind fun u => (mb u.2).bind fun w => (need (CPow u.1 w.1) (.ok (u.1 ^ w.1.toNat))).bind fun z => .ok (z, w.2))) := ne2 (pe_op op_pow) hx hy (fun _ => rr_I (g := fun x y => x ^ y.toNat)) hO
theorem e_bxor : PE X (.BinOp x .BitXor y pos) (tE b3 F L p xs O (ma.bind fun u => (mb u.2).bind fun w => .ok (Builtin.bitXor u.1 w.1, w.2))) := ne2 (pe_op op_xor) hx hy (fun _ => rr_I0 (g := fun x y => Builtin.bitXor x y)) hO
theorem e_band : PE X (.BinOp x .BitAnd y pos) (tE b3 F L p xs O (ma.bind fun u => (mb u.2).bind fun w => .ok (Builtin.bitAnd u.1 w.1, w.2))) := ne2 (pe_op op_and) hx hy (fun _ => rr_I0 (g := fun x y => Builtin.bitAnd x y)) hO
theorem e_bor : PE X (.BinOp x .BitOr y pos) (tE b3 F L p xs O (ma.bind fun u => (mb u.2).bind fun w => .ok (Builtin.bitOr u.1 w.1, w.2))) := ne2 (pe_op op_or) hx hy (fun _ => rr_I0 (g := fun x y => Builtin.bitOr x y)) hO
theorem et_le : PT X (.Compare x [.LtE] [y] pos) (tEB F L p xs O (ma.bind fun u => (mb u.2).bind fun w => .ok (decide (u.1 ≤ w.1), w.2))) := ne2t (mc := fun x y => .ok (decide (x ≤ y))) (fun h1 h2 => pt_cmpR op_le h1 h2 (nomark _)) hx hy (fun _ => rr_I0 (g := fun x y => decide (x ≤ y))) hO
theorem et_ge : PT X (.Compare x [.GtE] [y] pos) (tEB F L p xs O (ma.bind fun u => (mb u.2).bind fun w => .ok (decide (w.1 ≤ u.1), w.2))) := ne2t (mc := fun x y => .ok (decide (y ≤ x))) (fun h1 h2 => pt_cmpR op_ge h1 h2 (nomark _)) hx hy (fun _ => rr_I0 (g := fun x y => decide (y ≤ x))) hO
theorem en_lt : PE X (.Compare x [.Lt] [y] pos) (tE b3 F L p xs O (ma.bind fun u => (mb u.2).bind fun w => .ok (decide (u.1 < w.1), w.2))) := ne2 (mc := fun x y => .ok (decide (x < y))) (fun h1 h2 => pe_cmpR op_lt h1 h2 (nomark _)) hx hy (fun _ => rr_I0 (g := fun x y => decide (x < y))) hO
theorem en_le : PE X (.Compare x [.LtE] [y] pos) (tE b3 F L p xs O (ma.bind fun u => (mb u.2).bind fun w => .ok (decide (u.1 ≤ w.1), w.2))) := ne2 (mc := fun x y => .ok (decide (x ≤ y))) (fun h1 h2 => pe_cmpR op_le h1 h2 (nomark _)) hx hy (fun _ => rr_I0 (g := fun x y => decide (x ≤ y))) hO
theorem en_gt : PE X (.Compare x [.Gt] [y] pos) (tE b3 F L p xs O (ma.bind fun u => (mb u.2).bind fun w => .ok (decide (w.1 < u.1), w.2))) := ne2 (mc := fun x y => .ok (decide (y < x))) (fun h1 h2 => pe_cmpR op_gt h1 h2 (nomark _)) hx hy (fun _ => rr_I0 (g := fun x y => decide (y < x))) hO
theorem en_ge : PE X (.Compare x [.GtE] [y] pos) (tE b3 F L p xs O (ma.bind fun u => (mb u.2).bind fun w => .ok (decide (w.1 ≤ u.1), w.2))) := ne2 (mc := fun x y => .ok (decide (y ≤ x))) (fun h1 h2 => pe_cmpR op_ge h1 h2 (nomark _)) hx hy (fun _ => rr_I0 (g := fun x y => decide (y ≤ x))) hO
theorem en_eq : PE X (.Compare x [.Eq] [y] pos) (tE b3 F L p xs O (ma.bind fun u => (mb u.2).bind fun w => .ok (decide (u.1 = w.1), w.2))) := ne2 (mc := fun x y => .ok (decide (x = y))) (fun h1 h2 => pe_cmpR op_eq h1 h2 (nomark _)) hx hy (fun _ x y vx vy H σ Q g rx ry q => by
  cases rx; cases ry
  exact ⟨rfl, by rw [show decide (V.int x = V.int y) = decide (x = y) by simp]; exact kp_flat g q⟩) hO
theorem en_ne : PE X (.Compare x [.NotEq] [y] pos) (tE b3 F L p xs O (ma.bind fun u => (mb u.2).bind fun w => .ok (!decide (u.1 = w.1), w.2))) := ne2 (mc := fun x y => .ok (!decide (x = y))) (fun h1 h2 => pe_cmpR op_ne h1 h2 (nomark _)) hx hy (fun _ x y vx vy H σ Q g rx ry q => by
  cases rx; cases ry
  exact ⟨rfl, by rw [show decide (V.int x = V.int y) = decide (x = y) by simp]; exact kp_flat g q⟩) hO
end
/-- what stands outside the list stays -/
theorem kb_rg {xs' ys : List ι} {H1 H2 : Hp} (s2 : KeepBut p H1 H2) : Same (rg F (ow F.K F.mg p xs' :: O) H1) (rg F (ow F.K F.mg p ys :: O) H2) := fun a o z => by
  have hb : a ∉ addrs (ow F.K F.mg p xs' :: O) ++ F.A := fun y => by unfold rg at z; rw [less_in y] at z; cases z
  unfold rg at z ⊢
  rw [less_out hb] at z
  rw [less_out (show a ∉ addrs (ow F.K F.mg p ys :: O) ++ F.A from hb)]
  exact s2 _ _ z (fun y => hb (by rw [y]; exact List.mem_append_left _ List.mem_cons_self))
theorem ne2s {x y e : Expr} {r : R2} {ma : Res (α × List ι)} {mb : List ι → Res (β × List ι)} {mc : α → β → Res γ} (c : ∀ {ta tb : TE}, PE X x ta → PE X y tb → PE X e (tOp r ta tb))
    (hx : PE X x (tE true F L p xs O ma)) (hy : ∀ xs', PE X y (tE true F L p xs' O (mb xs'))) (hr : ∀ xs' : List ι, RR F L (ow F.K F.mg p xs' :: O) true true true r mc) (hO : ∀ xs' : List ι, List.Sublist F.O0 (ow F.K F.mg p xs' :: O)) :
    PE X e (tE true F L p xs O (ma.bind fun u => (mb u.2).bind fun w => (mc u.1 w.1).bind fun z => .ok (z, w.2))) := pe_imp (c hx (pe_ex hy)) fun σ H Q ⟨g, q⟩ => by
  rw [out_bind] at q
  refine ⟨g, q.mono (fun u qx v1 H1 g1 s1 r1 => ?_) fun _ z => z⟩
  rw [out_bind] at qx
  refine ⟨u.2, g1, qx.mono (fun w qy v2 H2 g2 s2 r2 => ?_) fun _ z => z⟩
  rw [out_bind] at qy
  exact hr w.2 u.1 w.1 v1 v2 H2 σ Q g2 (Rep.mono (kb_rg s2) r1) r2 (qy.mono (fun z kz v H' g' s' r' => kz v H' g' ((s1.trans s2).trans (.of s')) r') fun H' ⟨a, b⟩ => a.go.sub (hO _))
theorem rr_idx [Lk s α] {b1 b2 : Bool} (hK : X.K = F.K) : RR F L O b1 b2 b1 (fun x y H Q => rIxL X.K x y H Q ∨ rIxT X.K x y H Q) fun (x : s) (y : Int) => idx (Lk.its x) y := fun x y vx vy H σ Q g rx ry q => by
  unfold idx at q
  dsimp only at q
  cases e : atI (Lk.its x) y with
  | none => rw [e] at q; exact q.elim
  | some a =>
    rw [e] at q
    obtain ⟨p, vs, h1, h2, h3⟩ := Lk.get rx
    obtain ⟨v, h4, h5⟩ := at_get h3 e
    subst h1
    cases ry
    rw [hK]
    rcases h2 with h2 | h2
    · exact .inl ⟨p, vs, y, v, rfl, rfl, rgn_sub.seq h2, h4, q v H g (Same.refl _) h5⟩
    · exact .inr ⟨p, vs, y, v, rfl, rfl, same_t rgn_sub h2, h4, q v H g (Same.refl _) h5⟩
theorem e_idx [Lk s α] {x y : Expr} {pos : Pos} {ma : Res (s × List ι)} {mb : List ι → Res (Int × List ι)} (hx : PE X x (tE true F L p xs O ma)) (hy : ∀ xs', PE X y (tE true F L p xs' O (mb xs'))) (hO : ∀ xs' : List ι, List.Sublist F.O0 (ow F.K F.mg p xs' :: O)) (hp : PlainIx y := by exact fun _ _ => rfl) (hK : X.K = F.K := by rfl) :
    PE X (.Subscript x y pos) (tE true F L p xs O (ma.bind fun u => (mb u.2).bind fun w => (idx (Lk.its u.1) w.1).bind fun z => .ok (z, w.2))) := ne2s (fun h1 h2 => pe_ix (ix_or ix_list ix_tup) h1 h2 hp) hx hy (fun _ => rr_idx hK) hO
/-! ### displays -/
def tEL (F : Fr) (L : List (Option Asr)) (p : Addr) (xs : List ι) (O : List Own) (m : Res (List α × List ι)) : TA := fun σ H Q =>
  G F L (ow F.K F.mg p xs :: O) σ H ∧ Out F m (fun r => ∀ vs H', G F L (ow F.K F.mg p r.2 :: O) σ H' → KeepBut p H H' → Reps F.K F.mg (rg F (ow F.K F.mg p r.2 :: O) H') vs r.1 → Q vs H') (XPS F)
theorem el_p {es : List Expr} {m : Res (List α)} (hO : List.Sublist F.O0 (ow F.K F.mg p xs :: O)) (h : PA X es (tL true F L (ow F.K F.mg p xs :: O) m)) : PA X es (tEL F L p xs O (m.bind fun a => .ok (a, xs))) := pa_imp h fun σ H Q ⟨g, q⟩ => by
  rw [out_bind] at q
  exact ⟨g, q.mono (fun a k vs H' g' s r => k vs H' g' (.of s) r) fun H' ⟨a, _⟩ => a.go.sub hO⟩
theorem el_cons {e : Expr} {es : List Expr} {ma : Res (α × List ι)} {mr : List ι → Res (List α × List ι)} (he : PE X e (tE true F L p xs O ma)) (hr : ∀ xs', PA X es (tEL F L p xs' O (mr xs'))) (hs : starEach (e :: es) X.env = (false, eval e X.env) :: starEach es X.env := by rfl) :
    PA X (e :: es) (tEL F L p xs O (ma.bind fun u => (mr u.2).bind fun w => .ok (u.1 :: w.1, w.2))) := pa_imp (pa_cons he (pa_ex hr) hs) fun σ H Q ⟨g, q⟩ => by
  rw [out_bind] at q
  refine ⟨g, q.mono (fun u qx v1 H1 g1 s1 r1 => ?_) fun _ z => z⟩
  rw [out_bind] at qx
  refine ⟨u.2, g1, qx.mono (fun w qy v2 H2 g2 s2 r2 => ?_) fun _ z => z⟩
  exact qy _ H2 g2 (s1.trans s2) (.cons (Rep.mono (kb_rg s2) r1) r2)
theorem e_lst {es : List Expr} {m : Res (List α × List ι)} {pos : Pos} (h : PA X es (tEL F L p xs O m)) : PE X (.List es pos) (tE true F L p xs O (m.bind fun r => need (r.1.length ≤ sizeLine) (.ok (r.1, r.2)))) := pe_imp (pe_lst h) fun σ H Q ⟨g, q⟩ => by
  rw [out_bind] at q
  refine ⟨g, q.mono (fun r qx vs H1 g1 s1 r1 => ?_) fun _ z => z⟩
  rw [out_need] at qx
  refine ⟨by rw [r1.length]; exact qx.1, fun p' hp => qx.2 _ _ (g1.grow (same_upd hp)) (s1.trans (.of (same_upd hp))) ?_⟩
  exact ⟨p', vs, rfl, rgn_new (b := true) g1 (same_upd hp) hp upd_same, r1.mono (rgn_grow (b := true) (same_upd hp))⟩
/-! ### walks -/
def tIE (F : Fr) (L : List (Option Asr)) (p : Addr) (xs : List ι) (O : List Own) (m : Res (List α × List ι)) : TI := fun σ H R =>
  G F L (ow F.K F.mg p xs :: O) σ H ∧ Out F m (fun r => ∀ J H' (S : Src F.K F.mg J r.1), G F L (ow F.K F.mg p r.2 :: O) σ H' → KeepBut p H H' → S.src (rg F (ow F.K F.mg p r.2 :: O) H') → R J H') (XPS F)
theorem i_lkE [Lk s α] {tg e : Expr} {m : Res (s × List ι)} (h : PE X e (tE true F L p xs O m)) (hK : X.K = F.K := by rfl) : PI X tg e (tIE F L p xs O (m.bind fun r => .ok (Lk.its r.1, r.2))) := pi_imp (pi_seq h) fun σ H R ⟨g, q⟩ => by
  rw [out_bind] at q
  refine ⟨g, q.mono (fun x k v H1 g1 s1 r1 => ?_) fun _ z => z⟩
  obtain ⟨p, vs, h1, h2, h3⟩ := Lk.get r1
  refine ⟨p, vs, h1, ?_⟩
  rw [hK]
  rcases h2 with h2 | h2
  · exact .inl ⟨less_same.seq h2, k _ H1 (srcL h3.length) g1 s1 ⟨h2, h3⟩⟩
  · exact .inr ⟨same_t less_same h2, k _ H1 (srcT h3.length) g1 s1 ⟨h2, h3⟩⟩
theorem i_range1E {tg e : Expr} {b : Bool} {m : Res (Int × List ι)} {p1 pos : Pos} (h : PE X e (tE b F L p xs O m)) (hm : X.mg "range" = none) (hg : Gl X "range" := by rfl) (h1 : starEach [e] X.env = (false, eval e X.env) :: starEach [] X.env := by rfl) (hs : starEach [e] X.env = [(false, eval e X.env)] := by rfl) :
    PI X tg (.Call (.Name "range" p1) [e] [] pos) (tIE F L p xs O (m.bind fun r => need (Rg62 r.1) (.ok (irange 0 r.1, r.2)))) := pi_imp (pi_range1 hg hm (pa_cons h pa_nil h1) hs) fun σ H R ⟨g, q⟩ => by
  rw [out_bind] at q
  refine ⟨g, q.mono (fun n k v H1 g1 s1 r1 => ?_) fun _ z => z⟩
  rw [out_need] at k
  obtain ⟨n, xs1⟩ := n
  have r1' : v = V.int n := r1
  subst r1'
  refine ⟨n, rfl, k.1.1, k.1.2, ?_⟩
  have e : (n - 0).toNat = n.toNat := by rw [Int.sub_zero]
  have kk := k.2 (Itr 0 (n - 0).toNat) H1 srcR g1 s1 trivial
  rw [e] at kk
  exact kk
theorem s_forE {B : Type} {tg iter : Expr} {g : TG} {vs : List Nat} {bd : α → List (Option Asr) → List (Option Asr)} {m : Res (List α × List ι)} {f : α → B → Res B} {body : List Stmt} {pos : Pos} {L' : B → List (Option Asr)} {O' : B → List Own} {b0 : List ι → B} (sp : ∀ xs', Sp3 L' O' (b0 xs'))
    (hp : PassesOwn (model X.prog X.w) X.A X.env X.xe) (hc : X.calm = true) (hi : PI X tg iter (tIE F L p xs O m)) (ht : Tg X F.K F.mg tg g vs bd) (hO : ∀ xs' : List ι, List.Sublist F.O0 (ow F.K F.mg p xs' :: O)) (hw : ∀ xs' : List ι, wk L (L' (b0 xs'))) (ho : ∀ xs' : List ι, List.Sublist (O' (b0 xs')) (ow F.K F.mg p xs' :: O))
    (hb : ∀ z a b, PSs X body (tN (F.add z) (bd a (L' b)) (O' b) (f a b) L' O')) (hs : ∀ x, foldedSetIterable iter X.env x = pure x := by intro _; rfl) : PS X (.For tg iter body [] pos) (tN F L (ow F.K F.mg p xs :: O) (m.bind fun r => foldR f r.1 (b0 r.2)) L' O') := by
  have hb' : PSs X body (fun D σ H => ∃ z a b, tN (F.add z) (bd a (L' b)) (O' b) (f a b) L' O' D σ H) := pss_ex fun z => pss_ex fun a => pss_ex fun b => hb z a b
  have hg : PG X tg g := ht.pg
  refine ps_imp (ps_for hp hc hi hg hb' hs) fun D σ H ⟨g0, q⟩ => ?_
  rw [out_bind] at q
  refine ⟨g0, q.mono (fun r k J H1 S g1 s1 hS => ?_) fun _ z => z⟩
  obtain ⟨as, xs1⟩ := r
  have zf : ∃ z : Fact, z = ⟨S.src, fun e h => S.mono e h⟩ := ⟨_, rfl⟩
  obtain ⟨z, hz⟩ := zf
  refine for_it S.walk (g := g) (tb := fun D σ H => ∃ z a b, tN (F.add z) (bd a (L' b)) (O' b) (f a b) L' O' D σ H) (D := D) (σ := σ) (H := H1) (fun i σ H => ∃ b, G (F.add z) (L' b) (O' b) σ H ∧ Out F (foldR f (as.drop i) b) (fun b => ∀ σ' H', G F (L' b) (O' b) σ' H' → D.nx σ' H') (XPS F)) ⟨b0 xs1, ?_, k⟩ ?_ ?_ ?_
  · have g2 := g1.to (hw xs1) (ho xs1)
    refine ⟨g2.slots, g2.go.add z ?_⟩
    subst hz
    exact S.mono (rg_sub (ho xs1)) hS
  · rintro i σ H _ ⟨b, g2, _⟩
    have h := g2.go.fact
    subst hz
    exact S.mono less_same h
  · rintro i x σ H H' hi ⟨b, g2, q2⟩ y
    have ha : as[i]? = some as[i] := List.getElem?_eq_getElem hi
    rw [List.drop_eq_getElem_cons hi] at q2
    rw [show foldR f (as[i] :: List.drop (i + 1) as) b = (f as[i] b).bind fun b => foldR f (List.drop (i + 1) as) b from rfl, out_bind] at q2
    obtain ⟨s2, yy⟩ := S.ylds i H x H' y
    have hsrc : S.src (rg F (O' b) H) := by
      have h := g2.go.fact
      subst hz
      exact h
    have r2 : rp (F.add z) (rg F (O' b) H') x as[i] := yy _ (fun a ha z => g2.go.out z ha) hsrc _ ha
    have g3 := g2.grow s2
    refine ht.ok x as[i] σ H' (rg F (O' b) H') (L' b) _ less_same r2 g3.slots fun σ2 _ hs2 => ?_
    exact ⟨z, as[i], b, ⟨hs2, g3.go⟩, out_add.mpr (q2.mono (fun b' kb σ' H'' g' => ⟨b', g', kb⟩) fun H'' (x : GO (F.add z) F.O0 H'') => x.unadd)⟩
  · rintro σ H ⟨b, g2, q2⟩
    rw [List.drop_length] at q2
    exact q2 σ H ⟨g2.slots, g2.go.unadd⟩
theorem s_forME {B D' : Type} {tg iter : Expr} {g : TG} {vs : List Nat} {bd : α → List (Option Asr) → List (Option Asr)} {m : Res (List α × List ι)} {f : α → B → Res (Sum B D')} {body : List Stmt} {pos : Pos} {Ret : D' → V → Hp → Prop} {L' : B → List (Option Asr)} {O' : B → List Own} {b0 : List ι → B} (sp : ∀ xs', Sp3 L' O' (b0 xs'))
    (hp : PassesOwn (model X.prog X.w) X.A X.env X.xe) (hc : X.calm = true) (hi : PI X tg iter (tIE F L p xs O m)) (ht : Tg X F.K F.mg tg g vs bd) (hO : ∀ xs' : List ι, List.Sublist F.O0 (ow F.K F.mg p xs' :: O)) (hw : ∀ xs' : List ι, wk L (L' (b0 xs'))) (ho : ∀ xs' : List ι, List.Sublist (O' (b0 xs')) (ow F.K F.mg p xs' :: O))
    (hb : ∀ z a b, PSs X body (tM (F.add z) (bd a (L' b)) (O' b) (f a b) L' O' Ret)) (hs : ∀ x, foldedSetIterable iter X.env x = pure x := by intro _; rfl) : PS X (.For tg iter body [] pos) (tM F L (ow F.K F.mg p xs :: O) (m.bind fun r => foldM f r.1 (b0 r.2)) L' O' Ret) := by
  have hb' : PSs X body (fun D σ H => ∃ z a b, tM (F.add z) (bd a (L' b)) (O' b) (f a b) L' O' Ret D σ H) := pss_ex fun z => pss_ex fun a => pss_ex fun b => hb z a b
  have hg : PG X tg g := ht.pg
  refine ps_imp (ps_for hp hc hi hg hb' hs) fun D σ H ⟨g0, q⟩ => ?_
  rw [out_bind] at q
  refine ⟨g0, q.mono (fun r k J H1 S g1 s1 hS => ?_) fun _ z => z⟩
  obtain ⟨as, xs1⟩ := r
  have zf : ∃ z : Fact, z = ⟨S.src, fun e h => S.mono e h⟩ := ⟨_, rfl⟩
  obtain ⟨z, hz⟩ := zf
  refine for_it S.walk (g := g) (tb := fun D σ H => ∃ z a b, tM (F.add z) (bd a (L' b)) (O' b) (f a b) L' O' Ret D σ H) (D := D) (σ := σ) (H := H1) (fun i σ H => ∃ b, G (F.add z) (L' b) (O' b) σ H ∧ Out F (foldM f (as.drop i) b) (fun r => match r with
    | .inl b => ∀ σ' H', G F (L' b) (O' b) σ' H' → D.nx σ' H'
    | .inr d => ∀ v H', Ret d v H' → D.rt v H') (XPS F)) ⟨b0 xs1, ?_, k⟩ ?_ ?_ ?_
  · have g2 := g1.to (hw xs1) (ho xs1)
    refine ⟨g2.slots, g2.go.add z ?_⟩
    subst hz
    exact S.mono (rg_sub (ho xs1)) hS
  · rintro i σ H _ ⟨b, g2, _⟩
    have h := g2.go.fact
    subst hz
    exact S.mono less_same h
  · rintro i x σ H H' hi ⟨b, g2, q2⟩ y
    have ha : as[i]? = some as[i] := List.getElem?_eq_getElem hi
    rw [List.drop_eq_getElem_cons hi] at q2
    rw [show foldM f (as[i] :: List.drop (i + 1) as) b = (f as[i] b).bind fun r => match r with
      | .inl b => foldM f (List.drop (i + 1) as) b
      | .inr d => .ok (.inr d) from rfl, out_bind] at q2
    obtain ⟨s2, yy⟩ := S.ylds i H x H' y
    have hsrc : S.src (rg F (O' b) H) := by
      have h := g2.go.fact
      subst hz
      exact h
    have r2 : rp (F.add z) (rg F (O' b) H') x as[i] := yy _ (fun a ha z => g2.go.out z ha) hsrc _ ha
    have g3 := g2.grow s2
    refine ht.ok x as[i] σ H' (rg F (O' b) H') (L' b) _ less_same r2 g3.slots fun σ2 _ hs2 => ?_
    refine ⟨z, as[i], b, ⟨hs2, g3.go⟩, out_add.mpr (q2.mono (fun r kb => ?_) fun H'' (x : GO (F.add z) F.O0 H'') => x.unadd)⟩
    cases r with
    | inl b' => exact fun σ' H'' g' => ⟨b', g', kb⟩
    | inr d => exact fun v H'' hr => kb v H'' hr
  · rintro σ H ⟨b, g2, q2⟩
    rw [List.drop_length] at q2
    exact q2 σ H ⟨g2.slots, g2.go.unadd⟩
end
end NF

set_option Elab.async false
set_option linter.all false
set_option maxRecDepth 100000
set_option maxHeartbeats 1000000
/-! Nf19: a try whose body gives a new list; a comprehension of two clauses. -/
namespace NF
open PySem PySem.Spec PyProof.Rows L2
open Data (toD)
/-- goes on with a new owned object, or hands back -/
def tMp {β δ : Type} (F : Fr) (L : List (Option Asr)) (O : List Own) (m : Res (Sum β δ)) (L' : Addr → β → List (Option Asr)) (O' : Addr → β → List Own) (Ret : δ → V → Hp → Prop) : TS := fun D σ H =>
  G F L O σ H ∧ Out F m (fun r => match r with
    | .inl b => ∀ p σ' H', G F (L' p b) (O' p b) σ' H' → D.nx σ' H'
    | .inr d => ∀ v H', Ret d v H' → D.rt v H') (XPS F)
section
variable {X : Cx} {F : Fr} {L Lh : List (Option Asr)} {O : List Own} {B D' : Type} {Ret : D' → V → Hp → Prop} {L' : Addr → B → List (Option Asr)} {O' : Addr → B → List Own}
theorem mp_own {st : Stmt} {m1 : Res B} (h : PS X st (tNp F L O m1 L' O')) : PSs X [st] (tMp F L O (m1.bind fun b => .ok (.inl b)) L' O' Ret) := pss_one (ps_imp h fun D σ H ⟨g, q⟩ => by
  rw [out_bind] at q
  exact ⟨g, q⟩)
theorem mp_T {m : Res D'} {st : List Stmt} (h : PSs X st (tT F L O m Ret)) : PSs X st (tMp F L O (m.bind fun d => .ok (.inr d)) L' O' Ret) := pss_imp h fun D σ H ⟨g, q⟩ => by
  rw [out_bind] at q
  exact ⟨g, q⟩
theorem b_Mp {st : Stmt} {rest : List Stmt} {m1 : Res (Sum B D')} {m2 : B → Res D'} (h1 : PS X st (tMp F L O m1 L' O' Ret)) (h2 : ∀ b p, PSs X rest (tT F (L' p b) (O' p b) (m2 b) Ret)) :
    PSs X (st :: rest) (tT F L O (goOn m1 m2) Ret) := pss_imp (pss_cons h1 (pss_ex fun b => pss_ex (h2 b))) fun D σ H ⟨g, q⟩ => by
  unfold goOn at q
  rw [out_bind] at q
  refine ⟨g, q.mono (fun r k => ?_) fun _ z => z⟩
  cases r with
  | inl b => exact fun p σ' H' g' => ⟨b, p, g', k⟩
  | inr d => exact k
variable {x n : Str} {C : Addr} {body suite : List Stmt} {b₀ : Stmt} {np pos pos' : Pos}
theorem s_tryO {W0 : WX} {mb : Res (Sum B D')} {mh : List (Str × PyData) → Res (Sum B D')} (i : Nat) (hm : X.mg x = some (.ref C)) (hex : PySem.W.exmOne X.K (.ref C) (.ref C) = some true) (tk : L2N.Takes X W0) (hN : X.N.Nodup) (hno : NoXd O) (hO : List.Sublist F.O0 O)
    (hLi : ∀ p b, (L' p b).set i none = L' p b)
    (hb : ∀ (E' : XK) (pn : List (Addr × Obj)) (xe : Value → Shared → Prop), TkX (X.tr pn xe) (Ft F E' O) Lh O → PSs (X.tr pn xe) body (tMp (Ft F E' O) L O mb L' O' Ret))
    (hh : ∀ (a : Addr) (oe : Obj) (d : Option Addr) (pn : List (Addr × Obj)) (fs : List (Str × PyData)), L2N.Zn (.ref C) d oe → (∃ vs, oe.data = .fields vs) → PSs (X.suite a ((a, oe) :: pn)) (b₀ :: suite) (tMp (F.add (xdF d fs)) (Lh.set i (rf a)) O (mh fs) L' O' Ret))
    (hi : X.N[i]? = some n := by rfl) (hln : X.env.kindOf n = some .local := by rfl) (hg : Gl X x := by rfl) (hdb : (x == ("__debug__" : Str)) = false := by decide) (hs : X.stack = X.env :: X.outer := by rfl) (hf : X.env.frame = some X.env.locals := by rfl) (hK : X.K = F.K := by rfl) (hM : X.mg = F.mg := by rfl) :
    PS X (.Try body [.ExceptHandler (some (.Name x np)) (some n) (b₀ :: suite) pos'] [] [] pos) (tMp F L O (tryR x mb mh) L' O' Ret) := by
  have hc : Names X x (.ref C) := ⟨hg, hdb, .inl hm⟩
  refine ps_imp (L2N.ps_try_as (tb := fun W D σ H => tMp (Ft F (fun cls d H' => ∀ σ', G F Lh O σ' H' → W cls d σ' H') O) L O mb L' O' Ret D σ H)
    (ts := fun a cls d D σ H => cls = .ref C ∧ ∃ fs, tMp (F.add (xdF d fs)) (Lh.set i (rf a)) O (mh fs) L' O' Ret D σ H) (i := i) hs hf hN hi hln hc tk
    (fun W pn xe tkW _ => hb _ pn xe ⟨W, tkW, fun c d σ H e g => e σ (g_tf g)⟩)
    (fun a oe cls d pn hz hd => pss_fact fun e => pss_ex fun fs => by
      subst e
      exact hh a oe d pn fs hz hd)) fun D σ H ⟨g, q⟩ => ?_
  refine ⟨g_ft g, ?_⟩
  cases em : mb with
  | ok r =>
    rw [em] at q
    cases r with
    | inl b => exact fun p σ' H' g' => q p σ' H' (g_tf g')
    | inr d => exact q
  | bad =>
    rw [em] at q
    exact q
  | err c fs =>
    rw [em] at q
    unfold tryR at q
    by_cases hcx : c = x
    · subst hcx
      simp only [if_true] at q
      rw [out_need] at q
      obtain ⟨hfl, q⟩ := q
      intro C' d H' h1 h2 h4 σ' gh
      have eC : C' = C := by
        have z : F.mg c = some (.ref C') := h1
        rw [← hM, hm] at z
        cases z
        rfl
      subst eC
      refine ⟨true, hex, fun _ a na => ⟨rfl, fs, ⟨paired_set (x := rf a) (y := some (V.ref a)) rfl i gh.slots, gh.go.add _ ?_⟩, ?_⟩, fun z => by cases z⟩
      · cases d with
        | none => exact h2
        | some d =>
          obtain ⟨h5, vs, h6, h7⟩ := h2
          have e := xd_flat h7 hfl
          subst e
          show less H' (addrs O ++ F.A) d = _
          rw [less_out]
          · exact h6
          · intro z
            rcases List.mem_append.mp z with z | z
            · obtain ⟨w, hw, e⟩ := List.mem_map.mp z
              obtain ⟨o, h8, h9⟩ := gh.go.objs w hw
              rw [e, h6] at h8
              cases h8
              exact hno w hw _ _ h9
            · exact gh.go.hid d z h5
      · rw [out_add]
        refine q.mono (fun r k => ?_) fun H'' (x : GO (F.add _) F.O0 H'') => x.unadd
        cases r with
        | inl b => exact fun p σ2 H2 g2 => k _ _ _ ⟨by have z := paired_set (x := (none : Option Asr)) (y := (none : Option V)) (R := SlotOk (rg F (O' p b) H2)) trivial i g2.slots; rwa [hLi] at z, g2.go.unadd⟩
        | inr d => exact k
    · simp only [if_neg hcx] at q
      exact q.elim
end
/-! ### [e for a in xs for b in ys] -/
def comp2R {α β γ : Type} (p : α → Res Bool) (it : α → Res (List β)) (p1 : α → β → Res Bool) (f : α → β → Res γ) : Nat → List α → Res (List γ)
  | _, [] => .ok []
  | n, a :: as => (p a).bind fun c => if c then (it a).bind fun bs => need (n + bs.length ≤ sizeLine) ((filtR (p1 a) (f a) bs).bind fun ys => (comp2R p it p1 f (n + bs.length) as).bind fun zs => .ok (ys ++ zs)) else comp2R p it p1 f n as
section
variable {J : It} {n : Nat} {G0 : Hp → Prop} {Y : Nat → Hp → V → Hp → Prop}
theorem lc_out (w : Walk J n G0 Y) {g : TG} {vs : List Nat} {σ : L2.St} {H0 : Hp} {Qd : Hp → Prop} (Body : L2.St → Hp → (Hp → Prop) → Prop) (Pv : Nat → Hp → Prop) (h0 : Pv 0 H0) (hG : ∀ j H, j ≤ n → Pv j H → G0 H)
    (hs : ∀ j x H H', j < n → Pv j H → Y j H x H' → g x (wipe σ vs) H' fun σ3 H5 => wipe σ3 vs = wipe σ vs ∧ Body σ3 H5 (Pv (j + 1))) (hd : ∀ H, Pv n H → Qd H) :
    ∃ W1 : Nat → Nat → Hp → Prop, (∃ m, W1 0 m H0) ∧ ∀ j k H, W1 j k H →
      (J.stop j H ∧ Qd H) ∨ (J.go j H ∧ ∃ Nx1 : Hp → Prop, (∀ H', Nx1 H' → ∃ k', k' < k ∧ W1 (j + 1) k' H') ∧ ∀ x H', J.yld j H x H' → g x (wipe σ vs) H' fun σ3 H5 => wipe σ3 vs = wipe σ vs ∧ Body σ3 H5 Nx1) := by
  refine ⟨fun j k H => k = n - j ∧ j ≤ n ∧ Pv j H, ⟨n, by simp, Nat.zero_le _, h0⟩, ?_⟩
  rintro j k H ⟨rfl, hj, p⟩
  have q := hG j H hj p
  by_cases hlt : j < n
  · exact .inr ⟨w.goes j H hlt q, Pv (j + 1), fun H' p' => ⟨n - (j + 1), by omega, rfl, hlt, p'⟩, fun x H' y => hs j x H H' hlt p (w.yields j H x H' hlt q y)⟩
  · have e : j = n := by omega
    subst e
    exact .inl ⟨w.stops H q, hd H p⟩
end
section
variable {X : Cx} {F : Fr} {L : List (Option Asr)} {O : List Own} {α β γ s : Type} [Rep α] [Rep β] [Rep γ] [Rep s]
theorem rsame {D : Addr} {ds ds' : List γ} {H4 H : Hp} (h : Same (less H4 [D]) (less H [D])) : Same (rg F (ow F.K F.mg D ds :: O) H4) (rg F (ow F.K F.mg D ds' :: O) H) := fun a o z => by
  unfold rg at z ⊢
  by_cases hb : a ∈ addrs (ow F.K F.mg D ds :: O) ++ F.A
  · rw [less_in hb] at z; cases z
  · rw [less_out hb] at z
    rw [less_out (show a ∉ addrs (ow F.K F.mg D ds' :: O) ++ F.A from hb)]
    have hne : a ∉ [D] := fun y => hb (by rw [List.mem_singleton.mp y]; exact List.mem_append_left _ List.mem_cons_self)
    have z1 := h a o (by rw [less_out hne]; exact z)
    rw [less_out hne] at z1
    exact z1
theorem comp2_core {bO : Bool} {g g1 : TG} {vs vs1 : List Nat} {bd : α → List (Option Asr) → List (Option Asr)} {bd1 : β → List (Option Asr) → List (Option Asr)} {m : Res (List α)} {p : α → Res Bool} {it : α → Res (List β)} {p1 : α → β → Res Bool} {f : α → β → Res γ} {wi wi1 : TI} (tt tt1 : TT) (te : TE)
    (hi : wi = tI bO F L O m) (hfl : bO = true ∨ FlatP α) (ht : TgOk F.K F.mg g vs bd) (htt : tt = fun σ H Q => ∃ a D ds, tB' F.nox (bd a (wipeL L vs)) (ow (α := γ) F.K F.mg D ds :: O) (p a) σ H Q)
    (hi1 : wi1 = fun σ H R => ∃ a D ds, tI true F.nox (bd a (wipeL L vs)) (ow (α := γ) F.K F.mg D ds :: O) (it a) σ H R) (ht1 : TgOk F.K F.mg g1 vs1 bd1)
    (htt1 : tt1 = fun σ H Q => ∃ a b D ds, tB' F.nox (bd1 b (wipeL (bd a (wipeL L vs)) vs1)) (ow (α := γ) F.K F.mg D ds :: O) (p1 a b) σ H Q)
    (hte : te = fun σ H Q => ∃ a b D ds, tP true F.nox (bd1 b (wipeL (bd a (wipeL L vs)) vs1)) (ow (α := γ) F.K F.mg D ds :: O) (f a b) σ H Q) (σ : L2.St) (H : Hp) (Q : VK)
    (h : tF true F L O (m.bind fun as => comp2R (fun a => (p a).quiet) (fun a => (it a).quiet) (fun a b => (p1 a b).quiet) (fun a b => (f a b).quiet) 0 as) σ H Q) : tLc2 wi g tt wi1 g1 tt1 te vs vs1 σ H Q := by
  subst hi
  obtain ⟨g0, q⟩ := h
  rw [out_bind] at q
  refine ⟨g0, q.mono (fun as k J H1 S gg s1 hS => ?_) fun _ z => z⟩
  intro D hD
  refine lc_out S.walk (g := g) (vs := vs) (σ := σ) (H0 := upd H1 D (.lst [])) (Qd := fun H => Q (.ref D) H)
    (fun σ2 H2 Nx => tt σ2 H2 fun b H3 =>
      if b = true then wi1 σ2 H3 fun J1 H4 => ∃ W1 : Nat → Nat → Hp → Prop, (∃ m, W1 0 m H4) ∧ ∀ j k H, W1 j k H →
        (J1.stop j H ∧ Nx H) ∨ (J1.go j H ∧ ∃ Nx1 : Hp → Prop, (∀ H', Nx1 H' → ∃ k', k' < k ∧ W1 (j + 1) k' H') ∧ ∀ x H', J1.yld j H x H' → g1 x (wipe σ2 vs1) H' fun σ3 H5 => wipe σ3 vs1 = wipe σ2 vs1 ∧ tt1 σ3 H5 fun b H6 =>
          if b = true then te σ3 H6 fun y H7 => ∃ acc, H7 D = some (.lst acc) ∧ acc.length < sizeLine ∧ Nx1 (upd H7 D (.lst (acc ++ [y]))) else Nx1 H6)
      else Nx H3)
    (fun i H => ∃ (n : Nat) (ds : List γ) (vd : List V), H D = some (.lst vd) ∧ ds.length ≤ n ∧ Reps F.K F.mg (less (rg F O H) [D]) vd ds ∧ Same H1 (less H [D]) ∧ Out F (comp2R (fun a => (p a).quiet) (fun a => (it a).quiet) (fun a b => (p1 a b).quiet) (fun a b => (f a b).quiet) n (as.drop i)) (fun rest => KF γ true F L O σ H1 Q (ds ++ rest)) (fun _ => False))
    ⟨0, [], [], upd_same, Nat.le_refl _, .nil, ?_, ?_⟩ ?_ ?_ ?_
  · intro a o ha
    have hne : a ≠ D := ne_of_none ha hD
    rw [less_out (fun z => hne (List.mem_singleton.mp z)), upd_ne hne]
    exact ha
  · exact k.mono (fun ds kk => (KF.mono s1 kk)) fun _ z => z.elim
  · rintro i H _ ⟨n, ds, vd, h1, _, h2, h3, _⟩
    exact S.mono (h3.trans less_same) (S.mono rgn_sub hS)
  · rintro i x H H' hi ⟨n, ds, vd, h1, hl, h2, h3, q2⟩ y
    have ha : as[i]? = some as[i] := List.getElem?_eq_getElem hi
    have sH : Same H1 H := h3.trans less_same
    have gH : G F L O σ H := gg.grow sH
    have go2 : GO F (ow F.K F.mg D ds :: O) H := go_new gg gH.go sH hD h1 h2
    obtain ⟨s2, yy⟩ := S.ylds i H x H' y
    have g2 : G F L (ow F.K F.mg D ds :: O) σ H := ⟨L2.Paired.mapP gg.slots fun _ _ z => z.mono (rg_new rfl sH hD), go2⟩
    have g3 : G F L (ow F.K F.mg D ds :: O) σ H' := g2.grow s2
    have rx : rp F (rg F (ow F.K F.mg D ds :: O) H') x as[i] := by
      rcases hfl with e | e
      · subst e
        exact yy _ (fun a ha z => go2.out z ha) (S.mono (rg_new rfl sH hD) hS) _ ha
      · exact e (yy [] (fun _ z => (List.not_mem_nil z).elim) (S.mono (sH.trans (fun a o z => by rw [less_out List.not_mem_nil]; exact z)) (S.mono rgn_sub hS)) _ ha)
    have gn : G F.nox (wipeL L vs) (ow F.K F.mg D ds :: O) (wipe σ vs) H' := ⟨wipe_ok g3.slots vs, g3.go.nox⟩
    refine ht x as[i] (wipe σ vs) H' (rg F (ow F.K F.mg D ds :: O) H') (wipeL L vs) _ less_same rx gn.slots fun σ2 e2 hs2 => ?_
    refine ⟨e2.trans (wipe_wipe σ vs), ?_⟩
    rw [List.drop_eq_getElem_cons hi] at q2
    rw [comp2R, out_bind] at q2
    have gb : G F.nox (bd as[i] (wipeL L vs)) (ow F.K F.mg D ds :: O) σ2 H' := ⟨hs2, gn.go⟩
    have lss : ∀ {H'' : Hp}, Same H' H'' → Same H1 (less H'' [D]) := fun {H''} e a o z => by
      have z1 := h3 a o z
      by_cases hb : a ∈ [D]
      · rw [less_in hb] at z1; cases z1
      · rw [less_out hb] at z1 ⊢
        exact e _ _ (s2 _ _ z1)
    have regD : ∀ {H'' : Hp} {ds' : List γ}, Same (rg F (ow F.K F.mg D ds' :: O) H'') (less (rg F O H'') [D]) := fun {H'' ds'} a o z => by
      unfold rg at z ⊢
      by_cases hb : a ∈ addrs (ow F.K F.mg D ds' :: O) ++ F.A
      · rw [less_in hb] at z; cases z
      · rw [less_out hb] at z
        rw [less_out (fun y => hb (by rw [List.mem_singleton.mp y]; exact List.mem_append_left _ List.mem_cons_self)), less_out (A := addrs O ++ F.A) (fun y => hb (List.mem_cons_of_mem _ y))]
        exact z
    have keepR : ∀ {H'' : Hp}, Same H' H'' → Reps F.K F.mg (less (rg F O H'') [D]) vd ds := fun {H''} e => h2.mono (less_mono fun a o _ z => rg_grow (s2.trans e) a o z)
    subst htt
    refine ⟨as[i], D, ds, gb, out_quiet (q2.mono (fun c qc H3 g4 s3 => ?_) fun _ z => z)⟩
    cases c with
    | false =>
      refine ⟨n, ds, vd, ?_, hl, keepR s3, lss s3, qc⟩
      exact s3 _ _ (s2 _ _ h1)
    | true =>
      simp only [if_true] at qc ⊢
      rw [out_bind] at qc
      subst hi1
      refine ⟨as[i], D, ds, g4, out_quiet (qc.mono (fun bs qb J1 H4 S1 g5 s4 hS1 => ?_) fun _ z => z)⟩
      rw [out_need] at qb
      obtain ⟨hsz, qb⟩ := qb
      rw [out_bind] at qb
      have s34 : Same H' H4 := s3.trans s4
      have e4 : H4 D = some (.lst vd) := s34 _ _ (s2 _ _ h1)
      refine lc_out S1.walk (g := g1) (vs := vs1) (σ := σ2) (H0 := H4)
        (fun σ3 H5 Nx1 => tt1 σ3 H5 fun b H6 =>
          if b = true then te σ3 H6 fun y H7 => ∃ acc, H7 D = some (.lst acc) ∧ acc.length < sizeLine ∧ Nx1 (upd H7 D (.lst (acc ++ [y]))) else Nx1 H6)
        (fun j H => ∃ (ds' : List γ) (vd' : List V), H D = some (.lst vd') ∧ ds'.length + (bs.length - j) ≤ n + bs.length ∧ Reps F.K F.mg (less (rg F O H) [D]) vd' ds' ∧ Same (less H4 [D]) (less H [D]) ∧
          Out F (filtR (fun b => (p1 as[i] b).quiet) (fun b => (f as[i] b).quiet) (bs.drop j)) (fun ys => Out F (comp2R (fun a => (p a).quiet) (fun a => (it a).quiet) (fun a b => (p1 a b).quiet) (fun a b => (f a b).quiet) (n + bs.length) (as.drop (i + 1))) (fun zs => KF γ true F L O σ H1 Q (ds' ++ (ys ++ zs))) (fun _ => False)) (fun _ => False))
        ⟨ds, vd, e4, by omega, keepR s34, Same.refl _, qb.mono (fun ys kk => by rw [out_bind] at kk; exact kk) fun _ z => z⟩ ?_ ?_ ?_
      · rintro j H _ ⟨ds', vd', h1', _, h2', h3', _⟩
        exact S1.mono ((rsame (ds := ds) (ds' := ds') h3').trans less_same) hS1
      · rintro j x' H5 H5' hj ⟨ds', vd', h1', hl', h2', h3', q2'⟩ y'
        have hb : bs[j]? = some bs[j] := List.getElem?_eq_getElem hj
        have sH5 : Same H1 H5 := ((lss s34).trans h3').trans less_same
        have gH5 : G F L O σ H5 := gg.grow sH5
        have go5 : GO F (ow F.K F.mg D ds' :: O) H5 := go_new gg gH5.go sH5 hD h1' h2'
        obtain ⟨s5, yy'⟩ := S1.ylds j H5 x' H5' y'
        have sl5 : Paired (SlotOk (rg F (ow F.K F.mg D ds' :: O) H5')) (bd as[i] (wipeL L vs)) σ2 := L2.Paired.mapP g5.slots fun _ _ z => (z.mono (rsame (ds' := ds') h3')).mono (rg_grow s5)
        have go5' : GO F (ow F.K F.mg D ds' :: O) H5' := go5.grow s5
        have rx' : rp F (rg F (ow F.K F.mg D ds' :: O) H5') x' bs[j] := yy' _ (fun a ha z => go5.out z ha) (S1.mono (rsame (ds := ds) (ds' := ds') h3') hS1) _ hb
        have gn5 : G F.nox (wipeL (bd as[i] (wipeL L vs)) vs1) (ow F.K F.mg D ds' :: O) (wipe σ2 vs1) H5' := ⟨wipe_ok sl5 vs1, go5'.nox⟩
        refine ht1 x' bs[j] (wipe σ2 vs1) H5' (rg F (ow F.K F.mg D ds' :: O) H5') (wipeL (bd as[i] (wipeL L vs)) vs1) _ less_same rx' gn5.slots fun σ3 e3 hs3 => ?_
        refine ⟨e3.trans (wipe_wipe σ2 vs1), ?_⟩
        rw [List.drop_eq_getElem_cons hj] at q2'
        rw [show filtR (fun b => (p1 as[i] b).quiet) (fun b => (f as[i] b).quiet) (bs[j] :: List.drop (j + 1) bs) = ((p1 as[i] bs[j]).quiet).bind fun c => if c then ((f as[i] bs[j]).quiet).bind fun y => (filtR (fun b => (p1 as[i] b).quiet) (fun b => (f as[i] b).quiet) (List.drop (j + 1) bs)).bind fun ys => .ok (y :: ys) else filtR (fun b => (p1 as[i] b).quiet) (fun b => (f as[i] b).quiet) (List.drop (j + 1) bs) from rfl, out_bind] at q2'
        have gb5 : G F.nox (bd1 bs[j] (wipeL (bd as[i] (wipeL L vs)) vs1)) (ow F.K F.mg D ds' :: O) σ3 H5' := ⟨hs3, gn5.go⟩
        have l5 : ∀ {H'' : Hp}, Same H5' H'' → Same (less H4 [D]) (less H'' [D]) := fun {H''} e => h3'.trans (less_mono fun b o _ q => e _ _ (s5 _ _ q))
        have keep5 : ∀ {H'' : Hp}, Same H5' H'' → Reps F.K F.mg (less (rg F O H'') [D]) vd' ds' := fun {H''} e => h2'.mono (less_mono fun a o _ z => rg_grow (s5.trans e) a o z)
        subst htt1
        refine ⟨as[i], bs[j], D, ds', gb5, out_quiet (q2'.mono (fun c qc' H6 g6 s6 => ?_) fun _ z => z)⟩
        cases c with
        | false =>
          refine ⟨ds', vd', s6 _ _ (s5 _ _ h1'), by omega, keep5 s6, l5 s6, qc'⟩
        | true =>
          simp only [if_true] at qc' ⊢
          rw [out_bind] at qc'
          subst hte
          refine ⟨as[i], bs[j], D, ds', g6, out_quiet (qc'.mono (fun y qy v H7 g7 s7 r7 => ?_) fun _ z => z)⟩
          have s67 : Same H5' H7 := s6.trans s7
          have e7 : H7 D = some (.lst vd') := s67 _ _ (s5 _ _ h1')
          have lenv : vd'.length = ds'.length := h2'.length
          refine ⟨vd', e7, by rw [lenv]; omega, ds' ++ [y], vd' ++ [v], upd_same, ?_, ?_, ?_, ?_⟩
          · rw [List.length_append, List.length_singleton]; omega
          · have eqr : ∀ {a o}, less (rg F O H7) [D] a = some o → less (rg F O (upd H7 D (.lst (vd' ++ [v])))) [D] a = some o := fun {a o} z => by
              by_cases hb : a ∈ [D]
              · rw [less_in hb] at z; cases z
              · have hne : a ≠ D := fun y => hb (List.mem_singleton.mpr y)
                rw [less_out hb] at z ⊢
                unfold rg at z ⊢
                by_cases hc : a ∈ addrs O ++ F.A
                · rw [less_in hc] at z; cases z
                · rw [less_out hc] at z ⊢
                  rw [upd_ne hne]
                  exact z
            exact (reps_append (keep5 s67) (.cons (Rep.mono regD r7) .nil)).mono fun a o z => eqr z
          · intro a o z
            have z1 := l5 s67 a o z
            by_cases hb : a ∈ [D]
            · rw [less_in hb] at z1; cases z1
            · rw [less_out hb] at z1 ⊢
              rw [upd_ne (fun y => hb (List.mem_singleton.mpr y))]
              exact z1
          · rw [out_bind] at qy
            exact qy.mono (fun ys kk => Out.mono (show Out F (comp2R (fun a => (p a).quiet) (fun a => (it a).quiet) (fun a b => (p1 a b).quiet) (fun a b => (f a b).quiet) (n + bs.length) (List.drop (i + 1) as)) (fun zs => KF γ true F L O σ H1 Q (ds' ++ (y :: ys ++ zs))) (fun _ => False) from kk) (fun zs kz => by rw [List.append_assoc]; exact kz) fun _ z => z) fun _ z => z
      · rintro H5 ⟨ds', vd', h1', hl', h2', h3', q2'⟩
        rw [List.drop_length] at q2'
        refine ⟨n + bs.length, ds', vd', h1', by omega, h2', (lss s34).trans h3', ?_⟩
        exact Out.mono (F := F) q2' (fun zs kz => kz) fun _ z => z
  · rintro H ⟨n, ds, vd, h1, hl, h2, h3, q2⟩
    rw [List.drop_length] at q2
    have q3 : KF γ true F L O σ H1 Q (ds ++ []) := q2
    rw [List.append_nil] at q3
    exact q3 D vd H (gg.grow (h3.trans less_same)) (h3.trans less_same) hD h1 h2
theorem pi_ex {ι : Type} {tg e : Expr} {t : ι → TI} (h : ∀ b, PI X tg e (t b)) : PI X tg e (fun σ H Q => ∃ b, t b σ H Q) := ⟨fun pins s σ H Q I ⟨b, q⟩ => (h b).run pins s σ H Q I q⟩
/-- [elt for tg in iter if .. for tg1 in iter1 if ..] -/
theorem f_lc2 {tg iter tg1 iter1 elt : Expr} {ifs ifs1 : List Expr} {scope : Scope} {own : List (Str × Nat)} {vs1 : List Nat} {pos : Pos} {b : Bool} {g g1 : TG} {bd : α → List (Option Asr) → List (Option Asr)} {bd1 : β → List (Option Asr) → List (Option Asr)} {m : Res (List α)} {p : α → Res Bool} {it : α → Res (List β)} {p1 : α → β → Res Bool} {f : α → β → Res γ}
    (hc : X.calm = true) (hN : X.N.Nodup) (hi : PI X tg iter (tI b F L O m)) (hfl : b = true ∨ FlatP α) (hb : BlkOk X.N X.env.scope scope own) (hv : ∀ i ∈ vs1, i ∈ own.map (·.2))
    (hok : TgOk F.K F.mg g (own.map (·.2)) bd) (hok1 : TgOk F.K F.mg g1 vs1 bd1) (ht : ∀ (s : Shared) (H : Hp) (C : Addr) (cl : List (Str × Addr)) (fp : List Addr), Tg (X.blk s H scope (compEnvC scope cl C X.env) fp) F.K F.mg tg g (own.map (·.2)) bd)
    (hp : ∀ (s : Shared) (H : Hp) (C : Addr) (cl : List (Str × Addr)) (fp : List Addr) (a : α) (D : Addr) (ds : List γ), PTs (X.blk s H scope (compEnvC scope cl C X.env) fp) ifs (tB' F.nox (bd a (wipeL L (own.map (·.2)))) (ow F.K F.mg D ds :: O) (p a)))
    (hi1 : ∀ (s : Shared) (H : Hp) (C : Addr) (cl : List (Str × Addr)) (fp : List Addr) (a : α) (D : Addr) (ds : List γ), PI (X.blk s H scope (compEnvC scope cl C X.env) fp) tg1 iter1 (tI true F.nox (bd a (wipeL L (own.map (·.2)))) (ow F.K F.mg D ds :: O) (it a)))
    (ht1 : ∀ (s : Shared) (H : Hp) (C : Addr) (cl : List (Str × Addr)) (fp : List Addr), Tg (X.blk s H scope (compEnvC scope cl C X.env) fp) F.K F.mg tg1 g1 vs1 bd1)
    (hp1 : ∀ (s : Shared) (H : Hp) (C : Addr) (cl : List (Str × Addr)) (fp : List Addr) (a : α) (a1 : β) (D : Addr) (ds : List γ), PTs (X.blk s H scope (compEnvC scope cl C X.env) fp) ifs1 (tB' F.nox (bd1 a1 (wipeL (bd a (wipeL L (own.map (·.2)))) vs1)) (ow F.K F.mg D ds :: O) (p1 a a1)))
    (he : ∀ (s : Shared) (H : Hp) (C : Addr) (cl : List (Str × Addr)) (fp : List Addr) (a : α) (a1 : β) (D : Addr) (ds : List γ), PE (X.blk s H scope (compEnvC scope cl C X.env) fp) elt (tP true F.nox (bd1 a1 (wipeL (bd a (wipeL L (own.map (·.2)))) vs1)) (ow F.K F.mg D ds :: O) (f a a1)))
    (hf : ∀ x, foldedSetIterable iter X.env x = pure x := by intro _; rfl) (hf1 : ∀ env x, foldedSetIterable iter1 env x = pure x := by intro _ _; rfl) :
    PE X (.ListComp elt [⟨tg, iter, ifs, 0⟩, ⟨tg1, iter1, ifs1, 0⟩] scope pos) (tF true F L O (m.bind fun as => comp2R (fun a => (p a).quiet) (fun a => (it a).quiet) (fun a b => (p1 a b).quiet) (fun a b => (f a b).quiet) 0 as)) := by
  refine pe_imp (pe_lc2 hc hN hi hb hv (fun s H C cl fp => (ht s H C cl fp).pg) (fun s H C cl fp => pts_ex fun a => pts_ex fun D => pts_ex fun ds => hp s H C cl fp a D ds) (fun s H C cl fp => pi_ex fun a => pi_ex fun D => pi_ex fun ds => hi1 s H C cl fp a D ds) (fun s H C cl fp => (ht1 s H C cl fp).pg)
    (fun s H C cl fp => pts_ex fun a => pts_ex fun a1 => pts_ex fun D => pts_ex fun ds => hp1 s H C cl fp a a1 D ds) (fun s H C cl fp => pe_ex fun a => pe_ex fun a1 => pe_ex fun D => pe_ex fun ds => he s H C cl fp a a1 D ds) hf hf1) fun σ H Q h => ?_
  exact comp2_core _ _ _ rfl hfl hok rfl rfl hok1 rfl rfl σ H Q h
end
end NF

set_option Elab.async false
set_option linter.all false
set_option maxRecDepth 100000
/-! Nf20: small things: targets with more wiped slots, tests that change the list, casts. -/
namespace NF
open PySem PySem.Spec PyProof.Rows L2
open Data (toD)
section
variable {X : Cx} {F : Fr} {L : List (Option Asr)} {p : Addr} {O : List Own} {α β γ ι : Type} [Rep α] [Rep β] [Rep γ] [Rep ι] {xs : List ι}
theorem tM_cast {B D' : Type} {st : List Stmt} {L' : B → List (Option Asr)} {O' : B → List Own} {Ret : D' → V → Hp → Prop} {m m' : Res (Sum B D')} (h : PSs X st (tM F L O m L' O' Ret)) (e : m = m') : PSs X st (tM F L O m' L' O' Ret) := e ▸ h
theorem wipe_up {σ σ' : L2.St} {vs vs' : List Nat} (h : wipe σ' vs = wipe σ vs) (hs : ∀ i ∈ vs, i ∈ vs') : wipe σ' vs' = wipe σ vs' := by
  apply List.ext_getElem?
  intro k
  rw [wipe_get, wipe_get]
  have e : (wipe σ' vs)[k]? = (wipe σ vs)[k]? := by rw [h]
  rw [wipe_get, wipe_get] at e
  by_cases h1 : k ∈ vs'
  · rw [if_pos h1, if_pos h1]
    by_cases h2 : k ∈ vs
    · rw [if_pos h2, if_pos h2] at e; exact e
    · rw [if_neg h2, if_neg h2] at e; rw [e]
  · have h2 : k ∉ vs := fun z => h1 (hs k z)
    rw [if_neg h2, if_neg h2] at e
    rw [if_neg h1, if_neg h1]; exact e
theorem TgOk.up {K : Fg} {mg : MG} {g : TG} {vs vs' : List Nat} {bd : α → List (Option Asr) → List (Option Asr)} (h : TgOk K mg g vs bd) (hs : ∀ i ∈ vs, i ∈ vs') : TgOk K mg g vs' bd := fun v a σ H R L Q s r sl k => h v a σ H R L Q s r sl fun σ' e => k σ' (wipe_up e hs)
theorem Tg.up {K : Fg} {mg : MG} {tg : Expr} {g : TG} {vs vs' : List Nat} {bd : α → List (Option Asr) → List (Option Asr)} (h : Tg X K mg tg g vs bd) (hs : ∀ i ∈ vs, i ∈ vs') : Tg X K mg tg g vs' bd := ⟨h.pg, h.ok.up hs⟩
/-- tests that change the list -/
theorem et_not {x : Expr} {pos : Pos} {m : Res (Bool × List ι)} (hx : PT X x (tEB F L p xs O m)) : PT X (.UnaryOp .Not x pos) (tEB F L p xs O (m.bind fun u => .ok (!u.1, u.2))) := pt_imp (pt_not hx) fun σ H Q ⟨g, q⟩ => by
  rw [out_bind] at q
  exact ⟨g, q.mono (fun c qc H1 g1 s1 => qc H1 g1 s1) fun _ z => z⟩
theorem et_val {x : Expr} {b : Bool} {m : Res (Bool × List ι)} (hx : PE X x (tE b F L p xs O m)) (he : ∀ whole, isTrue x X.env whole = (do let v ← whole; standAt x.pos; holding [v] (truthy v)) := by intro _; rfl) : PT X x (tEB F L p xs O m) := pt_imp (pt_val hx he) fun σ H Q ⟨g, q⟩ =>
  ⟨g, q.mono (fun c qc v1 H1 g1 s1 r1 => ⟨c.1, r1, qc H1 g1 s1⟩) fun _ z => z⟩
theorem ew_p {e : Expr} {m : Res Bool} (hO : List.Sublist F.O0 (ow F.K F.mg p xs :: O)) (h : PW X e (tB' F L (ow F.K F.mg p xs :: O) m)) : PW X e (tEB F L p xs O (m.bind fun a => .ok (a, xs))) := pw_imp h fun σ H Q ⟨g, q⟩ => by
  rw [out_bind] at q
  exact ⟨g, q.mono (fun a k H' g' s => k H' g' (.of s)) fun H' ⟨a, _⟩ => a.go.sub hO⟩
/-- an if whose test changes the list, in a block that goes on or hands back -/
theorem me_if {D' B : Type} {Ret : D' → V → Hp → Prop} {c : Expr} {mc : Res (Bool × List ι)} {body rest : List Stmt} {pos : Pos} {L' : B → List (Option Asr)} {O' : B → List Own} {m1 : List ι → Res D'} {m2 : List ι → Res (Sum B D')} (hc : PT X c (tEB F L p xs O mc)) (hb : ∀ xs', PSs X body (tT F L (ow F.K F.mg p xs' :: O) (m1 xs') Ret)) (hr : ∀ xs', PSs X rest (tM F L (ow F.K F.mg p xs' :: O) (m2 xs') L' O' Ret)) :
    PSs X (.If c body [] pos :: rest) (tM F L (ow F.K F.mg p xs :: O) (mc.bind fun u => if u.1 then ((m1 u.2).bind fun d => .ok (.inr d)) else m2 u.2) L' O' Ret) := pss_imp (pss_cons (ps_if hc (pss_ex hb) pss_nil) (pss_ex hr)) fun D σ H ⟨g, q⟩ => by
  rw [out_bind] at q
  refine ⟨g, q.mono (fun u k H1 g1 s1 => ?_) fun _ z => z⟩
  cases hu : u.1 with
  | true =>
    rw [hu] at k
    simp only [if_true] at k
    rw [out_bind] at k
    exact ⟨u.2, g1, k⟩
  | false => rw [hu] at k; exact ⟨u.2, g1, k⟩
theorem TkX.add {z : Fact} (t : TkX X F L O) : TkX X (F.add z) L O := by
  obtain ⟨W, tk, q⟩ := t
  exact ⟨W, tk, fun c d σ H e g => q c d σ H e ⟨g.slots, g.go.unadd⟩⟩
end
end NF

set_option Elab.async false
set_option linter.all false
set_option maxRecDepth 100000
/-! Nm0: what the mathematics of the laws uses of the mirrors. -/
namespace NF
open PySem PySem.Spec PyProof.Rows L2
open Data (toD)
theorem need_ok {α : Type} {p : Prop} [Decidable p] {m : Res α} (h : p) : need p m = m := by unfold need; rw [if_pos h]
theorem quiet_ok {α : Type} (a : α) : (Res.ok a).quiet = Res.ok a := rfl
theorem filtR_ok {α β : Type} {f : α → Res β} {g : α → β} : ∀ {as : List α}, (∀ a ∈ as, f a = .ok (g a)) → filtR (fun _ => Res.ok true) f as = .ok (as.map g)
  | [], _ => rfl
  | a :: as, h => by
    rw [filtR_yes]
    show ((f a).bind fun y => (mapR f as).bind fun ys => .ok (y :: ys)) = _
    rw [h a List.mem_cons_self, ← filtR_yes, filtR_ok (fun b hb => h b (List.mem_cons_of_mem _ hb))]
    rfl
/-- with the marks of a comprehension -/
theorem filtQ_ok {α β : Type} {f : α → Res β} {g : α → β} {as : List α} (h : ∀ a ∈ as, f a = .ok (g a)) : filtR (fun _ => Res.quiet (Res.ok true)) (fun a => Res.quiet (f a)) as = .ok (as.map g) :=
  filtR_ok (f := fun a => Res.quiet (f a)) fun a ha => by rw [h a ha]; rfl
theorem idx_nat {α : Type} {xs : List α} {k : Nat} {a : α} (h : xs[k]? = some a) : idx xs (k : Int) = .ok a := by
  unfold idx
  rw [atI_nat (j := k) h]
theorem idx0 {α : Type} (x : α) (r : List α) : idx (x :: r) 0 = .ok x := idx_nat (k := 0) rfl
theorem ixN0 (n : Nat) (h : 0 < n) : ixN n 0 = some 0 := by
  unfold ixN
  rw [if_pos (by omega), if_pos (by omega)]
  rfl
theorem setR0 (x y : Int) (r : List Int) : setR (x :: r) 0 y = .ok (y :: r) := by
  unfold setR
  rw [ixN0 _ (by simp)]
  rfl
theorem popAt0 (x : Int) (r : List Int) : popAtR (x :: r) 0 = .ok (x, r) := by
  unfold popAtR
  rw [show seqIndex? 0 (x :: r).length = some 0 by unfold seqIndex?; simp]
  show need (Rg63 0) _ = _
  rw [need_ok (by unfold Rg63; omega)]
  rfl
theorem sl_ge : 100000 ≤ sizeLine := by rw [sizeLine_eq]; decide
theorem canLay_ints : ∀ xs : List Int, PyData.canLayAll0 (xs.map toD) = true
  | [] => rfl
  | _ :: xs => by
    show (true && PyData.canLayAll0 (xs.map toD)) = true
    rw [canLay_ints xs]
    rfl
theorem depth_ints : ∀ xs : List Int, PyData.depthAll (xs.map toD) = 0
  | [] => rfl
  | _ :: xs => by
    show max 0 (PyData.depthAll (xs.map toD)) = 0
    rw [depth_ints xs]
    rfl
theorem shp_ints (xs : List Int) : shp xs = true := by
  show (PyData.canLayAll0 (xs.map toD) && decide (PyData.depthAll (xs.map toD) + 1 ≤ 64)) = true
  rw [canLay_ints, depth_ints]
  rfl
theorem canLay_bools : ∀ xs : List Bool, PyData.canLayAll0 (xs.map toD) = true
  | [] => rfl
  | _ :: xs => by
    show (true && PyData.canLayAll0 (xs.map toD)) = true
    rw [canLay_bools xs]
    rfl
theorem depth_bools : ∀ xs : List Bool, PyData.depthAll (xs.map toD) = 0
  | [] => rfl
  | _ :: xs => by
    show max 0 (PyData.depthAll (xs.map toD)) = 0
    rw [depth_bools xs]
    rfl
theorem shp_bools (xs : List Bool) : shp xs = true := by
  show (PyData.canLayAll0 (xs.map toD) && decide (PyData.depthAll (xs.map toD) + 1 ≤ 64)) = true
  rw [canLay_bools, depth_bools]
  rfl
theorem shp_int (x : Int) : shp x = true := rfl
theorem shp_intD (x : Int) : shp (toD x) = true := rfl
theorem eqv_ints : ∀ xs ys : List Int, PyData.eqvAll (xs.map toD) (ys.map toD) = decide (xs = ys)
  | [], [] => rfl
  | [], _ :: _ => rfl
  | _ :: _, [] => rfl
  | x :: xs, y :: ys => by
    show ((x == y) && PyData.eqvAll (xs.map toD) (ys.map toD)) = _
    rw [eqv_ints xs ys]
    by_cases h : x = y
    · subst h
      simp
    · simp [h]
theorem eqD_ints (xs ys : List Int) : eqD xs ys = decide (xs = ys) := eqv_ints xs ys
theorem eqD_refl (xs : List Int) : eqD xs xs = true := by rw [eqD_ints]; simp
theorem eqv_bools : ∀ xs : List Bool, PyData.eqvAll (xs.map toD) (xs.map toD) = true
  | [] => rfl
  | x :: xs => by
    show ((toD x).eqv (toD x) && PyData.eqvAll (xs.map toD) (xs.map toD)) = _
    rw [eqv_bools xs]
    cases x <;> rfl
theorem eqD_bools (xs : List Bool) : eqD xs xs = true := eqv_bools xs
theorem eqD_intD (x y : Int) : eqD (toD x) y = decide (x = y) := by
  show (x == y) = _
  by_cases h : x = y <;> simp [h]
theorem isT_int_int (x : Int) : isT "int" (Ty.tyN (toD x)) = .ok true := by show isT "int" "int" = _; unfold isT; rw [show kitB "int" "int" = some true by decide +kernel]
theorem isT_int_bool (x : Int) : isT "bool" (Ty.tyN (toD x)) = .ok false := by show isT "bool" "int" = _; unfold isT; rw [show kitB "int" "bool" = some false by decide +kernel]
theorem isT_list (xs : List Int) : isT "list" (Ty.tyN xs) = .ok true := by show isT "list" "list" = _; unfold isT; rw [show kitB "list" "list" = some true by decide +kernel]
theorem isT_tuple (xs : Tp Bool) : isT "tuple" (Ty.tyN xs) = .ok true := by show isT "tuple" "tuple" = _; unfold isT; rw [show kitB "tuple" "tuple" = some true by decide +kernel]
theorem isT_bool (x : Bool) : isT "bool" (Ty.tyN x) = .ok true := by show isT "bool" "bool" = _; unfold isT; rw [show kitB "bool" "bool" = some true by decide +kernel]
theorem all_true : ∀ n : Nat, (List.replicate n true).all id = true
  | 0 => rfl
  | n + 1 => by rw [List.replicate_succ]; simp
/-! slices -/
theorem cut_upto {α : Type} (xs : List α) (n : Nat) : cut xs none (some (n : Int)) = xs.take n := by
  unfold cut
  rw [HT.sIx_none, HT.sIx_nat, Nat.sub_zero, List.drop_zero]
  by_cases h : n ≤ xs.length
  · rw [Nat.min_eq_left h]
  · rw [Nat.min_eq_right (by omega), List.take_of_length_le (Nat.le_refl _), List.take_of_length_le (by omega)]
theorem cut_from {α : Type} (xs : List α) (n : Nat) : cut xs (some (n : Int)) none = xs.drop n := by
  unfold cut
  rw [HT.sIx_none, HT.sIx_nat]
  by_cases h : n ≤ xs.length
  · rw [Nat.min_eq_left h, List.take_of_length_le (by rw [List.length_drop]; exact Nat.le_refl _)]
  · rw [Nat.min_eq_right (by omega), Nat.sub_self, List.take_zero, List.drop_of_length_le (by omega)]
theorem cut_sub {α : Type} {xs : List α} {lo hi : Option Int} {x : α} (h : x ∈ cut xs lo hi) : x ∈ xs := by
  unfold cut at h
  exact List.mem_of_mem_drop (List.mem_of_mem_take h)
theorem cut_len {α : Type} (xs : List α) (lo hi : Option Int) : (cut xs lo hi).length ≤ xs.length := by
  unfold cut
  rw [List.length_take, List.length_drop]
  omega
/-! bits -/
theorem bitOr_nat (x y : Nat) : Builtin.bitOr (x : Int) (y : Int) = ((x ||| y : Nat) : Int) := by
  unfold Builtin.bitOr Builtin.bitAnd Builtin.bitNot
  have h1 : decide (0 ≤ -(x : Int) - 1) = false := by simp; omega
  have h2 : decide (0 ≤ -(y : Int) - 1) = false := by simp; omega
  rw [h1, h2]
  dsimp only
  rw [show (-(-(x : Int) - 1) - 1).toNat = x by omega, show (-(-(y : Int) - 1) - 1).toNat = y by omega]
  omega
theorem bitOr_add {a b : Int} {k : Nat} (h0 : 0 ≤ a) (h1 : a < 2 ^ k) (hb : 0 ≤ b) : Builtin.bitOr a (b * 2 ^ k) = a + b * 2 ^ k := by
  obtain ⟨x, rfl⟩ := Int.eq_ofNat_of_zero_le h0
  obtain ⟨y, rfl⟩ := Int.eq_ofNat_of_zero_le hb
  have hx : x < 2 ^ k := by
    have : ((x : Nat) : Int) < ((2 ^ k : Nat) : Int) := by rw [Int.natCast_pow]; exact h1
    omega
  have e : ((y : Int) * 2 ^ k) = ((y * 2 ^ k : Nat) : Int) := by rw [Int.natCast_mul, Int.natCast_pow]; rfl
  rw [e, bitOr_nat, Nat.or_comm, ← Nat.shiftLeft_eq, ← Nat.shiftLeft_add_eq_or_of_lt hx]
  rw [Nat.add_comm, Int.natCast_add]
theorem bitAnd_mask (x : Int) (w : Nat) : Builtin.bitAnd x (2 ^ w - 1) = x % 2 ^ w := by
  have hp : (1 : Int) ≤ 2 ^ w := by
    have : 1 ≤ 2 ^ w := Nat.one_le_two_pow
    have h2 : ((1 : Nat) : Int) ≤ ((2 ^ w : Nat) : Int) := by omega
    rw [Int.natCast_pow] at h2
    exact h2
  have ep : (2 : Int) ^ w = ((2 ^ w : Nat) : Int) := by rw [Int.natCast_pow]; rfl
  have em : ((2 : Int) ^ w - 1).toNat = 2 ^ w - 1 := by rw [ep]; omega
  unfold Builtin.bitAnd
  have h2 : decide (0 ≤ (2 : Int) ^ w - 1) = true := by simp; omega
  by_cases h : 0 ≤ x
  · rw [h2, show decide (0 ≤ x) = true by simpa using h]
    dsimp only
    rw [em, Nat.and_two_pow_sub_one_eq_mod, Int.natCast_emod, ← ep]
    congr 1
    omega
  · rw [h2, show decide (0 ≤ x) = false by simpa using h]
    dsimp only
    unfold Builtin.bitNot
    rw [em, Nat.and_comm, Nat.and_two_pow_sub_one_eq_mod]
    have hn : 2 ^ w > 0 := Nat.two_pow_pos w
    obtain ⟨m, hm⟩ : ∃ m : Nat, x = -(m : Int) - 1 := ⟨(-x - 1).toNat, by omega⟩
    subst hm
    rw [show (-(-(m : Int) - 1) - 1).toNat = m by omega, ep]
    have hlt := Nat.mod_lt m hn
    have hd := Nat.div_add_mod m (2 ^ w)
    generalize 2 ^ w = P at *
    have : -(m : Int) - 1 = ((P : Int) - 1 - ((m % P : Nat) : Int)) + (P : Int) * (-((m / P : Nat) : Int) - 1) := by
      rw [Int.mul_sub, Int.mul_neg]
      have : ((P * (m / P) + m % P : Nat) : Int) = (m : Int) := by rw [hd]
      rw [Int.natCast_add, Int.natCast_mul] at this
      omega
    rw [this, Int.add_mul_emod_self_left, Int.emod_eq_of_lt (by omega) (by omega)]
/-! ranges, walks -/
theorem irange_nat (n : Nat) : irange 0 (n : Int) = (List.range n).map fun i : Nat => (i : Int) := by
  unfold irange
  rw [Int.sub_zero, Int.toNat_natCast]
  apply List.map_congr_left
  intro a _
  omega
theorem irange3_len (lo hi c : Int) : (irange3 lo hi c).length ≤ (hi - lo).toNat + (lo - hi).toNat := by
  unfold irange3
  rw [List.length_map, List.length_range]
  exact rangeSize_toNat_le lo hi c
theorem foldR_ok {α β : Type} {f : α → β → Res β} {g : α → β → β} : ∀ {as : List α} {b : β}, (∀ a ∈ as, ∀ b, f a b = .ok (g a b)) → foldR f as b = .ok (as.foldl (fun b a => g a b) b)
  | [], _, _ => rfl
  | a :: as, b, h => by
    show (f a b).bind _ = _
    rw [h a List.mem_cons_self, Res.bind_ok, foldR_ok (fun c hc => h c (List.mem_cons_of_mem _ hc))]
    rfl
theorem comp2R_ok {α β : Type} {it : α → Res (List β)} {g : α → List β} {c : Nat} : ∀ {as : List α} {n : Nat}, (∀ a ∈ as, it a = .ok (g a)) → (∀ a ∈ as, (g a).length ≤ c) → n + as.length * c ≤ sizeLine →
    comp2R (fun _ => Res.quiet (Res.ok true)) (fun a => Res.quiet (it a)) (fun _ _ => Res.quiet (Res.ok true)) (fun _ (b : β) => Res.quiet (Res.ok b)) n as = .ok (as.flatMap g)
  | [], _, _, _, _ => rfl
  | a :: as, n, h, hc, hn => by
    have e1 : (a :: as).length * c = as.length * c + c := by rw [List.length_cons, Nat.succ_mul]
    have e2 := hc a List.mem_cons_self
    rw [comp2R, h a List.mem_cons_self]
    show (need _ _ : Res (List β)) = _
    rw [need_ok (by omega)]
    rw [show filtR (fun b => Res.quiet (Res.ok true)) (fun b => Res.quiet (Res.ok b)) (g a) = Res.ok (g a) from (filtQ_ok (g := id) fun _ _ => rfl).trans (by rw [List.map_id]), Res.bind_ok, comp2R_ok (c := c) (fun b hb => h b (List.mem_cons_of_mem _ hb)) (fun b hb => hc b (List.mem_cons_of_mem _ hb)) (by omega), Res.bind_ok, List.flatMap_cons]
end NF

set_option Elab.async false
set_option linter.all false
set_option maxRecDepth 100000
set_option maxHeartbeats 4000000
namespace K02
open PySem PySem.Spec PyProof.Rows L2 NF
open NF.Data (toD)
def topS (i : Nat) : Stmt := PySem.Challenge.pw_colonnade_k02_lanes.main.body.getD i (.Pass ⟨0, 0, 0, 0⟩)
section
variable {P : Program} {w : World} {K : Fg} {mg : MG} {base : Heap}

/-! ### lane_count -/
def m_lane_count (a : (Ar Int Unit)) : Res Int :=
  need (CDiv (60 : Int) (a.x + (1 : Int))) (Res.ok ((60 : Int) / (a.x + (1 : Int))))
abbrev s_lane_count : Stmt := topS 7
theorem sc_lane_count : FnScope ["width"] ["width"] (defScope s_lane_count) := ⟨rfl, rfl, rfl, by decide +kernel, rfl, by decide +kernel, by decide +kernel⟩
theorem ok_lane_count {f : Addr} {fd : FuncData} (Fu : Fun K "lane_count" "lane_count" s_lane_count f fd) (g_WORD_BITS : GlobV mg "WORD_BITS" (.int 60)) : FnOk P w K mg base CX0 1 f fd ["width"] (spP K mg m_lane_count) := by
  refine def_P (τ := (Ar Int Unit)) (ρ := Int) Fu sc_lane_count (fun a => [vl K mg a.x]) (fun vs R a h => by
    obtain ⟨v0, w0, e0, h0, e1⟩ := h
    cases e1; cases e0
    exact ⟨rfl, .cons h0 (.nil)⟩) (fun cdv A outer s H Av E a hr => ?_)
  refine tT_cast (b_ret (n_fdiv (b3 := true) (n_glob (b := true) (a := ((60 : Int) : Int)) g_WORD_BITS) (n_add (b3 := true) (n_var 0) (n_int (b := true)))) (List.nil_sublist _)) ?_
  simp -implicitDefEqProofs only [Res.bind_ok]
  rfl

/-! ### _check_fit -/
def m_check_fit_0 (a : (Ar (List Int) (Ar Int Unit))) : Res (Sum Unit Unit) :=
  goOnM (foldM (fun (a1 : Int) (b2 : Unit) => ((if (decide ((0 : Int) ≤ a1)) then ((need (CPow (1 : Int) a.r.x) (Res.ok ((1 : Int) * 2 ^ (a.r.x).toNat))).bind fun v5 => Res.ok (decide (a1 < v5))) else Res.ok false).bind fun v6 => Res.ok (!v6)).bind fun v7 => if v7 then ((Res.err "Unfit" [("chain", toD (PySem.Str.ofString "lanes"))]).bind fun d => Res.ok (Sum.inr d)) else (Res.ok (Sum.inl ()))) a.x ()) (fun b4 => Res.ok (Sum.inl ()))
def m_check_fit (a : (Ar (List Int) (Ar Int Unit))) : Res Unit := goOn (m_check_fit_0 a) fun _ => Res.ok ()
abbrev s__check_fit : Stmt := topS 8
theorem sc__check_fit : FnScope ["numbers", "width", "number"] ["numbers", "width"] (defScope s__check_fit) := ⟨rfl, rfl, rfl, by decide +kernel, rfl, by decide +kernel, by decide +kernel⟩
theorem ok__check_fit {f : Addr} {fd : FuncData} (Fu : Fun K "_check_fit" "_check_fit" s__check_fit f fd) (R_Unfit : ErrAt P w K mg base 1 "Unfit" "chain") : FnOk P w K mg base (L2N.CX P w) 3 f fd ["numbers", "width"] (spX K mg m_check_fit) := by
  refine def_XU (τ := (Ar (List Int) (Ar Int Unit))) (mir := m_check_fit_0) Fu sc__check_fit (fun a => [vl K mg a.x, vl K mg a.r.x, none]) [none, none, none] (fun vs R a h => by
    obtain ⟨v0, w0, e0, h0, v1, w1, e1, h1, e2⟩ := h
    cases e2; cases e1; cases e0
    exact ⟨rfl, .cons h0 (.cons h1 (.cons trivial (.nil)))⟩) (fun cdv A outer s H Av E a hr htk => ?_)
  refine tM_cast (m_M (s_forM (Sp3.mk : Sp3 (fun b : Unit => [vl K mg (a.x : (List Int)), vl K mg (a.r.x : Int), none]) (fun b : Unit => ([] : List Own)) ()) (passes_of rfl) rfl (i_lk (n_var 0)) (tg_name 2 sc__check_fit.nd) (List.nil_sublist _) ⟨.inr rfl, .inr rfl, .inl rfl, trivial⟩ (List.Sublist.refl _) (fun z3 a1 b2 => (m_if (t_not (nf_chainT (fun i j => decide (i ≤ j)) (fun i j => decide (i < j)) (pt_chain op_le op_lt (n_int (b := true)) (n_var 2) (n_shl (b3 := true) (n_int (b := true)) (n_var 1))))) (b_s (s_raise R_Unfit (hr.mono (by decide)) rfl (TkX.add (htk _ _)) (List.nil_sublist _) (n_str (b := true)))) (m_end () ⟨.inr rfl, .inr rfl, .inl rfl, trivial⟩ (List.nil_sublist _)) (List.nil_sublist _)))) (fun b4 => (m_end () ⟨.inl rfl, .inl rfl, .inl rfl, trivial⟩ (List.nil_sublist _)))) ?_
  simp -implicitDefEqProofs only [Res.bind_ok]
  rfl

/-! ### width_of -/
def m_width_of (a : (Ar (List Int) Unit)) : Res Int :=
  ((m_check_fit (Ar.mk a.x (Ar.mk (29 : Int) ()))).bind fun _ => Res.ok ()).bind fun v8 => ((need (List.length ((1 : Int) :: []) ≤ sizeLine) (Res.ok ((1 : Int) :: []))).bind fun v12 => (need (List.length a.x ≤ sizeLine) (filtR (fun (a9 : Int) => Res.quiet (Res.ok true)) (fun (a9 : Int) => Res.quiet (Res.ok ((Builtin.Int.intBits a9 : Nat) : Int))) a.x)).bind fun v13 => need (List.length v12 + List.length v13 ≤ sizeLine) (Res.ok (v12 ++ v13))).bind fun v14 => maxR v14
abbrev s_width_of : Stmt := topS 9
theorem sc_width_of : FnScope ["numbers", "number"] ["numbers"] (defScope s_width_of) := ⟨rfl, rfl, rfl, by decide +kernel, rfl, by decide +kernel, by decide +kernel⟩
theorem ok_width_of {f : Addr} {fd : FuncData} (Fu : Fun K "width_of" "width_of" s_width_of f fd) (g_GREATEST_WIDTH : GlobV mg "GREATEST_WIDTH" (.int 29)) (D__check_fit : DefAt P w K mg base (L2N.CX P w) 3 "_check_fit" ["numbers", "width"] (spX K mg m_check_fit)) (z_max : mg "max" = none) : FnOk P w K mg base (L2N.CX P w) 4 f fd ["numbers"] (spX K mg m_width_of) := by
  refine def_XN (τ := (Ar (List Int) Unit)) (ρ := Int) Fu sc_width_of (fun a => [vl K mg a.x, none]) (fun vs R a h => by
    obtain ⟨v0, w0, e0, h0, e1⟩ := h
    cases e1; cases e0
    exact ⟨rfl, .cons h0 (.cons trivial (.nil))⟩) (fun cdv A outer s H Av E a hr htk => ?_)
  refine tT_cast (b_N (s_expr (n_callX D__check_fit (hr.mono (by decide)) (htk _ _) (a_cons (n_var 0) (a_cons (n_glob (b := true) (a := ((29 : Int) : Int)) g_GREATEST_WIDTH) a_nil))) (List.nil_sublist _)) (fun v8 => (b_ret (n_max (b3 := true) (pe_callB (cr_max rfl) (by rfl) z_max (by decide +kernel) (pa_cons (f_val (f_cat (f_val (f_lst (l_cons (n_int (b := true)) (l_nil (α := Int))))) (f_val (f_lcf (own := [("number", 1)]) rfl sc_width_of.nd (i_lk (n_var 0)) (.inl rfl) (blkOk_by (N := ["numbers", "number"]) (sc := defScope s_width_of) (by decide +kernel)) (tgok_name 1) (fun _ _ _ _ _ => (tg_name 1 sc_width_of.nd)) (fun _ _ _ _ _ a9 D10 ds11 => ts_nil) (fun _ _ _ _ _ a9 D10 ds11 => (n_bits (b3 := true) (n_var 1))))))) pa_nil)) rfl) (List.nil_sublist _)))) ?_
  simp -implicitDefEqProofs only [Res.bind_ok]
  rfl

/-! ### _word_of -/
def m_word_of (a : (Ar (List Int) (Ar Int Unit))) : Res Int :=
  (let word_15 := (0 : Int)
  (foldR (fun (a16 : (Int × Int)) (b17 : (Int)) => (((need (CMul a16.1 (a.r.x + (1 : Int))) (Res.ok (a16.1 * (a.r.x + (1 : Int))))).bind fun v20 => need (CPow a16.2 v20) (Res.ok (a16.2 * 2 ^ (v20).toNat))).bind fun v21 => Res.ok (Builtin.bitOr b17 v21)).bind fun word_22 => Res.ok word_22) (enumF 0 a.x) word_15).bind fun b19 => Res.ok b19)
abbrev s__word_of : Stmt := topS 10
theorem sc__word_of : FnScope ["numbers", "width", "word", "at", "number"] ["numbers", "width"] (defScope s__word_of) := ⟨rfl, rfl, rfl, by decide +kernel, rfl, by decide +kernel, by decide +kernel⟩
theorem ok__word_of {f : Addr} {fd : FuncData} (Fu : Fun K "_word_of" "_word_of" s__word_of f fd) (z_enumerate : mg "enumerate" = none) : FnOk P w K mg base CX0 1 f fd ["numbers", "width"] (spP K mg m_word_of) := by
  refine def_P (τ := (Ar (List Int) (Ar Int Unit))) (ρ := Int) Fu sc__word_of (fun a => [vl K mg a.x, vl K mg a.r.x, none, none, none]) (fun vs R a h => by
    obtain ⟨v0, w0, e0, h0, v1, w1, e1, h1, e2⟩ := h
    cases e2; cases e1; cases e0
    exact ⟨rfl, .cons h0 (.cons h1 (.cons trivial (.cons trivial (.cons trivial (.nil)))))⟩) (fun cdv A outer s H Av E a hr => ?_)
  refine tT_cast (b_N (s_set 2 sc__word_of.nd (List.nil_sublist _) (n_int (b := true))) (fun word_15 => (b_N (s_for (Sp3.mk : Sp3 (fun b : (Int) => [vl K mg (a.x : (List Int)), vl K mg (a.r.x : Int), vl K mg (b : Int), none, none]) (fun b : (Int) => ([] : List Own)) word_15) PassesOwn.never rfl (i_enum (n_var 0) z_enumerate) (tg_pair 3 4 (by decide) rfl sc__word_of.nd) (List.nil_sublist _) ⟨.inr rfl, .inr rfl, .inr rfl, .inl rfl, .inl rfl, trivial⟩ (List.Sublist.refl _) (fun z18 a16 b17 => (n_N (s_set 2 sc__word_of.nd (List.nil_sublist _) (n_bor (b3 := true) (n_var 2) (n_shl (b3 := true) (n_var 4) (n_mul (b3 := true) (n_var 3) (n_add (b3 := true) (n_var 1) (n_int (b := true))))))) (fun word_22 => (n_end word_22 ⟨.inr rfl, .inr rfl, .inr rfl, .inl rfl, .inl rfl, trivial⟩ (List.nil_sublist _)))))) (fun b19 => (b_ret (n_var 2) (List.nil_sublist _)))))) ?_
  simp -implicitDefEqProofs only [Res.bind_ok]
  rfl

/-! ### pack -/
def m_pack (a : (Ar (List Int) (Ar Int Unit))) : Res (List Int) :=
  ((m_check_fit (Ar.mk a.x (Ar.mk a.r.x ()))).bind fun _ => Res.ok ()).bind fun v23 => (Res.quiet (m_lane_count (Ar.mk a.r.x ()))).bind fun many_24 => (need (many_24 ≠ 0 ∧ Int.natAbs many_24 < 1073741824 ∧ Builtin.Range.small (0 : Int) (List.length a.x : Int) many_24 = true) (Res.ok (irange3 (0 : Int) (List.length a.x : Int) many_24))).bind fun v28 => need (List.length v28 ≤ sizeLine) (filtR (fun (a25 : Int) => Res.quiet (Res.ok true)) (fun (a25 : Int) => Res.quiet (Res.quiet (m_word_of (Ar.mk (cut a.x (some a25) (some (a25 + many_24))) (Ar.mk a.r.x ()))))) v28)
abbrev s_pack : Stmt := topS 11
theorem sc_pack : FnScope ["numbers", "width", "many", "start"] ["numbers", "width"] (defScope s_pack) := ⟨rfl, rfl, rfl, by decide +kernel, rfl, by decide +kernel, by decide +kernel⟩
theorem ok_pack {f : Addr} {fd : FuncData} (Fu : Fun K "pack" "pack" s_pack f fd) (D__check_fit : DefAt P w K mg base (L2N.CX P w) 3 "_check_fit" ["numbers", "width"] (spX K mg m_check_fit)) (D_lane_count : DefAt P w K mg base CX0 1 "lane_count" ["width"] (spP K mg m_lane_count)) (D__word_of : DefAt P w K mg base CX0 1 "_word_of" ["numbers", "width"] (spP K mg m_word_of)) (z_len : mg "len" = none) (z_range : mg "range" = none) : FnOk P w K mg base (L2N.CX P w) 4 f fd ["numbers", "width"] (spXF K mg m_pack) := by
  refine def_XF (τ := (Ar (List Int) (Ar Int Unit))) (α := Int) Fu sc_pack (fun a => [vl K mg a.x, vl K mg a.r.x, none, none]) (fun vs R a h => by
    obtain ⟨v0, w0, e0, h0, v1, w1, e1, h1, e2⟩ := h
    cases e2; cases e1; cases e0
    exact ⟨rfl, .cons h0 (.cons h1 (.cons trivial (.cons trivial (.nil))))⟩) (fun cdv A outer s H Av E a hr htk => ?_)
  refine tT_cast (b_N (s_expr (n_callX D__check_fit (hr.mono (by decide)) (htk _ _) (a_cons (n_var 0) (a_cons (n_var 1) a_nil))) (List.nil_sublist _)) (fun v23 => (b_N (s_set 2 sc_pack.nd (List.nil_sublist _) (nq_call D_lane_count (hr.mono (by decide)) (a_cons (n_var 1) a_nil))) (fun many_24 => (b_retF (f_lcf (own := [("start", 3)]) rfl sc_pack.nd (i_range3 (b' := true) (n_int (b := true)) (n_len (b3 := true) (pe_callB call_len_seq (by rfl) z_len (by decide +kernel) (pa_cons (n_var 0) pa_nil)) rfl) (n_var 2) z_range) (.inl rfl) (blkOk_by (N := ["numbers", "width", "many", "start"]) (sc := defScope s_pack) (by decide +kernel)) (tgok_name 3) (fun _ _ _ _ _ => (tg_name 3 sc_pack.nd)) (fun _ _ _ _ _ a25 D26 ds27 => ts_nil) (fun _ _ _ _ _ a25 D26 ds27 => (nq_call D__word_of (hr.mono (by decide)) (a_cons (f_val (f_slice (n_var 0) (o_some (n_var 3)) (o_some (n_add (b3 := true) (n_var 3) (n_var 2))))) (a_cons (n_var 1) a_nil))))) (List.nil_sublist _)))))) ?_
  simp -implicitDefEqProofs only [Res.bind_ok]
  rfl

/-! ### _lanes_of -/
def m_lanes_of (a : (Ar Int (Ar Int Unit))) : Res (List Int) :=
  ((need (CPow (1 : Int) a.r.x) (Res.ok ((1 : Int) * 2 ^ (a.r.x).toNat))).bind fun v29 => Res.ok (v29 - (1 : Int))).bind fun mask_30 => ((m_lane_count (Ar.mk a.r.x ())).bind fun v31 => need (Rg62 v31) (Res.ok (irange 0 v31))).bind fun v37 => need (List.length v37 ≤ sizeLine) (filtR (fun (a32 : Int) => Res.quiet (Res.ok true)) (fun (a32 : Int) => Res.quiet (((need (CMul a32 (a.r.x + (1 : Int))) (Res.ok (a32 * (a.r.x + (1 : Int))))).bind fun v35 => need (0 ≤ v35) (Res.ok (a.x / 2 ^ (v35).toNat))).bind fun v36 => Res.ok (Builtin.bitAnd v36 mask_30))) v37)
abbrev s__lanes_of : Stmt := topS 12
theorem sc__lanes_of : FnScope ["word", "width", "mask", "at"] ["word", "width"] (defScope s__lanes_of) := ⟨rfl, rfl, rfl, by decide +kernel, rfl, by decide +kernel, by decide +kernel⟩
theorem ok__lanes_of {f : Addr} {fd : FuncData} (Fu : Fun K "_lanes_of" "_lanes_of" s__lanes_of f fd) (D_lane_count : DefAt P w K mg base CX0 1 "lane_count" ["width"] (spP K mg m_lane_count)) (z_range : mg "range" = none) : FnOk P w K mg base CX0 2 f fd ["word", "width"] (spF K mg m_lanes_of) := by
  refine def_F (τ := (Ar Int (Ar Int Unit))) (α := Int) Fu sc__lanes_of (fun a => [vl K mg a.x, vl K mg a.r.x, none, none]) (fun vs R a h => by
    obtain ⟨v0, w0, e0, h0, v1, w1, e1, h1, e2⟩ := h
    cases e2; cases e1; cases e0
    exact ⟨rfl, .cons h0 (.cons h1 (.cons trivial (.cons trivial (.nil))))⟩) (fun cdv A outer s H Av E a hr => ?_)
  refine tT_cast (b_N (s_set 2 sc__lanes_of.nd (List.nil_sublist _) (n_sub (b3 := true) (n_shl (b3 := true) (n_int (b := true)) (n_var 1)) (n_int (b := true)))) (fun mask_30 => (b_retF (f_lcf (own := [("at", 3)]) rfl sc__lanes_of.nd (i_range1 (b' := true) (nd_call D_lane_count (hr.mono (by decide)) (a_cons (n_var 1) a_nil)) z_range) (.inl rfl) (blkOk_by (N := ["word", "width", "mask", "at"]) (sc := defScope s__lanes_of) (by decide +kernel)) (tgok_name 3) (fun _ _ _ _ _ => (tg_name 3 sc__lanes_of.nd)) (fun _ _ _ _ _ a32 D33 ds34 => ts_nil) (fun _ _ _ _ _ a32 D33 ds34 => (n_band (b3 := true) (n_shr (b3 := true) (n_var 0) (n_mul (b3 := true) (n_var 3) (n_add (b3 := true) (n_var 1) (n_int (b := true))))) (n_var 2)))) (List.nil_sublist _)))) ?_
  simp -implicitDefEqProofs only [Res.bind_ok]
  rfl

/-! ### unpack -/
def m_unpack (a : (Ar (List Int) (Ar Int (Ar Int Unit)))) : Res (List Int) :=
  (((Res.quiet (m_lane_count (Ar.mk a.r.x ()))).bind fun v38 => need (CMul (List.length a.x : Int) v38) (Res.ok ((List.length a.x : Int) * v38))).bind fun v39 => Res.ok (decide (v39 < a.r.r.x))).bind fun v50 => if v50 then (Res.err "BadCells" []) else ((((comp2R (fun (a40 : Int) => Res.quiet (Res.ok true)) (fun (a40 : Int) => Res.quiet ((Res.quiet (m_lanes_of (Ar.mk a40 (Ar.mk a.r.x ())))).bind fun v44 => Res.ok v44)) (fun (a40 : Int) (a41 : Int) => Res.quiet (Res.ok true)) (fun (a40 : Int) (a41 : Int) => Res.quiet (Res.ok a41)) 0 a.x)).bind fun v45 => Res.ok (cut v45 none (some a.r.r.x))).bind fun numbers_46 => ((m_pack (Ar.mk numbers_46 (Ar.mk a.r.x ()))).bind fun v48 => need (shp v48 = true ∧ shp a.x = true) (Res.ok (!eqD v48 a.x))).bind fun v49 => if v49 then (Res.err "BadCells" []) else (Res.ok numbers_46))
abbrev s_unpack : Stmt := topS 13
theorem sc_unpack : FnScope ["words", "width", "count", "numbers", "word", "number"] ["words", "width", "count"] (defScope s_unpack) := ⟨rfl, rfl, rfl, by decide +kernel, rfl, by decide +kernel, by decide +kernel⟩
theorem ok_unpack {f : Addr} {fd : FuncData} (Fu : Fun K "unpack" "unpack" s_unpack f fd) (D_lane_count : DefAt P w K mg base CX0 1 "lane_count" ["width"] (spP K mg m_lane_count)) (R_BadCells : Err0 K mg "BadCells") (D__lanes_of : DefAt P w K mg base CX0 2 "_lanes_of" ["word", "width"] (spF K mg m_lanes_of)) (D_pack : DefAt P w K mg base (L2N.CX P w) 4 "pack" ["numbers", "width"] (spXF K mg m_pack)) (z_len : mg "len" = none) (z_list : mg "list" = none) : FnOk P w K mg base (L2N.CX P w) 5 f fd ["words", "width", "count"] (spXF K mg m_unpack) := by
  refine def_XF (τ := (Ar (List Int) (Ar Int (Ar Int Unit)))) (α := Int) Fu sc_unpack (fun a => [vl K mg a.x, vl K mg a.r.x, vl K mg a.r.r.x, none, none, none]) (fun vs R a h => by
    obtain ⟨v0, w0, e0, h0, v1, w1, e1, h1, v2, w2, e2, h2, e3⟩ := h
    cases e3; cases e2; cases e1; cases e0
    exact ⟨rfl, .cons h0 (.cons h1 (.cons h2 (.cons trivial (.cons trivial (.cons trivial (.nil))))))⟩) (fun cdv A outer s H Av E a hr htk => ?_)
  refine tT_cast (b_if (t_lt (n_mul (b3 := true) (n_len (b3 := true) (pe_callB call_len_seq (by rfl) z_len (by decide +kernel) (pa_cons (n_var 0) pa_nil)) rfl) (nq_call D_lane_count (hr.mono (by decide)) (a_cons (n_var 1) a_nil))) (n_var 2)) (b_s (s_raise0 R_BadCells rfl (htk _ _) (List.nil_sublist _))) (b_Np (s_own 3 sc_unpack.nd (List.nil_sublist _) (f_slice (f_val (f_lc2 (own := [("word", 4), ("number", 5)]) (vs1 := [5]) rfl sc_unpack.nd (i_lk (n_var 0)) (.inl rfl) (blkOk_by (N := ["words", "width", "count", "numbers", "word", "number"]) (sc := defScope s_unpack) (by decide +kernel)) (by decide) (TgOk.up (tgok_name 4) (by decide)) (tgok_name 5) (fun _ _ _ _ _ => Tg.up (tg_name 4 sc_unpack.nd) (by decide)) (fun _ _ _ _ _ a40 D42 ds43 => ts_nil) (fun _ _ _ _ _ a40 D42 ds43 => (i_lk (f_val (fq_call D__lanes_of (hr.mono (by decide)) (a_cons (n_var 4) (a_cons (n_var 1) a_nil)))))) (fun _ _ _ _ _ => (tg_name 5 sc_unpack.nd)) (fun _ _ _ _ _ a40 a41 D42 ds43 => ts_nil) (fun _ _ _ _ _ a40 a41 D42 ds43 => (n_var 5)))) o_none (o_some (n_var 2)))) (fun numbers_46 p47 => (b_if (t_neD (b1 := true) (b2 := true) (f_val (f_strong (b := false) (b' := true) (f_callX D_pack (hr.mono (by decide)) (htk _ _) (a_cons (n_own 3 rfl List.mem_cons_self) (a_cons (weak (n_var 1)) a_nil))))) (f_val (f_list (pe_callTy call_list_of (by rfl) z_list (by decide +kernel) (pa_cons (n_var 0) pa_nil)) rfl)) hr.units) (b_s (s_raise0 R_BadCells rfl (htk _ _) (List.nil_sublist _))) (b_retO 3 rfl (List.Perm.refl _) rfl (List.nil_sublist _)) (List.nil_sublist _)))) (List.nil_sublist _)) ?_
  simp -implicitDefEqProofs only [Res.bind_ok]
  rfl

/-! ### lanes_below -/
def m_lanes_below (a : (Ar Int (Ar Int (Ar Int Unit)))) : Res (Tp Bool) :=
  (((m_lanes_of (Ar.mk a.x (Ar.mk a.r.x ()))).bind fun v51 => Res.ok v51).bind fun v55 => need (List.length v55 ≤ sizeLine) (filtR (fun (a52 : Int) => Res.quiet (Res.ok true)) (fun (a52 : Int) => Res.quiet (Res.ok (decide (a52 < a.r.r.x)))) v55)).bind fun v56 => Res.ok (Tp.mk v56)
abbrev s_lanes_below : Stmt := topS 14
theorem sc_lanes_below : FnScope ["word", "width", "bound", "number"] ["word", "width", "bound"] (defScope s_lanes_below) := ⟨rfl, rfl, rfl, by decide +kernel, rfl, by decide +kernel, by decide +kernel⟩
theorem ok_lanes_below {f : Addr} {fd : FuncData} (Fu : Fun K "lanes_below" "lanes_below" s_lanes_below f fd) (D__lanes_of : DefAt P w K mg base CX0 2 "_lanes_of" ["word", "width"] (spF K mg m_lanes_of)) (z_tuple : mg "tuple" = none) : FnOk P w K mg base CX0 3 f fd ["word", "width", "bound"] (spP K mg m_lanes_below) := by
  refine def_P (τ := (Ar Int (Ar Int (Ar Int Unit)))) (ρ := (Tp Bool)) Fu sc_lanes_below (fun a => [vl K mg a.x, vl K mg a.r.x, vl K mg a.r.r.x, none]) (fun vs R a h => by
    obtain ⟨v0, w0, e0, h0, v1, w1, e1, h1, v2, w2, e2, h2, e3⟩ := h
    cases e3; cases e2; cases e1; cases e0
    exact ⟨rfl, .cons h0 (.cons h1 (.cons h2 (.cons trivial (.nil))))⟩) (fun cdv A outer s H Av E a hr => ?_)
  refine tT_cast (b_ret (n_tupleOf (pe_callTy call_tuple_of (by rfl) z_tuple (by decide +kernel) (pa_cons (f_val (f_lcf (own := [("number", 3)]) rfl sc_lanes_below.nd (i_lk (f_val (fd_call D__lanes_of (hr.mono (by decide)) (a_cons (n_var 0) (a_cons (n_var 1) a_nil))))) (.inl rfl) (blkOk_by (N := ["word", "width", "bound", "number"]) (sc := defScope s_lanes_below) (by decide +kernel)) (tgok_name 3) (fun _ _ _ _ _ => (tg_name 3 sc_lanes_below.nd)) (fun _ _ _ _ _ a52 D53 ds54 => ts_nil) (fun _ _ _ _ _ a52 D53 ds54 => (n_lt (b3 := true) (n_var 3) (n_var 2))))) pa_nil)) rfl) (List.nil_sublist _)) ?_
  simp -implicitDefEqProofs only [Res.bind_ok]
  rfl

/-! ### _law_digits -/
def m_law_digits (a : (Ar Scr Unit)) : Res (List Int) :=
  need (List.length (cut a.x.ns none (some (63 : Int))) ≤ sizeLine) (filtR (fun (a57 : Int) => Res.quiet (Res.ok true)) (fun (a57 : Int) => Res.quiet ((need (CPow (10 : Int) (60 : Int)) (Res.ok ((10 : Int) ^ ((60 : Int)).toNat))).bind fun v60 => need (0 < v60) (Res.ok ((if a57 < 0 then -a57 else a57) % v60)))) (cut a.x.ns none (some (63 : Int))))
abbrev s__law_digits : Stmt := topS 16
theorem sc__law_digits : FnScope ["script", "cell"] ["script"] (defScope s__law_digits) := ⟨rfl, rfl, rfl, by decide +kernel, rfl, by decide +kernel, by decide +kernel⟩
theorem ok__law_digits {f : Addr} {fd : FuncData} (Fu : Fun K "_law_digits" "_law_digits" s__law_digits f fd) (z_abs : mg "abs" = none) : FnOk P w K mg base CX0 1 f fd ["script"] (spF K mg m_law_digits) := by
  refine def_F (τ := (Ar Scr Unit)) (α := Int) Fu sc__law_digits (fun a => [vl K mg a.x, none]) (fun vs R a h => by
    obtain ⟨v0, w0, e0, h0, e1⟩ := h
    cases e1; cases e0
    exact ⟨rfl, .cons h0 (.cons trivial (.nil))⟩) (fun cdv A outer s H Av E a hr => ?_)
  refine tT_cast (b_retF (f_lcf (own := [("cell", 1)]) rfl sc__law_digits.nd (i_lk (f_val (f_sliceS (n_var 0) o_none (o_some (n_int (b := true)))))) (.inl rfl) (blkOk_by (N := ["script", "cell"]) (sc := defScope s__law_digits) (by decide +kernel)) (tgok_name 1) (fun _ _ _ _ _ => (tg_name 1 sc__law_digits.nd)) (fun _ _ _ _ _ a57 D58 ds59 => ts_nil) (fun _ _ _ _ _ a57 D58 ds59 => (n_mod (b3 := true) (n_abs (b3 := true) (pe_callB call_abs (by rfl) z_abs (by decide +kernel) (pa_cons (n_var 1) pa_nil)) rfl) (n_pow (b3 := true) (n_int (b := true)) (n_int (b := true)))))) (List.nil_sublist _)) ?_
  simp -implicitDefEqProofs only [Res.bind_ok]
  rfl

/-! ### _law_draw -/
def m_law_draw (xs0 : List Int) (a : (Ar Int Unit)) : Res (Int × List Int) :=
  ((need (List.length ([] : List Int) ≤ sizeLine) (Res.ok ([] : List Int))).bind fun v61 => need (shp xs0 = true ∧ shp v61 = true) (Res.ok (eqD xs0 v61))).bind fun v75 => if v75 then (Res.ok ((0 : Int), xs0)) else ((((idx xs0 (0 : Int)).bind fun v62 => Res.ok v62).bind fun v63 => need (0 < a.x) (Res.ok (v63 % a.x))).bind fun digit_64 => ((((idx xs0 (0 : Int)).bind fun v65 => need (CDiv v65 a.x) (Res.ok (v65 / a.x))).bind fun v66 => Res.ok (v66, xs0)).bind fun u68 => setR u68.2 (0 : Int) u68.1).bind fun xs69 => (((idx xs69 (0 : Int)).bind fun v70 => Res.ok (decide (v70 = (0 : Int)))).bind fun v74 => if v74 then ((popAtR xs69 (0 : Int)).bind fun w73 => Res.ok w73.2) else (Res.ok xs69)).bind fun b72 => Res.ok (digit_64, b72))
abbrev s__law_draw : Stmt := topS 17
theorem sc__law_draw : FnScope ["pool", "many", "digit"] ["pool", "many"] (defScope s__law_draw) := ⟨rfl, rfl, rfl, by decide +kernel, rfl, by decide +kernel, by decide +kernel⟩
theorem ok__law_draw {f : Addr} {fd : FuncData} (Fu : Fun K "_law_draw" "_law_draw" s__law_draw f fd) (z_int : mg "int" = none) : FnOk P w K mg base CX0 1 f fd ["pool", "many"] (spI K mg m_law_draw) := by
  refine def_I (τ := (Ar Int Unit)) (ρ := Int) (ι := Int) Fu sc__law_draw (fun p a => [rf p, vl K mg a.x, none]) (fun vs R p a h => by
    obtain ⟨v0, w0, e0, h0, e1⟩ := h
    cases e1; cases e0
    exact ⟨rfl, .cons rfl (.cons h0 (.cons trivial (.nil)))⟩) (fun cdv A outer s H Av E p0 xs0 a hr => ?_)
  refine tT_cast (b_if (t_eqD (b1 := false) (b2 := true) (n_own 0 rfl List.mem_cons_self) (f_val (f_lst (l_nil (α := Int)))) hr.units) (b_retI (n_int (b := true)) (List.Sublist.cons₂ _ (List.nil_sublist _)) (List.nil_sublist _)) (b_N (s_set 2 sc__law_draw.nd (List.nil_sublist _) (n_mod (b3 := true) (n_int1 (b3 := true) (pe_callTy call_int1 (by rfl) z_int (by decide +kernel) (pa_cons (n_idx (n_own 0 rfl List.mem_cons_self) (n_int (b := true))) pa_nil)) rfl) (n_var 1))) (fun digit_64 => (b_N (s_sub 0 rfl (fun _ => List.nil_sublist _) (e_p (List.nil_sublist _) (n_fdiv (b3 := true) (n_idx (n_own 0 rfl List.mem_cons_self) (n_int (b := true))) (n_var 1))) (fun xs67 => (n_int (b := true)))) (fun xs69 => (b_N (s_ifS (Sp2.mk : Sp2 (fun b : ((List Int)) => [rf p0, vl K mg (a.x : Int), vl K mg (digit_64 : Int)]) (fun b : ((List Int)) => ([ow K mg p0 (b : List Int)] : List Own))) (t_eq (n_idx (n_own 0 rfl List.mem_cons_self) (n_int (b := true))) (n_int (b := true))) (n_N (s_exprE (e_popAt 0 rfl (fun _ => List.nil_sublist _) (n_int (b := true)) (fun h1 h2 => pe_bm PySem.F.plainAttrs_list PySem.F.slot_list_pop PySem.F.type_list_pop mt_popAt h1 h2))) (fun w73 => (n_end w73.2 ⟨.inr rfl, .inr rfl, .inr rfl, trivial⟩ (List.Sublist.cons₂ _ (List.nil_sublist _))))) (n_end xs69 ⟨.inr rfl, .inr rfl, .inr rfl, trivial⟩ (List.Sublist.cons₂ _ (List.nil_sublist _))) (List.nil_sublist _)) (fun b72 => (b_retI (n_var 2) (List.Sublist.cons₂ _ (List.nil_sublist _)) (List.nil_sublist _)))))))) (List.nil_sublist _)) ?_
  simp -implicitDefEqProofs only [Res.bind_ok]
  rfl

/-! ### _law_words -/
def m_law_words (a : (Ar (List Int) (Ar Int Unit))) : Res (List Int) :=
  (need (CDiv (60 : Int) (a.r.x + (1 : Int))) (Res.ok ((60 : Int) / (a.r.x + (1 : Int))))).bind fun many_76 => (need (CPow (2 : Int) a.r.x) (Res.ok ((2 : Int) * 2 ^ (a.r.x).toNat))).bind fun base_77 => (need (List.length ([] : List Int) ≤ sizeLine) (Res.ok ([] : List Int))).bind fun words_78 => ((need (many_76 ≠ 0 ∧ Int.natAbs many_76 < 1073741824 ∧ Builtin.Range.small (0 : Int) (List.length a.x : Int) many_76 = true) (Res.ok (irange3 (0 : Int) (List.length a.x : Int) many_76))).bind fun v92 => foldR (fun (a80 : Int) (b81 : ((List Int))) => (let word_84 := (0 : Int)
  (foldR (fun (a85 : Int) (b86 : (Int)) => ((need (CMul b86 base_77) (Res.ok (b86 * base_77))).bind fun v89 => Res.ok (v89 + a85)).bind fun word_90 => Res.ok word_90) (List.reverse (cut a.x (some a80) (some (a80 + many_76)))) word_84).bind fun b88 => (need (List.length b81 < sizeLine) (Res.ok (b81 ++ [b88]))).bind fun words_91 => Res.ok words_91)) v92 words_78).bind fun b83 => Res.ok b83
abbrev s__law_words : Stmt := topS 18
theorem sc__law_words : FnScope ["row", "width", "many", "base", "words", "start", "word", "number"] ["row", "width"] (defScope s__law_words) := ⟨rfl, rfl, rfl, by decide +kernel, rfl, by decide +kernel, by decide +kernel⟩
theorem ok__law_words {f : Addr} {fd : FuncData} (Fu : Fun K "_law_words" "_law_words" s__law_words f fd) (z_len : mg "len" = none) (z_range : mg "range" = none) : FnOk P w K mg base CX0 1 f fd ["row", "width"] (spF K mg m_law_words) := by
  refine def_F (τ := (Ar (List Int) (Ar Int Unit))) (α := Int) Fu sc__law_words (fun a => [vl K mg a.x, vl K mg a.r.x, none, none, none, none, none, none]) (fun vs R a h => by
    obtain ⟨v0, w0, e0, h0, v1, w1, e1, h1, e2⟩ := h
    cases e2; cases e1; cases e0
    exact ⟨rfl, .cons h0 (.cons h1 (.cons trivial (.cons trivial (.cons trivial (.cons trivial (.cons trivial (.cons trivial (.nil))))))))⟩) (fun cdv A outer s H Av E a hr => ?_)
  refine tT_cast (b_N (s_set 2 sc__law_words.nd (List.nil_sublist _) (n_fdiv (b3 := true) (n_int (b := true)) (n_add (b3 := true) (n_var 1) (n_int (b := true))))) (fun many_76 => (b_N (s_set 3 sc__law_words.nd (List.nil_sublist _) (n_shl (b3 := true) (n_int (b := true)) (n_var 1))) (fun base_77 => (b_Np (s_own 4 sc__law_words.nd (List.nil_sublist _) (f_lst (l_nil (α := Int)))) (fun words_78 p79 => (b_N (s_for (Sp3.mk : Sp3 (fun b : ((List Int)) => [vl K mg (a.x : (List Int)), vl K mg (a.r.x : Int), vl K mg (many_76 : Int), vl K mg (base_77 : Int), rf p79, none, none, none]) (fun b : ((List Int)) => ([ow K mg p79 (b : List Int)] : List Own)) words_78) PassesOwn.never rfl (i_range3 (b' := true) (n_int (b := true)) (n_len (b3 := true) (pe_callB call_len_seq (by rfl) z_len (by decide +kernel) (pa_cons (n_var 0) pa_nil)) rfl) (n_var 2) z_range) (tg_name 5 sc__law_words.nd) (List.nil_sublist _) ⟨.inr rfl, .inr rfl, .inr rfl, .inr rfl, .inr rfl, .inl rfl, .inl rfl, .inl rfl, trivial⟩ (List.Sublist.refl _) (fun z82 a80 b81 => (n_N (s_set 6 sc__law_words.nd (List.nil_sublist _) (n_int (b := true))) (fun word_84 => (n_N (s_for (Sp3.mk : Sp3 (fun b : (Int) => [vl K mg (a.x : (List Int)), vl K mg (a.r.x : Int), vl K mg (many_76 : Int), vl K mg (base_77 : Int), rf p79, vl K mg (a80 : Int), vl K mg (b : Int), none]) (fun b : (Int) => ([ow K mg p79 (b81 : List Int)] : List Own)) word_84) PassesOwn.never rfl (i_lk (f_val (f_rev (f_val (f_slice (n_var 0) (o_some (n_var 5)) (o_some (n_add (b3 := true) (n_var 5) (n_var 2)))))))) (tg_name 7 sc__law_words.nd) (List.nil_sublist _) ⟨.inr rfl, .inr rfl, .inr rfl, .inr rfl, .inr rfl, .inr rfl, .inr rfl, .inl rfl, trivial⟩ (List.Sublist.refl _) (fun z87 a85 b86 => (n_N (s_set 6 sc__law_words.nd (List.nil_sublist _) (n_add (b3 := true) (n_mul (b3 := true) (n_var 6) (n_var 3)) (n_var 7))) (fun word_90 => (n_end word_90 ⟨.inr rfl, .inr rfl, .inr rfl, .inr rfl, .inr rfl, .inr rfl, .inr rfl, .inl rfl, trivial⟩ (List.Sublist.cons₂ _ (List.nil_sublist _))))))) (fun b88 => (n_N (s_app 4 rfl (fun _ => List.nil_sublist _) (n_var 6) (fun h1 h2 => pe_bm PySem.F.plainAttrs_list PySem.F.slot_list_append PySem.F.type_list_append mt_append h1 h2)) (fun words_91 => (n_end words_91 ⟨.inr rfl, .inr rfl, .inr rfl, .inr rfl, .inr rfl, .inl rfl, .inl rfl, .inl rfl, trivial⟩ (List.Sublist.cons₂ _ (List.nil_sublist _))))))))))) (fun b83 => (b_retO 4 rfl (List.Perm.refl _) rfl (List.nil_sublist _)))))))))) ?_
  simp -implicitDefEqProofs only [Res.bind_ok]
  rfl

/-! ### _law_lanes -/
def m_law_lanes (a : (Ar Int (Ar Int Unit))) : Res (List Int) :=
  (need (CPow (2 : Int) a.r.x) (Res.ok ((2 : Int) * 2 ^ (a.r.x).toNat))).bind fun base_93 => (need (List.length ([] : List Int) ≤ sizeLine) (Res.ok ([] : List Int))).bind fun lanes_94 => (((need (CDivW (60 : Int) (a.r.x + (1 : Int))) (Res.ok ((60 : Int) / (a.r.x + (1 : Int))))).bind fun v96 => need (Rg62 v96) (Res.ok (irange 0 v96))).bind fun v104 => foldR (fun (a97 : Int) (b98 : (Int × (List Int))) => ((need (0 < base_93) (Res.ok (b98.1 % base_93))).bind fun v101 => need (List.length b98.2 < sizeLine) (Res.ok (b98.2 ++ [v101]))).bind fun lanes_102 => (need (CDivW b98.1 base_93) (Res.ok (b98.1 / base_93))).bind fun word_103 => Res.ok (word_103, lanes_102)) v104 (a.x, lanes_94)).bind fun b100 => Res.ok b100.2
abbrev s__law_lanes : Stmt := topS 19
theorem sc__law_lanes : FnScope ["word", "width", "base", "lanes", "k"] ["word", "width"] (defScope s__law_lanes) := ⟨rfl, rfl, rfl, by decide +kernel, rfl, by decide +kernel, by decide +kernel⟩
theorem ok__law_lanes {f : Addr} {fd : FuncData} (Fu : Fun K "_law_lanes" "_law_lanes" s__law_lanes f fd) (z_int : mg "int" = none) (z_range : mg "range" = none) : FnOk P w K mg base CX0 1 f fd ["word", "width"] (spF K mg m_law_lanes) := by
  refine def_F (τ := (Ar Int (Ar Int Unit))) (α := Int) Fu sc__law_lanes (fun a => [vl K mg a.x, vl K mg a.r.x, none, none, none]) (fun vs R a h => by
    obtain ⟨v0, w0, e0, h0, v1, w1, e1, h1, e2⟩ := h
    cases e2; cases e1; cases e0
    exact ⟨rfl, .cons h0 (.cons h1 (.cons trivial (.cons trivial (.cons trivial (.nil)))))⟩) (fun cdv A outer s H Av E a hr => ?_)
  refine tT_cast (b_N (s_set 2 sc__law_lanes.nd (List.nil_sublist _) (n_shl (b3 := true) (n_int (b := true)) (n_var 1))) (fun base_93 => (b_Np (s_own 3 sc__law_lanes.nd (List.nil_sublist _) (f_lst (l_nil (α := Int)))) (fun lanes_94 p95 => (b_N (s_for (Sp3.mk : Sp3 (fun b : (Int × (List Int)) => [vl K mg (b.1 : Int), vl K mg (a.r.x : Int), vl K mg (base_93 : Int), rf p95, none]) (fun b : (Int × (List Int)) => ([ow K mg p95 (b.2 : List Int)] : List Own)) (a.x, lanes_94)) PassesOwn.never rfl (i_range1 (b' := true) (n_fdivW (b3 := true) (n_int (b := true)) (n_add (b3 := true) (n_var 1) (n_int (b := true)))) z_range) (tg_name 4 sc__law_lanes.nd) (List.nil_sublist _) ⟨.inr rfl, .inr rfl, .inr rfl, .inr rfl, .inl rfl, trivial⟩ (List.Sublist.refl _) (fun z99 a97 b98 => (n_N (s_app 3 rfl (fun _ => List.nil_sublist _) (n_mod (b3 := true) (n_int1 (b3 := true) (pe_callTy call_int1 (by rfl) z_int (by decide +kernel) (pa_cons (n_var 0) pa_nil)) rfl) (n_var 2)) (fun h1 h2 => pe_bm PySem.F.plainAttrs_list PySem.F.slot_list_append PySem.F.type_list_append mt_append h1 h2)) (fun lanes_102 => (n_N (s_set 0 sc__law_lanes.nd (List.nil_sublist _) (n_fdivW (b3 := true) (n_var 0) (n_var 2))) (fun word_103 => (n_end (word_103, lanes_102) ⟨.inr rfl, .inr rfl, .inr rfl, .inr rfl, .inl rfl, trivial⟩ (List.Sublist.cons₂ _ (List.nil_sublist _))))))))) (fun b100 => (b_retO 3 rfl (List.Perm.refl _) rfl (List.nil_sublist _)))))))) ?_
  simp -implicitDefEqProofs only [Res.bind_ok]
  rfl

/-! ### _law_packed -/
def m_law_packed (a : (Ar (List Int) (Ar Int (Ar Int Unit)))) : Res (List Int) :=
  (need (List.length ([] : List Int) ≤ sizeLine) (Res.ok ([] : List Int))).bind fun row_105 => (foldR (fun (a106 : Int) (b107 : ((List Int))) => ((m_law_lanes (Ar.mk a106 (Ar.mk a.r.x ()))).bind fun v110 => need (List.length b107 + List.length v110 ≤ sizeLine) (Res.ok (b107 ++ v110))).bind fun row_111 => Res.ok row_111) a.x row_105).bind fun b109 => (let row_112 := (cut b109 none (some a.r.r.x))
  (if (decide ((List.length row_112 : Int) < a.r.r.x)) then Res.ok true else ((((need (List.length ((0 : Int) :: []) ≤ sizeLine) (Res.ok ((0 : Int) :: []))).bind fun v113 => need (List.length row_112 + List.length v113 ≤ sizeLine) (Res.ok (row_112 ++ v113))).bind fun v114 => maxR v114).bind fun v115 => (need (CPow (1 : Int) a.r.x) (Res.ok ((1 : Int) * 2 ^ (a.r.x).toNat))).bind fun v116 => Res.ok (decide (v116 ≤ v115)))).bind fun v119 => if v119 then (need (List.length ([] : List Int) ≤ sizeLine) (Res.ok ([] : List Int))) else (((m_law_words (Ar.mk row_112 (Ar.mk a.r.x ()))).bind fun v117 => need (shp v117 = true ∧ shp a.x = true) (Res.ok (eqD v117 a.x))).bind fun v118 => if v118 then (Res.ok row_112) else (need (List.length ([] : List Int) ≤ sizeLine) (Res.ok ([] : List Int)))))
abbrev s__law_packed : Stmt := topS 20
theorem sc__law_packed : FnScope ["words", "width", "count", "row", "word"] ["words", "width", "count"] (defScope s__law_packed) := ⟨rfl, rfl, rfl, by decide +kernel, rfl, by decide +kernel, by decide +kernel⟩
theorem ok__law_packed {f : Addr} {fd : FuncData} (Fu : Fun K "_law_packed" "_law_packed" s__law_packed f fd) (D__law_lanes : DefAt P w K mg base CX0 1 "_law_lanes" ["word", "width"] (spF K mg m_law_lanes)) (D__law_words : DefAt P w K mg base CX0 1 "_law_words" ["row", "width"] (spF K mg m_law_words)) (z_len : mg "len" = none) (z_max : mg "max" = none) : FnOk P w K mg base CX0 2 f fd ["words", "width", "count"] (spP K mg m_law_packed) := by
  refine def_P (τ := (Ar (List Int) (Ar Int (Ar Int Unit)))) (ρ := (List Int)) Fu sc__law_packed (fun a => [vl K mg a.x, vl K mg a.r.x, vl K mg a.r.r.x, none, none]) (fun vs R a h => by
    obtain ⟨v0, w0, e0, h0, v1, w1, e1, h1, v2, w2, e2, h2, e3⟩ := h
    cases e3; cases e2; cases e1; cases e0
    exact ⟨rfl, .cons h0 (.cons h1 (.cons h2 (.cons trivial (.cons trivial (.nil)))))⟩) (fun cdv A outer s H Av E a hr => ?_)
  refine tT_cast (b_N (s_set 3 sc__law_packed.nd (List.nil_sublist _) (f_val (f_lst (l_nil (α := Int))))) (fun row_105 => (b_N (s_for (Sp3.mk : Sp3 (fun b : ((List Int)) => [vl K mg (a.x : (List Int)), vl K mg (a.r.x : Int), vl K mg (a.r.r.x : Int), vl K mg (b : (List Int)), none]) (fun b : ((List Int)) => ([] : List Own)) row_105) PassesOwn.never rfl (i_lk (n_var 0)) (tg_name 4 sc__law_packed.nd) (List.nil_sublist _) ⟨.inr rfl, .inr rfl, .inr rfl, .inr rfl, .inl rfl, trivial⟩ (List.Sublist.refl _) (fun z108 a106 b107 => (n_N (s_set 3 sc__law_packed.nd (List.nil_sublist _) (f_val (f_cat (n_var 3) (f_val (fd_call D__law_lanes (hr.mono (by decide)) (a_cons (n_var 4) (a_cons (n_var 1) a_nil))))))) (fun row_111 => (n_end row_111 ⟨.inr rfl, .inr rfl, .inr rfl, .inr rfl, .inl rfl, trivial⟩ (List.nil_sublist _)))))) (fun b109 => (b_N (s_set 3 sc__law_packed.nd (List.nil_sublist _) (f_val (f_slice (n_var 3) o_none (o_some (n_var 2))))) (fun row_112 => (b_if (PW.pt (w_or (t_lt (n_len (b3 := true) (pe_callB call_len_seq (by rfl) z_len (by decide +kernel) (pa_cons (n_var 3) pa_nil)) rfl) (n_var 2)) (w_or1 (t_ge (n_max (b3 := true) (pe_callB (cr_max rfl) (by rfl) z_max (by decide +kernel) (pa_cons (f_val (f_cat (n_var 3) (f_val (f_lst (l_cons (n_int (b := true)) (l_nil (α := Int))))))) pa_nil)) rfl) (n_shl (b3 := true) (n_int (b := true)) (n_var 1)))))) (b_ret (f_val (f_lst (l_nil (α := Int)))) (List.nil_sublist _)) (b_ret (n_if (t_eqD (b1 := true) (b2 := true) (f_val (fd_call D__law_words (hr.mono (by decide)) (a_cons (n_var 3) (a_cons (n_var 1) a_nil)))) (n_var 0) hr.units) (n_var 3) (f_val (f_lst (l_nil (α := Int))))) (List.nil_sublist _)) (List.nil_sublist _)))))))) ?_
  simp -implicitDefEqProofs only [Res.bind_ok]
  rfl

/-! ### _law_int -/
def m_law_int (a : (Ar PyData (Ar Int Unit))) : Res Bool :=
  (isT "int" (Ty.tyN a.x)).bind fun v122 => if v122 then (((isT "bool" (Ty.tyN a.x)).bind fun v120 => Res.ok (!v120)).bind fun v121 => if v121 then (need (shp a.x = true ∧ shp a.r.x = true) (Res.ok (eqD a.x a.r.x))) else Res.ok false) else Res.ok false
abbrev s__law_int : Stmt := topS 21
theorem sc__law_int : FnScope ["told", "due"] ["told", "due"] (defScope s__law_int) := ⟨rfl, rfl, rfl, by decide +kernel, rfl, by decide +kernel, by decide +kernel⟩
theorem ok__law_int {f : Addr} {fd : FuncData} (Fu : Fun K "_law_int" "_law_int" s__law_int f fd) (z_bool : mg "bool" = none) (z_int : mg "int" = none) (z_isinstance : mg "isinstance" = none) : FnOk P w K mg base CX0 1 f fd ["told", "due"] (spP K mg m_law_int) := by
  refine def_P (τ := (Ar PyData (Ar Int Unit))) (ρ := Bool) Fu sc__law_int (fun a => [vl K mg a.x, vl K mg a.r.x]) (fun vs R a h => by
    obtain ⟨v0, w0, e0, h0, v1, w1, e1, h1, e2⟩ := h
    cases e2; cases e1; cases e0
    exact ⟨rfl, .cons h0 (.cons h1 (.nil))⟩) (fun cdv A outer s H Av E a hr => ?_)
  refine tT_cast (b_ret (n_and (b3 := true) (n_isi (b3 := true) (n := "int") (n_var 0) (by decide +kernel) z_int z_isinstance rfl rfl rfl rfl (by decide) (by decide) rfl rfl (fun h1 h2 => pe_callB h1 (by rfl) z_isinstance (by decide +kernel) h2)) (n_and (b3 := true) (n_not (b3 := true) (n_isi (b3 := true) (n := "bool") (n_var 0) (by decide +kernel) z_bool z_isinstance rfl rfl rfl rfl (by decide) (by decide) rfl rfl (fun h1 h2 => pe_callB h1 (by rfl) z_isinstance (by decide +kernel) h2))) (n_one (n_eqD (b1 := true) (b2 := true) (b3 := true) (n_var 0) (n_var 1) hr.units)))) (List.nil_sublist _)) ?_
  simp -implicitDefEqProofs only [Res.bind_ok]
  rfl

/-! ### _law_ints -/
def m_law_ints (a : (Ar (List Int) (Ar (List Int) Unit))) : Res Bool :=
  (((isT "list" (Ty.tyN a.x)).bind fun v123 => Res.ok (!v123)).bind fun v124 => if v124 then Res.ok true else (Res.ok (!decide ((List.length a.x : Int) = (List.length a.r.x : Int))))).bind fun v135 => if v135 then (Res.ok false) else (((need (Rg62 (List.length a.r.x : Int)) (Res.ok (irange 0 (List.length a.r.x : Int)))).bind fun v133 => need (List.length v133 ≤ sizeLine) (filtR (fun (a125 : Int) => Res.quiet (Res.ok true)) (fun (a125 : Int) => Res.quiet ((((idx a.x a125).bind fun v128 => Res.ok (toD v128)).bind fun v130 => ((idx a.r.x a125).bind fun v129 => Res.ok (Ar.mk v129 ())).bind fun r131 => Res.ok (Ar.mk v130 r131)).bind fun u132 => m_law_int u132)) v133)).bind fun v134 => Res.ok (List.all v134 id))
abbrev s__law_ints : Stmt := topS 22
theorem sc__law_ints : FnScope ["told", "due", "k"] ["told", "due"] (defScope s__law_ints) := ⟨rfl, rfl, rfl, by decide +kernel, rfl, by decide +kernel, by decide +kernel⟩
theorem ok__law_ints {f : Addr} {fd : FuncData} (Fu : Fun K "_law_ints" "_law_ints" s__law_ints f fd) (D__law_int : DefAt P w K mg base CX0 1 "_law_int" ["told", "due"] (spP K mg m_law_int)) (z_all : mg "all" = none) (z_isinstance : mg "isinstance" = none) (z_len : mg "len" = none) (z_list : mg "list" = none) (z_range : mg "range" = none) : FnOk P w K mg base CX0 2 f fd ["told", "due"] (spP K mg m_law_ints) := by
  refine def_P (τ := (Ar (List Int) (Ar (List Int) Unit))) (ρ := Bool) Fu sc__law_ints (fun a => [vl K mg a.x, vl K mg a.r.x, none]) (fun vs R a h => by
    obtain ⟨v0, w0, e0, h0, v1, w1, e1, h1, e2⟩ := h
    cases e2; cases e1; cases e0
    exact ⟨rfl, .cons h0 (.cons h1 (.cons trivial (.nil)))⟩) (fun cdv A outer s H Av E a hr => ?_)
  refine tT_cast (b_if (PW.pt (w_or (t_not (t_val (n_isi (b3 := true) (n := "list") (n_var 0) (by decide +kernel) z_list z_isinstance rfl rfl rfl rfl (by decide) (by decide) rfl rfl (fun h1 h2 => pe_callB h1 (by rfl) z_isinstance (by decide +kernel) h2)))) (w_or1 (t_ne (n_len (b3 := true) (pe_callB call_len_seq (by rfl) z_len (by decide +kernel) (pa_cons (n_var 0) pa_nil)) rfl) (n_len (b3 := true) (pe_callB call_len_seq (by rfl) z_len (by decide +kernel) (pa_cons (n_var 1) pa_nil)) rfl))))) (b_ret (n_bl (b := true)) (List.nil_sublist _)) (b_ret (n_all (b3 := true) (pe_callB (cr_all rfl) (by rfl) z_all (by decide +kernel) (pa_cons (f_val (f_lcf (own := [("k", 2)]) rfl sc__law_ints.nd (i_range1 (b' := true) (n_len (b3 := true) (pe_callB call_len_seq (by rfl) z_len (by decide +kernel) (pa_cons (n_var 1) pa_nil)) rfl) z_range) (.inl rfl) (blkOk_by (N := ["told", "due", "k"]) (sc := defScope s__law_ints) (by decide +kernel)) (tgok_name 2) (fun _ _ _ _ _ => (tg_name 2 sc__law_ints.nd)) (fun _ _ _ _ _ a125 D126 ds127 => ts_nil) (fun _ _ _ _ _ a125 D126 ds127 => (nd_call D__law_int (hr.mono (by decide)) (a_cons (n_toD (n_idx (n_var 0) (n_var 2))) (a_cons (n_idx (n_var 1) (n_var 2)) a_nil)))))) pa_nil)) rfl) (List.nil_sublist _)) (List.nil_sublist _)) ?_
  simp -implicitDefEqProofs only [Res.bind_ok]
  rfl

/-! ### _law_read -/
def m_law_read (a : (Ar (List Int) (Ar Int (Ar Int Unit)))) : Res Bool :=
  (let handed_136 := a.x
  (m_law_packed (Ar.mk a.x (Ar.mk a.r.x (Ar.mk a.r.r.x ())))).bind fun due_137 => goOn (tryR "BadCells" ((m_unpack (Ar.mk handed_136 (Ar.mk a.r.x (Ar.mk a.r.r.x ())))).bind fun told_142 => Res.ok (Sum.inl told_142)) (fun fs139 => ((if true then (Res.ok (!false)) else Res.ok false).bind fun kin_143 => if kin_143 then ((need (shp handed_136 = true ∧ shp a.x = true) (Res.ok (eqD handed_136 a.x))).bind fun v145 => if v145 then ((need (List.length ([] : List Int) ≤ sizeLine) (Res.ok ([] : List Int))).bind fun v144 => need (shp due_137 = true ∧ shp v144 = true) (Res.ok (eqD due_137 v144))) else Res.ok false) else Res.ok false).bind fun d => Res.ok (Sum.inr d))) (fun told_142 => (((need (List.length ([] : List Int) ≤ sizeLine) (Res.ok ([] : List Int))).bind fun v146 => need (shp due_137 = true ∧ shp v146 = true) (Res.ok (eqD due_137 v146))).bind fun v149 => if v149 then Res.ok true else (((m_law_ints (Ar.mk told_142 (Ar.mk due_137 ()))).bind fun v147 => Res.ok (!v147)).bind fun v148 => if v148 then Res.ok true else (need (shp handed_136 = true ∧ shp a.x = true) (Res.ok (!eqD handed_136 a.x))))).bind fun v153 => if v153 then (Res.ok false) else ((need (List.length told_142 < sizeLine) (Res.ok (told_142 ++ [(0 : Int)]))).bind fun told_150 => ((Res.quiet (m_unpack (Ar.mk handed_136 (Ar.mk a.r.x (Ar.mk a.r.r.x ()))))).bind fun v151 => Res.ok (Ar.mk v151 (Ar.mk due_137 ()))).bind fun u152 => m_law_ints u152)))
abbrev s__law_read : Stmt := topS 23
theorem sc__law_read : FnScope ["words", "width", "count", "handed", "due", "told", "e", "kin"] ["words", "width", "count"] (defScope s__law_read) := ⟨rfl, rfl, rfl, by decide +kernel, rfl, by decide +kernel, by decide +kernel⟩
theorem ok__law_read {f : Addr} {fd : FuncData} (Fu : Fun K "_law_read" "_law_read" s__law_read f fd) {C_BadCells C_ColonnadeError C_Unfit : Addr} (D__law_packed : DefAt P w K mg base CX0 2 "_law_packed" ["words", "width", "count"] (spP K mg m_law_packed)) (D_unpack : DefAt P w K mg base (L2N.CX P w) 5 "unpack" ["words", "width", "count"] (spXF K mg m_unpack)) (m_BadCells : mg "BadCells" = some (.ref C_BadCells)) (m_ColonnadeError : mg "ColonnadeError" = some (.ref C_ColonnadeError)) (ec_BadCells : ExcC K C_BadCells) (k_BadCells_ColonnadeError : PySem.W.kitOne K (.ref C_BadCells) (.ref C_ColonnadeError) = some true) (m_Unfit : mg "Unfit" = some (.ref C_Unfit)) (k_BadCells_Unfit : PySem.W.kitOne K (.ref C_BadCells) (.ref C_Unfit) = some false) (ex_BadCells : PySem.W.exmOne K (.ref C_BadCells) (.ref C_BadCells) = some true) (D__law_ints : DefAt P w K mg base CX0 2 "_law_ints" ["told", "due"] (spP K mg m_law_ints)) (z_isinstance : mg "isinstance" = none) (z_list : mg "list" = none) : FnOk P w K mg base CX0 6 f fd ["words", "width", "count"] (spP K mg m_law_read) := by
  refine def_P (τ := (Ar (List Int) (Ar Int (Ar Int Unit)))) (ρ := Bool) Fu sc__law_read (fun a => [vl K mg a.x, vl K mg a.r.x, vl K mg a.r.r.x, none, none, none, none, none]) (fun vs R a h => by
    obtain ⟨v0, w0, e0, h0, v1, w1, e1, h1, v2, w2, e2, h2, e3⟩ := h
    cases e3; cases e2; cases e1; cases e0
    exact ⟨rfl, .cons h0 (.cons h1 (.cons h2 (.cons trivial (.cons trivial (.cons trivial (.cons trivial (.cons trivial (.nil))))))))⟩) (fun cdv A outer s H Av E a hr => ?_)
  refine tT_cast (b_N (s_set 3 sc__law_read.nd (List.nil_sublist _) (f_val (f_list (pe_callTy call_list_of (by rfl) z_list (by decide +kernel) (pa_cons (n_var 0) pa_nil)) rfl))) (fun handed_136 => (b_N (s_set 4 sc__law_read.nd (List.nil_sublist _) (nd_call D__law_packed (hr.mono (by decide)) (a_cons (n_var 0) (a_cons (n_var 1) (a_cons (n_var 2) a_nil))))) (fun due_137 => (b_Mp (s_tryO (Lh := [vl K mg (a.x : (List Int)), vl K mg (a.r.x : Int), vl K mg (a.r.r.x : Int), vl K mg (handed_136 : (List Int)), vl K mg (due_137 : (List Int)), none, none, none]) (L' := (fun (p141 : Addr) (told_142 : (List Int)) => [vl K mg (a.x : (List Int)), vl K mg (a.r.x : Int), vl K mg (a.r.r.x : Int), vl K mg (handed_136 : (List Int)), vl K mg (due_137 : (List Int)), rf p141, none, none])) (O' := (fun (p141 : Addr) (told_142 : (List Int)) => ([ow K mg p141 (told_142 : List Int)] : List Own))) 6 m_BadCells ex_BadCells takes0N sc__law_read.nd noxd_nil (List.nil_sublist _) (fun _ _ => rfl) (fun _ _ _ tk138 => (mp_own (s_own 5 sc__law_read.nd (List.nil_sublist _) (f_callX D_unpack (hr.mono (by decide)) (TkX.to tk138 ⟨.inr rfl, .inr rfl, .inr rfl, .inr rfl, .inr rfl, .inl rfl, .inl rfl, .inl rfl, trivial⟩ (List.Sublist.refl _)) (a_cons (n_var 3) (a_cons (n_var 1) (a_cons (n_var 2) a_nil))))))) (fun ae140 _ _ _ fs139 hz hd => (mp_T (b_N (s_set 7 sc__law_read.nd (List.nil_sublist _) (n_and (b3 := true) (n_isE (b3 := true) (v := true) 6 ec_BadCells hz hd rfl m_ColonnadeError k_BadCells_ColonnadeError z_isinstance) (n_one (n_not (b3 := true) (n_isE (b3 := true) (v := false) 6 ec_BadCells hz hd rfl m_Unfit k_BadCells_Unfit z_isinstance))))) (fun kin_143 => (b_le (rV_le (.add (.refl _))) (b_ret (n_and (b3 := true) (n_var 7) (n_and (b3 := true) (n_eqD (b1 := true) (b2 := true) (b3 := true) (n_var 3) (n_var 0) hr.units) (n_one (n_eqD (b1 := true) (b2 := true) (b3 := true) (n_var 4) (f_val (f_lst (l_nil (α := Int)))) hr.units)))) (List.nil_sublist _)))))))) (fun told_142 p141 => (b_if (PW.pt (w_or (t_eqD (b1 := true) (b2 := true) (n_var 4) (f_val (f_lst (l_nil (α := Int)))) hr.units) (w_or (t_not (t_val (nd_call D__law_ints (hr.mono (by decide)) (a_cons (n_own 5 rfl List.mem_cons_self) (a_cons (weak (n_var 4)) a_nil))))) (w_or1 (t_neD (b1 := true) (b2 := true) (n_var 3) (n_var 0) hr.units))))) (b_ret (n_bl (b := true)) (List.nil_sublist _)) (b_N (s_app 5 rfl (fun _ => List.nil_sublist _) (n_int (b := true)) (fun h1 h2 => pe_bm PySem.F.plainAttrs_list PySem.F.slot_list_append PySem.F.type_list_append mt_append h1 h2)) (fun told_150 => (b_ret (nd_call D__law_ints (hr.mono (by decide)) (a_cons (f_val (f_callXq D_unpack (hr.mono (by decide)) (a_cons (n_var 3) (a_cons (n_var 1) (a_cons (n_var 2) a_nil))))) (a_cons (n_var 4) a_nil))) (List.nil_sublist _)))) (List.nil_sublist _)))))))) ?_
  simp -implicitDefEqProofs only [Res.bind_ok]
  rfl

/-! ### _law_unfit -/
def m_law_unfit (a : (Ar (List Int) (Ar Int Unit))) : Res Bool :=
  (let handed_154 := a.x
  goOn (tryR "Unfit" ((if (decide (a.r.x = (0 : Int))) then (((m_width_of (Ar.mk handed_154 ())).bind fun _ => Res.ok ()).bind fun v166 => Res.ok ()) else (((m_pack (Ar.mk handed_154 (Ar.mk a.r.x ()))).bind fun _ => Res.ok ()).bind fun v167 => Res.ok ())).bind fun b165 => Res.ok (Sum.inl ())) (fun fs156 => (if true then (Res.ok (!false)) else Res.ok false).bind fun kin_168 => (if kin_168 then (((xfR fs156 "chain").bind fun v169 => need (shp v169 = true ∧ shp (PySem.Str.ofString "lanes") = true) (Res.ok (eqD v169 (PySem.Str.ofString "lanes")))).bind fun v170 => if v170 then (need (shp handed_154 = true ∧ shp a.x = true) (Res.ok (eqD handed_154 a.x))) else Res.ok false) else Res.ok false).bind fun d => Res.ok (Sum.inr d))) (fun b171 => Res.ok false))
abbrev s__law_unfit : Stmt := topS 24
theorem sc__law_unfit : FnScope ["row", "width", "handed", "e", "kin"] ["row", "width"] (defScope s__law_unfit) := ⟨rfl, rfl, rfl, by decide +kernel, rfl, by decide +kernel, by decide +kernel⟩
theorem ok__law_unfit {f : Addr} {fd : FuncData} (Fu : Fun K "_law_unfit" "_law_unfit" s__law_unfit f fd) {C_Unfit C_ColonnadeError C_BadCells : Addr} (D_width_of : DefAt P w K mg base (L2N.CX P w) 4 "width_of" ["numbers"] (spX K mg m_width_of)) (D_pack : DefAt P w K mg base (L2N.CX P w) 4 "pack" ["numbers", "width"] (spXF K mg m_pack)) (m_Unfit : mg "Unfit" = some (.ref C_Unfit)) (m_ColonnadeError : mg "ColonnadeError" = some (.ref C_ColonnadeError)) (ec_Unfit : ExcC K C_Unfit) (k_Unfit_ColonnadeError : PySem.W.kitOne K (.ref C_Unfit) (.ref C_ColonnadeError) = some true) (m_BadCells : mg "BadCells" = some (.ref C_BadCells)) (k_Unfit_BadCells : PySem.W.kitOne K (.ref C_Unfit) (.ref C_BadCells) = some false) (xf_Unfit : XfC K C_Unfit) (nf_Unfit_chain : PySem.W.findIn K (.ref C_Unfit) "chain" = some none) (ex_Unfit : PySem.W.exmOne K (.ref C_Unfit) (.ref C_Unfit) = some true) (z_isinstance : mg "isinstance" = none) (z_list : mg "list" = none) : FnOk P w K mg base CX0 5 f fd ["row", "width"] (spP K mg m_law_unfit) := by
  refine def_P (τ := (Ar (List Int) (Ar Int Unit))) (ρ := Bool) Fu sc__law_unfit (fun a => [vl K mg a.x, vl K mg a.r.x, none, none, none]) (fun vs R a h => by
    obtain ⟨v0, w0, e0, h0, v1, w1, e1, h1, e2⟩ := h
    cases e2; cases e1; cases e0
    exact ⟨rfl, .cons h0 (.cons h1 (.cons trivial (.cons trivial (.cons trivial (.nil)))))⟩) (fun cdv A outer s H Av E a hr => ?_)
  refine tT_cast (b_N (s_set 2 sc__law_unfit.nd (List.nil_sublist _) (f_val (f_list (pe_callTy call_list_of (by rfl) z_list (by decide +kernel) (pa_cons (n_var 0) pa_nil)) rfl))) (fun handed_154 => (b_M (s_try (Lh := [vl K mg (a.x : (List Int)), vl K mg (a.r.x : Int), vl K mg (handed_154 : (List Int)), none, none]) (L' := (fun b : Unit => [vl K mg (a.x : (List Int)), vl K mg (a.r.x : Int), vl K mg (handed_154 : (List Int)), none, none])) (O' := (fun b : Unit => ([] : List Own))) 3 m_Unfit ex_Unfit takes0N sc__law_unfit.nd noxd_nil (List.nil_sublist _) (fun _ => rfl) (fun _ _ _ tk155 => (m_N (s_ifS (Sp2.mk : Sp2 (fun b : Unit => [vl K mg (a.x : (List Int)), vl K mg (a.r.x : Int), vl K mg (handed_154 : (List Int)), none, none]) (fun b : Unit => ([] : List Own))) (t_eq (n_var 1) (n_int (b := true))) (n_N (s_expr (n_callX D_width_of (hr.mono (by decide)) (TkX.to tk155 ⟨.inr rfl, .inr rfl, .inr rfl, .inl rfl, .inl rfl, trivial⟩ (List.Sublist.refl _)) (a_cons (n_var 2) a_nil)) (List.nil_sublist _)) (fun v166 => (n_end () ⟨.inr rfl, .inr rfl, .inr rfl, .inl rfl, .inl rfl, trivial⟩ (List.nil_sublist _)))) (n_N (s_expr (f_val (f_callX D_pack (hr.mono (by decide)) (TkX.to tk155 ⟨.inr rfl, .inr rfl, .inr rfl, .inl rfl, .inl rfl, trivial⟩ (List.Sublist.refl _)) (a_cons (n_var 2) (a_cons (n_var 1) a_nil)))) (List.nil_sublist _)) (fun v167 => (n_end () ⟨.inr rfl, .inr rfl, .inr rfl, .inl rfl, .inl rfl, trivial⟩ (List.nil_sublist _)))) (List.nil_sublist _)) (fun b165 => (m_end () ⟨.inr rfl, .inr rfl, .inr rfl, .inl rfl, .inl rfl, trivial⟩ (List.nil_sublist _))))) (fun ae157 _ _ _ fs156 hz hd => (m_N (s_set 4 sc__law_unfit.nd (List.nil_sublist _) (n_and (b3 := true) (n_isE (b3 := true) (v := true) 3 ec_Unfit hz hd rfl m_ColonnadeError k_Unfit_ColonnadeError z_isinstance) (n_one (n_not (b3 := true) (n_isE (b3 := true) (v := false) 3 ec_Unfit hz hd rfl m_BadCells k_Unfit_BadCells z_isinstance))))) (fun kin_168 => (m_T (b_le (rV_le (.add (.refl _))) (b_ret (n_and (b3 := true) (n_var 4) (n_and (b3 := true) (n_eqD (b1 := true) (b2 := true) (b3 := true) (n_xf (b3 := true) 3 xf_Unfit nf_Unfit_chain hz hd rfl) (n_str (b := true)) hr.units) (n_one (n_eqD (b1 := true) (b2 := true) (b3 := true) (n_var 2) (n_var 0) hr.units)))) (List.nil_sublist _)))))))) (fun b171 => (b_ret (n_bl (b := true)) (List.nil_sublist _)))))) ?_
  simp -implicitDefEqProofs only [Res.bind_ok]
  rfl

/-! ### _law_near -/
def m_law_near (xs0 : List Int) (a : (Ar (List Int) Unit)) : Res ((List Int) × List Int) :=
  (m_law_draw xs0 (Ar.mk (6 : Int) ())).bind fun kind_172 => (m_law_draw kind_172.2 (Ar.mk (List.length a.x : Int) ())).bind fun at_173 => (if (decide (kind_172.1 = (0 : Int))) then Res.ok true else (Res.ok (decide (kind_172.1 = (1 : Int))))).bind fun v227 => if v227 then ((((idx a.x at_173.1).bind fun v177 => Res.ok (v177, at_173.2)).bind fun u182 => ((m_law_draw u182.2 (Ar.mk (60 : Int) ())).bind fun u180 => (need (CPow (1 : Int) u180.1) (Res.ok ((1 : Int) * 2 ^ (u180.1).toNat))).bind fun v181 => Res.ok (v181, u180.2)).bind fun u183 => Res.ok ((Builtin.bitXor u182.1 u183.1), u183.2)).bind fun turned_184 => (((need (List.length (turned_184.1 :: []) ≤ sizeLine) (Res.ok (turned_184.1 :: []))).bind fun v185 => need (List.length (cut a.x none (some at_173.1)) + List.length v185 ≤ sizeLine) (Res.ok ((cut a.x none (some at_173.1)) ++ v185))).bind fun v186 => need (List.length v186 + List.length (cut a.x (some (at_173.1 + (1 : Int))) none) ≤ sizeLine) (Res.ok (v186 ++ (cut a.x (some (at_173.1 + (1 : Int))) none)))).bind fun v187 => Res.ok (v187, turned_184.2)) else (if (decide (kind_172.1 = (5 : Int))) then ((((m_law_draw at_173.2 (Ar.mk (70 : Int) ())).bind fun u192 => Res.ok (((60 : Int) + u192.1), u192.2)).bind fun u193 => (need (CPow (1 : Int) u193.1) (Res.ok ((1 : Int) * 2 ^ (u193.1).toNat))).bind fun v194 => Res.ok (v194, u193.2)).bind fun far_195 => (idx a.x at_173.1).bind fun word_196 => (((need (List.length ((word_196 + far_195.1) :: ((word_196 - far_195.1) :: (((-(1 : Int)) - word_196) :: []))) ≤ sizeLine) (Res.ok ((word_196 + far_195.1) :: ((word_196 - far_195.1) :: (((-(1 : Int)) - word_196) :: []))))).bind fun v197 => Res.ok (v197, far_195.2)).bind fun u199 => (m_law_draw u199.2 (Ar.mk (3 : Int) ())).bind fun u200 => (idx u199.1 u200.1).bind fun v201 => Res.ok (v201, u200.2)).bind fun turned_202 => (((need (List.length (turned_202.1 :: []) ≤ sizeLine) (Res.ok (turned_202.1 :: []))).bind fun v203 => need (List.length (cut a.x none (some at_173.1)) + List.length v203 ≤ sizeLine) (Res.ok ((cut a.x none (some at_173.1)) ++ v203))).bind fun v204 => need (List.length v204 + List.length (cut a.x (some (at_173.1 + (1 : Int))) none) ≤ sizeLine) (Res.ok (v204 ++ (cut a.x (some (at_173.1 + (1 : Int))) none)))).bind fun v205 => Res.ok (v205, turned_202.2)) else (if (decide (kind_172.1 = (2 : Int))) then (((((((idx a.x at_173.1).bind fun v209 => Res.ok (v209 :: [])).bind fun v210 => Res.ok ((0 : Int) :: v210)).bind fun v211 => need (List.length v211 ≤ sizeLine) (Res.ok v211)).bind fun v212 => Res.ok (v212, at_173.2)).bind fun u214 => (m_law_draw u214.2 (Ar.mk (2 : Int) ())).bind fun u215 => (idx u214.1 u215.1).bind fun v216 => Res.ok (v216, u215.2)).bind fun more_217 => ((m_law_draw more_217.2 (Ar.mk (2 : Int) ())).bind fun u219 => Res.ok ((at_173.1 + u219.1), u219.2)).bind fun at_220 => (((need (List.length (more_217.1 :: []) ≤ sizeLine) (Res.ok (more_217.1 :: []))).bind fun v221 => need (List.length (cut a.x none (some at_220.1)) + List.length v221 ≤ sizeLine) (Res.ok ((cut a.x none (some at_220.1)) ++ v221))).bind fun v222 => need (List.length v222 + List.length (cut a.x (some at_220.1) none) ≤ sizeLine) (Res.ok (v222 ++ (cut a.x (some at_220.1) none)))).bind fun v223 => Res.ok (v223, at_220.2)) else ((if (decide (kind_172.1 = (3 : Int))) then (Res.ok (decide ((1 : Int) < (List.length a.x : Int)))) else Res.ok false).bind fun v226 => if v226 then ((need (List.length (cut a.x none (some at_173.1)) + List.length (cut a.x (some (at_173.1 + (1 : Int))) none) ≤ sizeLine) (Res.ok ((cut a.x none (some at_173.1)) ++ (cut a.x (some (at_173.1 + (1 : Int))) none)))).bind fun v224 => Res.ok (v224, at_173.2)) else ((need (List.length (cut a.x (some at_173.1) none) + List.length (cut a.x none (some at_173.1)) ≤ sizeLine) (Res.ok ((cut a.x (some at_173.1) none) ++ (cut a.x none (some at_173.1))))).bind fun v225 => Res.ok (v225, at_173.2)))))
abbrev s__law_near : Stmt := topS 25
theorem sc__law_near : FnScope ["pool", "words", "kind", "at", "turned", "far", "word", "more"] ["pool", "words"] (defScope s__law_near) := ⟨rfl, rfl, rfl, by decide +kernel, rfl, by decide +kernel, by decide +kernel⟩
theorem ok__law_near {f : Addr} {fd : FuncData} (Fu : Fun K "_law_near" "_law_near" s__law_near f fd) (D__law_draw : DefAt P w K mg base CX0 1 "_law_draw" ["pool", "many"] (spI K mg m_law_draw)) (z_len : mg "len" = none) : FnOk P w K mg base CX0 2 f fd ["pool", "words"] (spI K mg m_law_near) := by
  refine def_I (τ := (Ar (List Int) Unit)) (ρ := (List Int)) (ι := Int) Fu sc__law_near (fun p a => [rf p, vl K mg a.x, none, none, none, none, none, none]) (fun vs R p a h => by
    obtain ⟨v0, w0, e0, h0, e1⟩ := h
    cases e1; cases e0
    exact ⟨rfl, .cons rfl (.cons h0 (.cons trivial (.cons trivial (.cons trivial (.cons trivial (.cons trivial (.cons trivial (.nil))))))))⟩) (fun cdv A outer s H Av E p0 xs0 a hr => ?_)
  refine tT_cast (b_N (s_setE 2 sc__law_near.nd (e_call 0 D__law_draw (hr.mono (by decide)) rfl (ea_p (List.nil_sublist _) (a_cons (n_int (b := true)) a_nil)))) (fun kind_172 => (b_N (s_setE 3 sc__law_near.nd (e_call 0 D__law_draw (hr.mono (by decide)) rfl (ea_p (List.nil_sublist _) (a_cons (n_len (b3 := true) (pe_callB call_len_seq (by rfl) z_len (by decide +kernel) (pa_cons (n_var 1) pa_nil)) rfl) a_nil)))) (fun at_173 => (b_if (PW.pt (w_or (t_eq (n_var 2) (n_int (b := true))) (w_or1 (t_eq (n_var 2) (n_int (b := true)))))) (b_N (s_setE 4 sc__law_near.nd (e_bxor (b3 := true) (e_p (List.nil_sublist _) (n_idx (n_var 1) (n_var 3))) (fun xs178 => (e_shl (b3 := true) (e_p (List.nil_sublist _) (n_int (b := true))) (fun xs179 => (e_call 0 D__law_draw (hr.mono (by decide)) rfl (ea_p (List.nil_sublist _) (a_cons (n_int (b := true)) a_nil)))) (fun _ => List.nil_sublist _))) (fun _ => List.nil_sublist _))) (fun turned_184 => (b_retI (f_val (f_cat (f_val (f_cat (f_val (f_slice (n_var 1) o_none (o_some (n_var 3)))) (f_val (f_lst (l_cons (n_var 4) (l_nil (α := Int))))))) (f_val (f_slice (n_var 1) (o_some (n_add (b3 := true) (n_var 3) (n_int (b := true)))) o_none)))) (List.Sublist.cons₂ _ (List.nil_sublist _)) (List.nil_sublist _)))) (b_if (t_eq (n_var 2) (n_int (b := true))) (b_N (s_setE 5 sc__law_near.nd (e_shl (b3 := true) (e_p (List.nil_sublist _) (n_int (b := true))) (fun xs190 => (e_add (b3 := true) (e_p (List.nil_sublist _) (n_int (b := true))) (fun xs191 => (e_call 0 D__law_draw (hr.mono (by decide)) rfl (ea_p (List.nil_sublist _) (a_cons (n_int (b := true)) a_nil)))) (fun _ => List.nil_sublist _))) (fun _ => List.nil_sublist _))) (fun far_195 => (b_N (s_set 6 sc__law_near.nd (List.nil_sublist _) (n_idx (n_var 1) (n_var 3))) (fun word_196 => (b_N (s_setE 4 sc__law_near.nd (e_idx (e_p (List.nil_sublist _) (f_val (f_lst (l_cons (n_add (b3 := true) (n_var 6) (n_var 5)) (l_cons (n_sub (b3 := true) (n_var 6) (n_var 5)) (l_cons (n_sub (b3 := true) (n_neg (b3 := true) (n_int (b := true))) (n_var 6)) (l_nil (α := Int)))))))) (fun xs198 => (e_call 0 D__law_draw (hr.mono (by decide)) rfl (ea_p (List.nil_sublist _) (a_cons (n_int (b := true)) a_nil)))) (fun _ => List.nil_sublist _))) (fun turned_202 => (b_retI (f_val (f_cat (f_val (f_cat (f_val (f_slice (n_var 1) o_none (o_some (n_var 3)))) (f_val (f_lst (l_cons (n_var 4) (l_nil (α := Int))))))) (f_val (f_slice (n_var 1) (o_some (n_add (b3 := true) (n_var 3) (n_int (b := true)))) o_none)))) (List.Sublist.cons₂ _ (List.nil_sublist _)) (List.nil_sublist _)))))))) (b_if (t_eq (n_var 2) (n_int (b := true))) (b_N (s_setE 7 sc__law_near.nd (e_idx (e_p (List.nil_sublist _) (f_val (f_lst (l_cons (n_int (b := true)) (l_cons (n_idx (n_var 1) (n_var 3)) (l_nil (α := Int))))))) (fun xs213 => (e_call 0 D__law_draw (hr.mono (by decide)) rfl (ea_p (List.nil_sublist _) (a_cons (n_int (b := true)) a_nil)))) (fun _ => List.nil_sublist _))) (fun more_217 => (b_N (s_setE 3 sc__law_near.nd (e_add (b3 := true) (e_p (List.nil_sublist _) (n_var 3)) (fun xs218 => (e_call 0 D__law_draw (hr.mono (by decide)) rfl (ea_p (List.nil_sublist _) (a_cons (n_int (b := true)) a_nil)))) (fun _ => List.nil_sublist _))) (fun at_220 => (b_retI (f_val (f_cat (f_val (f_cat (f_val (f_slice (n_var 1) o_none (o_some (n_var 3)))) (f_val (f_lst (l_cons (n_var 7) (l_nil (α := Int))))))) (f_val (f_slice (n_var 1) (o_some (n_var 3)) o_none)))) (List.Sublist.cons₂ _ (List.nil_sublist _)) (List.nil_sublist _)))))) (b_if (PW.pt (w_and (t_eq (n_var 2) (n_int (b := true))) (w_and1 (t_gt (n_len (b3 := true) (pe_callB call_len_seq (by rfl) z_len (by decide +kernel) (pa_cons (n_var 1) pa_nil)) rfl) (n_int (b := true)))))) (b_retI (f_val (f_cat (f_val (f_slice (n_var 1) o_none (o_some (n_var 3)))) (f_val (f_slice (n_var 1) (o_some (n_add (b3 := true) (n_var 3) (n_int (b := true)))) o_none)))) (List.Sublist.cons₂ _ (List.nil_sublist _)) (List.nil_sublist _)) (b_retI (f_val (f_cat (f_val (f_slice (n_var 1) (o_some (n_var 3)) o_none)) (f_val (f_slice (n_var 1) o_none (o_some (n_var 3)))))) (List.Sublist.cons₂ _ (List.nil_sublist _)) (List.nil_sublist _)) (List.nil_sublist _)) (List.nil_sublist _)) (List.nil_sublist _)) (List.nil_sublist _)))))) ?_
  simp -implicitDefEqProofs only [Res.bind_ok]
  rfl

/-! ### _law_nothing -/
def m_law_nothing (a : (Ar Int Unit)) : Res Bool :=
  ((((((need (List.length ([] : List Int) ≤ sizeLine) (Res.ok ([] : List Int))).bind fun v228 => Res.ok (Ar.mk v228 (Ar.mk a.x ()))).bind fun u229 => Res.quiet (m_pack u229)).bind fun v231 => ((need (List.length ([] : List Int) ≤ sizeLine) (Res.ok ([] : List Int))).bind fun v230 => Res.ok (Ar.mk v230 ())).bind fun r232 => Res.ok (Ar.mk v231 r232)).bind fun u233 => m_law_ints u233).bind fun v234 => Res.ok (!v234)).bind fun v260 => if v260 then (Res.ok false) else (((((((need (List.length ([] : List Int) ≤ sizeLine) (Res.ok ([] : List Int))).bind fun v235 => Res.ok (Ar.mk v235 (Ar.mk a.x (Ar.mk (0 : Int) ())))).bind fun u236 => Res.quiet (m_unpack u236)).bind fun v238 => ((need (List.length ([] : List Int) ≤ sizeLine) (Res.ok ([] : List Int))).bind fun v237 => Res.ok (Ar.mk v237 ())).bind fun r239 => Res.ok (Ar.mk v238 r239)).bind fun u240 => m_law_ints u240).bind fun v241 => Res.ok (!v241)).bind fun v259 => if v259 then (Res.ok false) else (goOn ((((((need (List.length ((0 : Int) :: []) ≤ sizeLine) (Res.ok ((0 : Int) :: []))).bind fun v242 => Res.ok (v242, (0 : Int))).bind fun v248 => (((need (List.length ([] : List Int) ≤ sizeLine) (Res.ok ([] : List Int))).bind fun v243 => Res.ok (v243, (1 : Int))).bind fun v246 => (((need (List.length ((0 : Int) :: ((0 : Int) :: [])) ≤ sizeLine) (Res.ok ((0 : Int) :: ((0 : Int) :: [])))).bind fun v244 => Res.ok (v244, (1 : Int))).bind fun v245 => Res.ok (v245 :: [])).bind fun v247 => Res.ok (v246 :: v247)).bind fun v249 => Res.ok (v248 :: v249)).bind fun v250 => need (List.length v250 ≤ sizeLine) (Res.ok v250)).bind fun v251 => Res.ok v251).bind fun v258 => foldM (fun (a252 : ((List Int) × Int)) (b253 : Unit) => ((m_law_read (Ar.mk a252.1 (Ar.mk a.x (Ar.mk a252.2 ())))).bind fun v256 => Res.ok (!v256)).bind fun v257 => if v257 then ((Res.ok false).bind fun d => Res.ok (Sum.inr d)) else (Res.ok (Sum.inl ()))) v258 ()) (fun b255 => Res.ok true)))
abbrev s__law_nothing : Stmt := topS 26
theorem sc__law_nothing : FnScope ["width", "words", "count"] ["width"] (defScope s__law_nothing) := ⟨rfl, rfl, rfl, by decide +kernel, rfl, by decide +kernel, by decide +kernel⟩
theorem ok__law_nothing {f : Addr} {fd : FuncData} (Fu : Fun K "_law_nothing" "_law_nothing" s__law_nothing f fd) (D_pack : DefAt P w K mg base (L2N.CX P w) 4 "pack" ["numbers", "width"] (spXF K mg m_pack)) (D__law_ints : DefAt P w K mg base CX0 2 "_law_ints" ["told", "due"] (spP K mg m_law_ints)) (D_unpack : DefAt P w K mg base (L2N.CX P w) 5 "unpack" ["words", "width", "count"] (spXF K mg m_unpack)) (D__law_read : DefAt P w K mg base CX0 6 "_law_read" ["words", "width", "count"] (spP K mg m_law_read)) : FnOk P w K mg base CX0 7 f fd ["width"] (spP K mg m_law_nothing) := by
  refine def_P (τ := (Ar Int Unit)) (ρ := Bool) Fu sc__law_nothing (fun a => [vl K mg a.x, none, none]) (fun vs R a h => by
    obtain ⟨v0, w0, e0, h0, e1⟩ := h
    cases e1; cases e0
    exact ⟨rfl, .cons h0 (.cons trivial (.cons trivial (.nil)))⟩) (fun cdv A outer s H Av E a hr => ?_)
  refine tT_cast (b_if (t_not (t_val (nd_call D__law_ints (hr.mono (by decide)) (a_cons (f_val (f_callXq D_pack (hr.mono (by decide)) (a_cons (f_val (f_lst (l_nil (α := Int)))) (a_cons (n_var 0) a_nil)))) (a_cons (f_val (f_lst (l_nil (α := Int)))) a_nil))))) (b_ret (n_bl (b := true)) (List.nil_sublist _)) (b_if (t_not (t_val (nd_call D__law_ints (hr.mono (by decide)) (a_cons (f_val (f_callXq D_unpack (hr.mono (by decide)) (a_cons (f_val (f_lst (l_nil (α := Int)))) (a_cons (n_var 0) (a_cons (n_int (b := true)) a_nil))))) (a_cons (f_val (f_lst (l_nil (α := Int)))) a_nil))))) (b_ret (n_bl (b := true)) (List.nil_sublist _)) (b_M (s_forM (Sp3.mk : Sp3 (fun b : Unit => [vl K mg (a.x : Int), none, none]) (fun b : Unit => ([] : List Own)) ()) PassesOwn.never rfl (i_lk (f_val (f_lst (l_cons (n_tup2 (f_val (f_lst (l_cons (n_int (b := true)) (l_nil (α := Int))))) (n_int (b := true))) (l_cons (n_tup2 (f_val (f_lst (l_nil (α := Int)))) (n_int (b := true))) (l_cons (n_tup2 (f_val (f_lst (l_cons (n_int (b := true)) (l_cons (n_int (b := true)) (l_nil (α := Int)))))) (n_int (b := true))) (l_nil (α := ((List Int) × Int))))))))) (tg_pair 1 2 (by decide) rfl sc__law_nothing.nd) (List.nil_sublist _) ⟨.inr rfl, .inl rfl, .inl rfl, trivial⟩ (List.Sublist.refl _) (fun z254 a252 b253 => (m_if (t_not (t_val (nd_call D__law_read (hr.mono (by decide)) (a_cons (n_var 1) (a_cons (n_var 0) (a_cons (n_var 2) a_nil)))))) (b_le (rV_le (.add (.refl _))) (b_ret (n_bl (b := true)) (List.nil_sublist _))) (m_end () ⟨.inr rfl, .inl rfl, .inl rfl, trivial⟩ (List.nil_sublist _)) (List.nil_sublist _)))) (fun b255 => (b_ret (n_bl (b := true)) (List.nil_sublist _)))) (List.nil_sublist _)) (List.nil_sublist _)) ?_
  simp -implicitDefEqProofs only [Res.bind_ok]
  rfl

/-! ### _law_below -/
def m_law_below (a : (Ar Int (Ar Int (Ar Int Unit)))) : Res Bool :=
  (m_lanes_below (Ar.mk a.x (Ar.mk a.r.x (Ar.mk a.r.r.x ())))).bind fun told_261 => (((m_law_lanes (Ar.mk a.x (Ar.mk a.r.x ()))).bind fun v262 => Res.ok v262).bind fun v266 => need (List.length v266 ≤ sizeLine) (filtR (fun (a263 : Int) => Res.quiet (Res.ok true)) (fun (a263 : Int) => Res.quiet (Res.ok (decide (a263 < a.r.r.x)))) v266)).bind fun due_267 => (((isT "tuple" (Ty.tyN told_261)).bind fun v268 => Res.ok (!v268)).bind fun v269 => if v269 then Res.ok true else (need (shp (Lk.its told_261) = true ∧ shp due_267 = true) (Res.ok (!eqD (Lk.its told_261) due_267)))).bind fun v274 => if v274 then (Res.ok false) else ((need (List.length (Lk.its told_261) ≤ sizeLine) (filtR (fun (a270 : Bool) => Res.quiet (Res.ok true)) (fun (a270 : Bool) => Res.quiet (isT "bool" (Ty.tyN a270))) (Lk.its told_261))).bind fun v273 => Res.ok (List.all v273 id))
abbrev s__law_below : Stmt := topS 27
theorem sc__law_below : FnScope ["word", "width", "bound", "told", "due", "lane", "one"] ["word", "width", "bound"] (defScope s__law_below) := ⟨rfl, rfl, rfl, by decide +kernel, rfl, by decide +kernel, by decide +kernel⟩
theorem ok__law_below {f : Addr} {fd : FuncData} (Fu : Fun K "_law_below" "_law_below" s__law_below f fd) (D_lanes_below : DefAt P w K mg base CX0 3 "lanes_below" ["word", "width", "bound"] (spP K mg m_lanes_below)) (D__law_lanes : DefAt P w K mg base CX0 1 "_law_lanes" ["word", "width"] (spF K mg m_law_lanes)) (z_all : mg "all" = none) (z_bool : mg "bool" = none) (z_isinstance : mg "isinstance" = none) (z_list : mg "list" = none) (z_tuple : mg "tuple" = none) : FnOk P w K mg base CX0 4 f fd ["word", "width", "bound"] (spP K mg m_law_below) := by
  refine def_P (τ := (Ar Int (Ar Int (Ar Int Unit)))) (ρ := Bool) Fu sc__law_below (fun a => [vl K mg a.x, vl K mg a.r.x, vl K mg a.r.r.x, none, none, none, none]) (fun vs R a h => by
    obtain ⟨v0, w0, e0, h0, v1, w1, e1, h1, v2, w2, e2, h2, e3⟩ := h
    cases e3; cases e2; cases e1; cases e0
    exact ⟨rfl, .cons h0 (.cons h1 (.cons h2 (.cons trivial (.cons trivial (.cons trivial (.cons trivial (.nil)))))))⟩) (fun cdv A outer s H Av E a hr => ?_)
  refine tT_cast (b_N (s_set 3 sc__law_below.nd (List.nil_sublist _) (nd_call D_lanes_below (hr.mono (by decide)) (a_cons (n_var 0) (a_cons (n_var 1) (a_cons (n_var 2) a_nil))))) (fun told_261 => (b_N (s_setLc 4 (own := [("lane", 5)]) rfl sc__law_below.nd (List.nil_sublist _) (i_lk (f_val (fd_call D__law_lanes (hr.mono (by decide)) (a_cons (n_var 0) (a_cons (n_var 1) a_nil))))) (.inl rfl) (blkOk_by (N := ["word", "width", "bound", "told", "due", "lane", "one"]) (sc := defScope s__law_below) (by decide +kernel)) (tgok_name 5) (fun _ _ _ _ _ => (tg_name 5 sc__law_below.nd)) (fun _ _ _ _ _ a263 D264 ds265 => ts_nil) (fun _ _ _ _ _ a263 D264 ds265 => (n_lt (b3 := true) (n_var 5) (n_var 2)))) (fun due_267 => (b_if (PW.pt (w_or (t_not (t_val (n_isi (b3 := true) (n := "tuple") (n_var 3) (by decide +kernel) z_tuple z_isinstance rfl rfl rfl rfl (by decide) (by decide) rfl rfl (fun h1 h2 => pe_callB h1 (by rfl) z_isinstance (by decide +kernel) h2)))) (w_or1 (t_neD (b1 := true) (b2 := true) (f_val (f_list (pe_callTy call_list_of (by rfl) z_list (by decide +kernel) (pa_cons (n_var 3) pa_nil)) rfl)) (n_var 4) hr.units)))) (b_ret (n_bl (b := true)) (List.nil_sublist _)) (b_ret (n_all (b3 := true) (pe_callB (cr_all rfl) (by rfl) z_all (by decide +kernel) (pa_cons (f_val (f_lcf (own := [("one", 6)]) rfl sc__law_below.nd (i_lk (n_var 3)) (.inl rfl) (blkOk_by (N := ["word", "width", "bound", "told", "due", "lane", "one"]) (sc := defScope s__law_below) (by decide +kernel)) (tgok_name 6) (fun _ _ _ _ _ => (tg_name 6 sc__law_below.nd)) (fun _ _ _ _ _ a270 D271 ds272 => ts_nil) (fun _ _ _ _ _ a270 D271 ds272 => (n_isi (b3 := true) (n := "bool") (n_var 6) (by decide +kernel) z_bool z_isinstance rfl rfl rfl rfl (by decide) (by decide) rfl rfl (fun h1 h2 => pe_callB h1 (by rfl) z_isinstance (by decide +kernel) h2))))) pa_nil)) rfl) (List.nil_sublist _)) (List.nil_sublist _)))))) ?_
  simp -implicitDefEqProofs only [Res.bind_ok]
  rfl

/-! ### _law_widths -/
def m_law_widths (a : (Ar (List Int) (Ar Int Unit))) : Res Bool :=
  (let least_275 := (1 : Int)
  ((need (Rg62 (1 : Int) ∧ Rg62 (30 : Int)) (Res.ok (irange (1 : Int) (30 : Int)))).bind fun v286 => foldR (fun (a276 : Int) (b277 : (Int)) => (((maxR a.x).bind fun v280 => (need (CPow (1 : Int) a276) (Res.ok ((1 : Int) * 2 ^ (a276).toNat))).bind fun v281 => Res.ok (decide (v281 ≤ v280))).bind fun v285 => if v285 then ((let least_284 := (a276 + (1 : Int))
  Res.ok least_284)) else (Res.ok b277)).bind fun b283 => Res.ok b283) v286 least_275).bind fun b279 => (let handed_287 := a.x
  ((((((Res.quiet (m_width_of (Ar.mk handed_287 ()))).bind fun v288 => Res.ok (toD v288)).bind fun v289 => Res.ok (Ar.mk v289 (Ar.mk b279 ()))).bind fun u290 => m_law_int u290).bind fun v291 => Res.ok (!v291)).bind fun v292 => if v292 then Res.ok true else (need (shp handed_287 = true ∧ shp a.x = true) (Res.ok (!eqD handed_287 a.x)))).bind fun v304 => if v304 then (Res.ok false) else (((((((need (List.length ([] : List Int) ≤ sizeLine) (Res.ok ([] : List Int))).bind fun v293 => Res.ok (Ar.mk v293 ())).bind fun u294 => Res.quiet (m_width_of u294)).bind fun v295 => Res.ok (toD v295)).bind fun v296 => Res.ok (Ar.mk v296 (Ar.mk (1 : Int) ()))).bind fun u297 => m_law_int u297).bind fun v303 => if v303 then ((((m_lane_count (Ar.mk a.r.x ())).bind fun v298 => Res.ok (toD v298)).bind fun v300 => ((need (CDiv (60 : Int) (a.r.x + (1 : Int))) (Res.ok ((60 : Int) / (a.r.x + (1 : Int))))).bind fun v299 => Res.ok (Ar.mk v299 ())).bind fun r301 => Res.ok (Ar.mk v300 r301)).bind fun u302 => m_law_int u302) else Res.ok false)))
abbrev s__law_widths : Stmt := topS 28
theorem sc__law_widths : FnScope ["row", "width", "least", "k", "handed"] ["row", "width"] (defScope s__law_widths) := ⟨rfl, rfl, rfl, by decide +kernel, rfl, by decide +kernel, by decide +kernel⟩
theorem ok__law_widths {f : Addr} {fd : FuncData} (Fu : Fun K "_law_widths" "_law_widths" s__law_widths f fd) (D_width_of : DefAt P w K mg base (L2N.CX P w) 4 "width_of" ["numbers"] (spX K mg m_width_of)) (D__law_int : DefAt P w K mg base CX0 1 "_law_int" ["told", "due"] (spP K mg m_law_int)) (D_lane_count : DefAt P w K mg base CX0 1 "lane_count" ["width"] (spP K mg m_lane_count)) (z_list : mg "list" = none) (z_max : mg "max" = none) (z_range : mg "range" = none) : FnOk P w K mg base CX0 5 f fd ["row", "width"] (spP K mg m_law_widths) := by
  refine def_P (τ := (Ar (List Int) (Ar Int Unit))) (ρ := Bool) Fu sc__law_widths (fun a => [vl K mg a.x, vl K mg a.r.x, none, none, none]) (fun vs R a h => by
    obtain ⟨v0, w0, e0, h0, v1, w1, e1, h1, e2⟩ := h
    cases e2; cases e1; cases e0
    exact ⟨rfl, .cons h0 (.cons h1 (.cons trivial (.cons trivial (.cons trivial (.nil)))))⟩) (fun cdv A outer s H Av E a hr => ?_)
  refine tT_cast (b_N (s_set 2 sc__law_widths.nd (List.nil_sublist _) (n_int (b := true))) (fun least_275 => (b_N (s_for (Sp3.mk : Sp3 (fun b : (Int) => [vl K mg (a.x : (List Int)), vl K mg (a.r.x : Int), vl K mg (b : Int), none, none]) (fun b : (Int) => ([] : List Own)) least_275) PassesOwn.never rfl (i_range2 (b' := true) (n_int (b := true)) (n_int (b := true)) z_range) (tg_name 3 sc__law_widths.nd) (List.nil_sublist _) ⟨.inr rfl, .inr rfl, .inr rfl, .inl rfl, .inl rfl, trivial⟩ (List.Sublist.refl _) (fun z278 a276 b277 => (n_N (s_ifS (Sp2.mk : Sp2 (fun b : (Int) => [vl K mg (a.x : (List Int)), vl K mg (a.r.x : Int), vl K mg (b : Int), vl K mg (a276 : Int), none]) (fun b : (Int) => ([] : List Own))) (t_ge (n_max (b3 := true) (pe_callB (cr_max rfl) (by rfl) z_max (by decide +kernel) (pa_cons (n_var 0) pa_nil)) rfl) (n_shl (b3 := true) (n_int (b := true)) (n_var 3))) (n_N (s_set 2 sc__law_widths.nd (List.nil_sublist _) (n_add (b3 := true) (n_var 3) (n_int (b := true)))) (fun least_284 => (n_end least_284 ⟨.inr rfl, .inr rfl, .inr rfl, .inr rfl, .inl rfl, trivial⟩ (List.nil_sublist _)))) (n_end b277 ⟨.inr rfl, .inr rfl, .inr rfl, .inr rfl, .inl rfl, trivial⟩ (List.nil_sublist _)) (List.nil_sublist _)) (fun b283 => (n_end b283 ⟨.inr rfl, .inr rfl, .inr rfl, .inl rfl, .inl rfl, trivial⟩ (List.nil_sublist _)))))) (fun b279 => (b_N (s_set 4 sc__law_widths.nd (List.nil_sublist _) (f_val (f_list (pe_callTy call_list_of (by rfl) z_list (by decide +kernel) (pa_cons (n_var 0) pa_nil)) rfl))) (fun handed_287 => (b_if (PW.pt (w_or (t_not (t_val (nd_call D__law_int (hr.mono (by decide)) (a_cons (n_toD (n_callXq D_width_of (hr.mono (by decide)) (a_cons (n_var 4) a_nil))) (a_cons (n_var 2) a_nil))))) (w_or1 (t_neD (b1 := true) (b2 := true) (n_var 4) (n_var 0) hr.units)))) (b_ret (n_bl (b := true)) (List.nil_sublist _)) (b_ret (n_and (b3 := true) (nd_call D__law_int (hr.mono (by decide)) (a_cons (n_toD (n_callXq D_width_of (hr.mono (by decide)) (a_cons (f_val (f_lst (l_nil (α := Int)))) a_nil))) (a_cons (n_int (b := true)) a_nil))) (n_one (nd_call D__law_int (hr.mono (by decide)) (a_cons (n_toD (nd_call D_lane_count (hr.mono (by decide)) (a_cons (n_var 1) a_nil))) (a_cons (n_fdiv (b3 := true) (n_int (b := true)) (n_add (b3 := true) (n_var 1) (n_int (b := true)))) a_nil))))) (List.nil_sublist _)) (List.nil_sublist _)))))))) ?_
  simp -implicitDefEqProofs only [Res.bind_ok]
  rfl

/-! ### _law_drawn -/
def m_law_drawn (xs0 : List Int) (a : (Ar Int Unit)) : Res ((List Int) × List Int) :=
  (need (List.length ([] : List Int) ≤ sizeLine) (Res.ok ([] : List Int))).bind fun row_305 => (((((((m_law_draw xs0 (Ar.mk (40 : Int) ())).bind fun u327 => Res.ok ((u327.1 + (4 : Int)), u327.2)).bind fun u328 => Res.ok (u328.1, u328.2)).bind fun u330 => (need (0 < (40 : Int)) (Res.ok (u330.1 % (40 : Int)))).bind fun v331 => Res.ok (v331, u330.2)).bind fun u332 => Res.ok (((1 : Int) + u332.1), u332.2)).bind fun u333 => need (Rg62 u333.1) (Res.ok (irange 0 u333.1, u333.2))).bind fun u404 => foldR (fun (a334 : Int) (b335 : ((List Int) × (List Int))) => (m_law_draw b335.1 (Ar.mk (4 : Int) ())).bind fun kind_338 => (if (decide (kind_338.1 = (2 : Int))) then ((need (List.length b335.2 < sizeLine) (Res.ok (b335.2 ++ [(a.x - (1 : Int))]))).bind fun row_372 => Res.ok (row_372, kind_338.2)) else ((if (decide (kind_338.1 = (3 : Int))) then ((need (List.length b335.2 < sizeLine) (Res.ok (b335.2 ++ [(0 : Int)]))).bind fun row_389 => Res.ok (row_389, kind_338.2)) else ((((((m_law_draw kind_338.2 (Ar.mk a.x ())).bind fun u397 => Res.ok ((u397.1 + a334), u397.2)).bind fun u398 => Res.ok (u398.1, u398.2)).bind fun u400 => (need (0 < a.x) (Res.ok (u400.1 % a.x))).bind fun v401 => Res.ok (v401, u400.2)).bind fun u402 => need (List.length b335.2 < sizeLine) (Res.ok (b335.2 ++ [u402.1], u402.2))).bind fun w403 => Res.ok (w403.1, w403.2))).bind fun b388 => Res.ok (b388.1, b388.2))).bind fun b371 => Res.ok (b371.2, b371.1)) u404.1 (u404.2, row_305)).bind fun b337 => Res.ok (b337.2, b337.1)
abbrev s__law_drawn : Stmt := topS 29
theorem sc__law_drawn : FnScope ["pool", "size", "row", "k", "kind"] ["pool", "size"] (defScope s__law_drawn) := ⟨rfl, rfl, rfl, by decide +kernel, rfl, by decide +kernel, by decide +kernel⟩
theorem ok__law_drawn {f : Addr} {fd : FuncData} (Fu : Fun K "_law_drawn" "_law_drawn" s__law_drawn f fd) (D__law_draw : DefAt P w K mg base CX0 1 "_law_draw" ["pool", "many"] (spI K mg m_law_draw)) (z_int : mg "int" = none) (z_range : mg "range" = none) : FnOk P w K mg base CX0 2 f fd ["pool", "size"] (spI K mg m_law_drawn) := by
  refine def_I (τ := (Ar Int Unit)) (ρ := (List Int)) (ι := Int) Fu sc__law_drawn (fun p a => [rf p, vl K mg a.x, none, none, none]) (fun vs R p a h => by
    obtain ⟨v0, w0, e0, h0, e1⟩ := h
    cases e1; cases e0
    exact ⟨rfl, .cons rfl (.cons h0 (.cons trivial (.cons trivial (.cons trivial (.nil)))))⟩) (fun cdv A outer s H Av E p0 xs0 a hr => ?_)
  refine tT_cast (b_Np (s_own 2 sc__law_drawn.nd (List.nil_sublist _) (f_lst (l_nil (α := Int)))) (fun row_305 p306 => (b_perm (List.Perm.swap _ _ _) (b_N (s_forE (b0 := fun xs405 => (xs405, row_305)) (fun _ => (Sp3.mk : Sp3 (fun b : ((List Int) × (List Int)) => [rf p0, vl K mg (a.x : Int), rf p306, none, none]) (fun b : ((List Int) × (List Int)) => ([ow K mg p0 (b.1 : List Int), ow K mg p306 (b.2 : List Int)] : List Own)) _)) PassesOwn.never rfl (i_range1E (e_add (b3 := true) (e_p (List.nil_sublist _) (n_int (b := true))) (fun xs319 => (e_mod (b3 := true) (e_int1 (b3 := true) (pe_callTy call_int1 (by rfl) z_int (by decide +kernel) (pa_cons (e_add (b3 := true) (e_call 0 D__law_draw (hr.mono (by decide)) rfl (ea_p (List.nil_sublist _) (a_cons (n_int (b := true)) a_nil))) (fun xs326 => (e_p (List.nil_sublist _) (n_int (b := true)))) (fun _ => List.nil_sublist _)) pa_nil)) rfl (fun _ => List.nil_sublist _)) (fun xs329 => (e_p (List.nil_sublist _) (n_int (b := true)))) (fun _ => List.nil_sublist _))) (fun _ => List.nil_sublist _)) z_range) (tg_name 3 sc__law_drawn.nd) (fun _ => (List.nil_sublist _)) (fun _ => ⟨.inr rfl, .inr rfl, .inr rfl, .inl rfl, .inl rfl, trivial⟩) (fun _ => List.Sublist.refl _) (fun z336 a334 b335 => (n_N (s_setE 4 sc__law_drawn.nd (e_call 0 D__law_draw (hr.mono (by decide)) rfl (ea_p (List.nil_sublist _) (a_cons (n_int (b := true)) a_nil)))) (fun kind_338 => (n_N (s_ifS (Sp2.mk : Sp2 (fun b : ((List Int) × (List Int)) => [rf p0, vl K mg (a.x : Int), rf p306, vl K mg (a334 : Int), vl K mg (kind_338.1 : Int)]) (fun b : ((List Int) × (List Int)) => ([ow K mg p0 (b.2 : List Int), ow K mg p306 (b.1 : List Int)] : List Own))) (t_eq (n_var 4) (n_int (b := true))) (n_perm (List.Perm.swap _ _ _) (n_N (s_app 2 rfl (fun _ => List.nil_sublist _) (n_sub (b3 := true) (n_var 1) (n_int (b := true))) (fun h1 h2 => pe_bm PySem.F.plainAttrs_list PySem.F.slot_list_append PySem.F.type_list_append mt_append h1 h2)) (fun row_372 => (n_perm (List.Perm.swap _ _ _) (n_end (row_372, kind_338.2) ⟨.inr rfl, .inr rfl, .inr rfl, .inr rfl, .inr rfl, trivial⟩ (List.Sublist.cons₂ _ (List.Sublist.cons₂ _ (List.nil_sublist _)))))))) (n_N (s_ifS (Sp2.mk : Sp2 (fun b : ((List Int) × (List Int)) => [rf p0, vl K mg (a.x : Int), rf p306, vl K mg (a334 : Int), vl K mg (kind_338.1 : Int)]) (fun b : ((List Int) × (List Int)) => ([ow K mg p0 (b.2 : List Int), ow K mg p306 (b.1 : List Int)] : List Own))) (t_eq (n_var 4) (n_int (b := true))) (n_perm (List.Perm.swap _ _ _) (n_N (s_app 2 rfl (fun _ => List.nil_sublist _) (n_int (b := true)) (fun h1 h2 => pe_bm PySem.F.plainAttrs_list PySem.F.slot_list_append PySem.F.type_list_append mt_append h1 h2)) (fun row_389 => (n_perm (List.Perm.swap _ _ _) (n_end (row_389, kind_338.2) ⟨.inr rfl, .inr rfl, .inr rfl, .inr rfl, .inr rfl, trivial⟩ (List.Sublist.cons₂ _ (List.Sublist.cons₂ _ (List.nil_sublist _)))))))) (n_N (s_appE 2 rfl (fun _ => List.nil_sublist _) (e_mod (b3 := true) (e_int1 (b3 := true) (pe_callTy call_int1 (by rfl) z_int (by decide +kernel) (pa_cons (e_add (b3 := true) (e_call 0 D__law_draw (hr.mono (by decide)) rfl (ea_p (List.nil_sublist _) (a_cons (n_var 1) a_nil))) (fun xs396 => (e_p (List.nil_sublist _) (n_var 3))) (fun _ => List.nil_sublist _)) pa_nil)) rfl (fun _ => List.nil_sublist _)) (fun xs399 => (e_p (List.nil_sublist _) (n_var 1))) (fun _ => List.nil_sublist _)) (fun h1 h2 => pe_bm PySem.F.plainAttrs_list PySem.F.slot_list_append PySem.F.type_list_append mt_append h1 h2)) (fun w403 => (n_end (w403.1, w403.2) ⟨.inr rfl, .inr rfl, .inr rfl, .inr rfl, .inr rfl, trivial⟩ (List.Sublist.cons₂ _ (List.Sublist.cons₂ _ (List.nil_sublist _)))))) (List.nil_sublist _)) (fun b388 => (n_end (b388.1, b388.2) ⟨.inr rfl, .inr rfl, .inr rfl, .inr rfl, .inr rfl, trivial⟩ (List.Sublist.cons₂ _ (List.Sublist.cons₂ _ (List.nil_sublist _)))))) (List.nil_sublist _)) (fun b371 => (n_end (b371.2, b371.1) ⟨.inr rfl, .inr rfl, .inr rfl, .inl rfl, .inl rfl, trivial⟩ (List.Sublist.cons₂ _ (List.Sublist.cons₂ _ (List.nil_sublist _)))))))))) (fun b337 => (b_retOI 2 rfl (List.mem_cons_of_mem _ List.mem_cons_self) (List.Sublist.cons₂ _ (List.nil_sublist _)) (.inl (List.Sublist.cons₂ _ (List.Sublist.cons₂ _ (List.nil_sublist _)))) (List.nil_sublist _))))))) ?_
  simp -implicitDefEqProofs only [Res.bind_ok]
  rfl

/-! ### _law_bounds -/
def m_law_bounds (xs0 : List Int) (a : (Ar (List Int) (Ar (List Int) (Ar Int Unit)))) : Res (Bool × List Int) :=
  (need (CPow (1 : Int) a.r.r.x) (Res.ok ((1 : Int) * 2 ^ (a.r.r.x).toNat))).bind fun size_406 => ((m_law_draw xs0 (Ar.mk (List.length a.r.x : Int) ())).bind fun u408 => (idx a.r.x u408.1).bind fun v409 => Res.ok (v409, u408.2)).bind fun one_410 => (((((((m_law_draw one_410.2 (Ar.mk size_406 ())).bind fun u416 => Res.ok ((u416.1 :: ([] : List Int)), u416.2)).bind fun w417 => Res.ok ((one_410.1 + (1 : Int)) :: w417.1, w417.2)).bind fun w418 => Res.ok (one_410.1 :: w418.1, w418.2)).bind fun w419 => Res.ok (size_406 :: w419.1, w419.2)).bind fun w420 => Res.ok ((0 : Int) :: w420.1, w420.2)).bind fun u421 => need (List.length u421.1 ≤ sizeLine) (Res.ok (u421.1, u421.2))).bind fun bounds_422 => (if (decide (a.r.r.x < (4 : Int))) then (((need (Rg62 (size_406 + (1 : Int))) (Res.ok (irange 0 (size_406 + (1 : Int))))).bind fun v432 => need (List.length v432 ≤ sizeLine) (filtR (fun (a429 : Int) => Res.quiet (Res.ok true)) (fun (a429 : Int) => Res.quiet (Res.ok a429)) v432)).bind fun bounds_433 => Res.ok bounds_433) else (Res.ok bounds_422.1)).bind fun b428 => goOn (foldM (fun (a434 : Int) (b435 : Unit) => goOnM (foldM (fun (a438 : Int) (b439 : Unit) => ((m_law_below (Ar.mk a438 (Ar.mk a.r.r.x (Ar.mk a434 ())))).bind fun v442 => Res.ok (!v442)).bind fun v443 => if v443 then ((Res.ok (false, bounds_422.2)).bind fun d => Res.ok (Sum.inr d)) else (Res.ok (Sum.inl ()))) a.x ()) (fun b441 => Res.ok (Sum.inl ()))) b428 ()) (fun b437 => Res.ok (true, bounds_422.2))
abbrev s__law_bounds : Stmt := topS 30
theorem sc__law_bounds : FnScope ["pool", "words", "row", "width", "size", "one", "bounds", "bound", "word", "k"] ["pool", "words", "row", "width"] (defScope s__law_bounds) := ⟨rfl, rfl, rfl, by decide +kernel, rfl, by decide +kernel, by decide +kernel⟩
theorem ok__law_bounds {f : Addr} {fd : FuncData} (Fu : Fun K "_law_bounds" "_law_bounds" s__law_bounds f fd) (D__law_draw : DefAt P w K mg base CX0 1 "_law_draw" ["pool", "many"] (spI K mg m_law_draw)) (D__law_below : DefAt P w K mg base CX0 4 "_law_below" ["word", "width", "bound"] (spP K mg m_law_below)) (z_len : mg "len" = none) (z_range : mg "range" = none) : FnOk P w K mg base CX0 5 f fd ["pool", "words", "row", "width"] (spI K mg m_law_bounds) := by
  refine def_I (τ := (Ar (List Int) (Ar (List Int) (Ar Int Unit)))) (ρ := Bool) (ι := Int) Fu sc__law_bounds (fun p a => [rf p, vl K mg a.x, vl K mg a.r.x, vl K mg a.r.r.x, none, none, none, none, none, none]) (fun vs R p a h => by
    obtain ⟨v0, w0, e0, h0, v1, w1, e1, h1, v2, w2, e2, h2, e3⟩ := h
    cases e3; cases e2; cases e1; cases e0
    exact ⟨rfl, .cons rfl (.cons h0 (.cons h1 (.cons h2 (.cons trivial (.cons trivial (.cons trivial (.cons trivial (.cons trivial (.cons trivial (.nil))))))))))⟩) (fun cdv A outer s H Av E p0 xs0 a hr => ?_)
  refine tT_cast (b_N (s_set 4 sc__law_bounds.nd (List.nil_sublist _) (n_shl (b3 := true) (n_int (b := true)) (n_var 3))) (fun size_406 => (b_N (s_setE 5 sc__law_bounds.nd (e_idx (e_p (List.nil_sublist _) (n_var 2)) (fun xs407 => (e_call 0 D__law_draw (hr.mono (by decide)) rfl (ea_p (List.nil_sublist _) (a_cons (n_len (b3 := true) (pe_callB call_len_seq (by rfl) z_len (by decide +kernel) (pa_cons (n_var 2) pa_nil)) rfl) a_nil)))) (fun _ => List.nil_sublist _))) (fun one_410 => (b_N (s_setE 6 sc__law_bounds.nd (e_lst (el_cons (e_p (List.nil_sublist _) (n_int (b := true))) (fun xs411 => (el_cons (e_p (List.nil_sublist _) (n_var 4)) (fun xs412 => (el_cons (e_p (List.nil_sublist _) (n_var 5)) (fun xs413 => (el_cons (e_p (List.nil_sublist _) (n_add (b3 := true) (n_var 5) (n_int (b := true)))) (fun xs414 => (el_cons (e_call 0 D__law_draw (hr.mono (by decide)) rfl (ea_p (List.nil_sublist _) (a_cons (n_var 4) a_nil))) (fun xs415 => (el_p (List.nil_sublist _) (l_nil (α := Int))))))))))))))) (fun bounds_422 => (b_N (s_ifS (Sp2.mk : Sp2 (fun b : ((List Int)) => [rf p0, vl K mg (a.x : (List Int)), vl K mg (a.r.x : (List Int)), vl K mg (a.r.r.x : Int), vl K mg (size_406 : Int), vl K mg (one_410.1 : Int), vl K mg (b : (List Int)), none, none, none]) (fun b : ((List Int)) => ([ow K mg p0 (bounds_422.2 : List Int)] : List Own))) (t_lt (n_var 3) (n_int (b := true))) (n_N (s_setLc 6 (own := [("k", 9)]) rfl sc__law_bounds.nd (List.nil_sublist _) (i_range1 (b' := true) (n_add (b3 := true) (n_var 4) (n_int (b := true))) z_range) (.inl rfl) (blkOk_by (N := ["pool", "words", "row", "width", "size", "one", "bounds", "bound", "word", "k"]) (sc := defScope s__law_bounds) (by decide +kernel)) (tgok_name 9) (fun _ _ _ _ _ => (tg_name 9 sc__law_bounds.nd)) (fun _ _ _ _ _ a429 D430 ds431 => ts_nil) (fun _ _ _ _ _ a429 D430 ds431 => (n_var 9))) (fun bounds_433 => (n_end bounds_433 ⟨.inr rfl, .inr rfl, .inr rfl, .inr rfl, .inr rfl, .inr rfl, .inr rfl, .inl rfl, .inl rfl, .inl rfl, trivial⟩ (List.Sublist.cons₂ _ (List.nil_sublist _))))) (n_end bounds_422.1 ⟨.inr rfl, .inr rfl, .inr rfl, .inr rfl, .inr rfl, .inr rfl, .inr rfl, .inl rfl, .inl rfl, .inl rfl, trivial⟩ (List.Sublist.cons₂ _ (List.nil_sublist _))) (List.nil_sublist _)) (fun b428 => (b_M (s_forM (Sp3.mk : Sp3 (fun b : Unit => [rf p0, vl K mg (a.x : (List Int)), vl K mg (a.r.x : (List Int)), vl K mg (a.r.r.x : Int), vl K mg (size_406 : Int), vl K mg (one_410.1 : Int), vl K mg (b428 : (List Int)), none, none, none]) (fun b : Unit => ([ow K mg p0 (bounds_422.2 : List Int)] : List Own)) ()) PassesOwn.never rfl (i_lk (n_var 6)) (tg_name 7 sc__law_bounds.nd) (List.nil_sublist _) ⟨.inr rfl, .inr rfl, .inr rfl, .inr rfl, .inr rfl, .inr rfl, .inr rfl, .inl rfl, .inl rfl, .inl rfl, trivial⟩ (List.Sublist.refl _) (fun z436 a434 b435 => (m_M (s_forM (Sp3.mk : Sp3 (fun b : Unit => [rf p0, vl K mg (a.x : (List Int)), vl K mg (a.r.x : (List Int)), vl K mg (a.r.r.x : Int), vl K mg (size_406 : Int), vl K mg (one_410.1 : Int), vl K mg (b428 : (List Int)), vl K mg (a434 : Int), none, none]) (fun b : Unit => ([ow K mg p0 (bounds_422.2 : List Int)] : List Own)) ()) PassesOwn.never rfl (i_lk (n_var 1)) (tg_name 8 sc__law_bounds.nd) (List.nil_sublist _) ⟨.inr rfl, .inr rfl, .inr rfl, .inr rfl, .inr rfl, .inr rfl, .inr rfl, .inr rfl, .inl rfl, .inl rfl, trivial⟩ (List.Sublist.refl _) (fun z440 a438 b439 => (m_if (t_not (t_val (nd_call D__law_below (hr.mono (by decide)) (a_cons (n_var 8) (a_cons (n_var 3) (a_cons (n_var 7) a_nil)))))) (b_le (rI_le (.add (.add (.refl _)))) (b_retI (n_bl (b := true)) (List.Sublist.cons₂ _ (List.nil_sublist _)) (List.nil_sublist _))) (m_end () ⟨.inr rfl, .inr rfl, .inr rfl, .inr rfl, .inr rfl, .inr rfl, .inr rfl, .inr rfl, .inl rfl, .inl rfl, trivial⟩ (List.Sublist.cons₂ _ (List.nil_sublist _))) (List.nil_sublist _)))) (fun b441 => (m_end () ⟨.inr rfl, .inr rfl, .inr rfl, .inr rfl, .inr rfl, .inr rfl, .inr rfl, .inl rfl, .inl rfl, .inl rfl, trivial⟩ (List.Sublist.cons₂ _ (List.nil_sublist _))))))) (fun b437 => (b_retI (n_bl (b := true)) (List.Sublist.cons₂ _ (List.nil_sublist _)) (List.nil_sublist _)))))))))))) ?_
  simp -implicitDefEqProofs only [Res.bind_ok]
  rfl

/-! ### law -/
def m_law (a : (Ar Scr Unit)) : Res Bool :=
  (m_law_digits (Ar.mk a.x ())).bind fun pool_444 => (((((m_law_draw pool_444 (Ar.mk (29 : Int) ())).bind fun u466 => Res.ok ((u466.1 + (2 : Int)), u466.2)).bind fun u467 => Res.ok (u467.1, u467.2)).bind fun u469 => (need (0 < (29 : Int)) (Res.ok (u469.1 % (29 : Int)))).bind fun v470 => Res.ok (v470, u469.2)).bind fun u471 => Res.ok (((1 : Int) + u471.1), u471.2)).bind fun width_472 => (need (CPow (1 : Int) width_472.1) (Res.ok ((1 : Int) * 2 ^ (width_472.1).toNat))).bind fun size_473 => (m_law_drawn width_472.2 (Ar.mk size_473 ())).bind fun row_474 => (m_law_draw row_474.2 (Ar.mk ((List.length row_474.1 : Int) + (1 : Int)) ())).bind fun at_475 => (((((m_law_draw at_475.2 (Ar.mk size_473 ())).bind fun u484 => Res.ok ((u484.1 :: ([] : List Int)), u484.2)).bind fun w485 => Res.ok ((0 : Int) :: w485.1, w485.2)).bind fun u486 => need (List.length u486.1 ≤ sizeLine) (Res.ok (u486.1, u486.2))).bind fun u488 => (m_law_draw u488.2 (Ar.mk (2 : Int) ())).bind fun u489 => (idx u488.1 u489.1).bind fun v490 => Res.ok (v490, u489.2)).bind fun over_491 => ((m_law_draw over_491.2 (Ar.mk (2 : Int) ())).bind fun u494 => Res.ok ((decide (u494.1 = (1 : Int))), u494.2)).bind fun low_495 => (((((if low_495.1 then Res.ok ((-(1 : Int)) - over_491.1) else Res.ok (size_473 + over_491.1)).bind fun v496 => Res.ok (v496 :: [])).bind fun v497 => need (List.length v497 ≤ sizeLine) (Res.ok v497)).bind fun v498 => need (List.length (cut row_474.1 none (some at_475.1)) + List.length v498 ≤ sizeLine) (Res.ok ((cut row_474.1 none (some at_475.1)) ++ v498))).bind fun v499 => need (List.length v499 + List.length (cut row_474.1 (some at_475.1) none) ≤ sizeLine) (Res.ok (v499 ++ (cut row_474.1 (some at_475.1) none)))).bind fun bad_500 => (((((if low_495.1 then Res.ok ((-(1 : Int)) - over_491.1) else Res.ok ((536870912 : Int) + over_491.1)).bind fun v501 => Res.ok (v501 :: [])).bind fun v502 => need (List.length v502 ≤ sizeLine) (Res.ok v502)).bind fun v503 => need (List.length (cut row_474.1 none (some at_475.1)) + List.length v503 ≤ sizeLine) (Res.ok ((cut row_474.1 none (some at_475.1)) ++ v503))).bind fun v504 => need (List.length v504 + List.length (cut row_474.1 (some at_475.1) none) ≤ sizeLine) (Res.ok (v504 ++ (cut row_474.1 (some at_475.1) none)))).bind fun far_505 => (((m_law_unfit (Ar.mk bad_500 (Ar.mk width_472.1 ()))).bind fun v506 => Res.ok (!v506)).bind fun v508 => if v508 then Res.ok true else ((m_law_unfit (Ar.mk far_505 (Ar.mk (0 : Int) ()))).bind fun v507 => Res.ok (!v507))).bind fun v555 => if v555 then (Res.ok false) else ((let handed_509 := row_474.1
  (m_law_words (Ar.mk row_474.1 (Ar.mk width_472.1 ()))).bind fun words_510 => (Res.quiet (m_pack (Ar.mk handed_509 (Ar.mk width_472.1 ())))).bind fun told_511 => (((m_law_ints (Ar.mk told_511 (Ar.mk words_510 ()))).bind fun v513 => Res.ok (!v513)).bind fun v514 => if v514 then Res.ok true else (need (shp handed_509 = true ∧ shp row_474.1 = true) (Res.ok (!eqD handed_509 row_474.1)))).bind fun v554 => if v554 then (Res.ok false) else ((need (List.length told_511 < sizeLine) (Res.ok (told_511 ++ [(0 : Int)]))).bind fun told_515 => (((((Res.quiet (m_pack (Ar.mk handed_509 (Ar.mk width_472.1 ())))).bind fun v516 => Res.ok (Ar.mk v516 (Ar.mk words_510 ()))).bind fun u517 => m_law_ints u517).bind fun v518 => Res.ok (!v518)).bind fun v520 => if v520 then Res.ok true else ((m_law_widths (Ar.mk row_474.1 (Ar.mk width_472.1 ()))).bind fun v519 => Res.ok (!v519))).bind fun v553 => if v553 then (Res.ok false) else ((m_law_near low_495.2 (Ar.mk words_510 ())).bind fun other_521 => goOn (((((((m_law_draw other_521.2 (Ar.mk ((List.length row_474.1 : Int) + (2 : Int)) ())).bind fun u524 => Res.ok (((1 : Int) + u524.1), u524.2)).bind fun u526 => Res.ok ((u526.1 :: ([] : List Int)), u526.2)).bind fun w527 => Res.ok ((List.length row_474.1 : Int) :: w527.1, w527.2)).bind fun u528 => need (List.length u528.1 ≤ sizeLine) (Res.ok (u528.1, u528.2))).bind fun u529 => Res.ok (u529.1, u529.2)).bind fun u542 => foldM (fun (a530 : Int) (b531 : ((List Int))) => goOnM (((need (List.length (words_510 :: (other_521.1 :: [])) ≤ sizeLine) (Res.ok (words_510 :: (other_521.1 :: [])))).bind fun v534 => Res.ok v534).bind fun v541 => foldM (fun (a535 : (List Int)) (b536 : Unit) => ((m_law_read (Ar.mk a535 (Ar.mk width_472.1 (Ar.mk a530 ())))).bind fun v539 => Res.ok (!v539)).bind fun v540 => if v540 then ((Res.ok false).bind fun d => Res.ok (Sum.inr d)) else (Res.ok (Sum.inl ()))) v541 ()) (fun b538 => Res.ok (Sum.inl b531))) u542.1 u542.2) (fun b533 => (((m_law_bounds b533 (Ar.mk words_510 (Ar.mk row_474.1 (Ar.mk width_472.1 ())))).bind fun u544 => Res.ok ((!u544.1), u544.2)).bind fun u548 => if u548.1 then Res.ok (true, u548.2) else (((m_law_nothing (Ar.mk width_472.1 ())).bind fun v546 => Res.ok (!v546)).bind fun v547 => Res.ok (v547, u548.2))).bind fun u552 => if u552.1 then (Res.ok false) else ((m_law_unfit (Ar.mk bad_500 (Ar.mk width_472.1 ()))).bind fun v551 => if v551 then (m_law_unfit (Ar.mk far_505 (Ar.mk (0 : Int) ()))) else Res.ok false))))))
abbrev s_law : Stmt := topS 31
theorem sc_law : FnScope ["script", "pool", "width", "size", "row", "at", "over", "low", "bad", "far", "handed", "words", "told", "other", "count", "some"] ["script"] (defScope s_law) := ⟨rfl, rfl, rfl, by decide +kernel, rfl, by decide +kernel, by decide +kernel⟩
theorem ok_law {f : Addr} {fd : FuncData} (Fu : Fun K "law" "law" s_law f fd) (D__law_digits : DefAt P w K mg base CX0 1 "_law_digits" ["script"] (spF K mg m_law_digits)) (D__law_draw : DefAt P w K mg base CX0 1 "_law_draw" ["pool", "many"] (spI K mg m_law_draw)) (D__law_drawn : DefAt P w K mg base CX0 2 "_law_drawn" ["pool", "size"] (spI K mg m_law_drawn)) (D__law_unfit : DefAt P w K mg base CX0 5 "_law_unfit" ["row", "width"] (spP K mg m_law_unfit)) (D__law_words : DefAt P w K mg base CX0 1 "_law_words" ["row", "width"] (spF K mg m_law_words)) (D_pack : DefAt P w K mg base (L2N.CX P w) 4 "pack" ["numbers", "width"] (spXF K mg m_pack)) (D__law_ints : DefAt P w K mg base CX0 2 "_law_ints" ["told", "due"] (spP K mg m_law_ints)) (D__law_widths : DefAt P w K mg base CX0 5 "_law_widths" ["row", "width"] (spP K mg m_law_widths)) (D__law_near : DefAt P w K mg base CX0 2 "_law_near" ["pool", "words"] (spI K mg m_law_near)) (D__law_read : DefAt P w K mg base CX0 6 "_law_read" ["words", "width", "count"] (spP K mg m_law_read)) (D__law_bounds : DefAt P w K mg base CX0 5 "_law_bounds" ["pool", "words", "row", "width"] (spI K mg m_law_bounds)) (D__law_nothing : DefAt P w K mg base CX0 7 "_law_nothing" ["width"] (spP K mg m_law_nothing)) (z_int : mg "int" = none) (z_len : mg "len" = none) (z_list : mg "list" = none) : FnOk P w K mg base CX0 8 f fd ["script"] (spP K mg m_law) := by
  refine def_P (τ := (Ar Scr Unit)) (ρ := Bool) Fu sc_law (fun a => [vl K mg a.x, none, none, none, none, none, none, none, none, none, none, none, none, none, none, none]) (fun vs R a h => by
    obtain ⟨v0, w0, e0, h0, e1⟩ := h
    cases e1; cases e0
    exact ⟨rfl, .cons h0 (.cons trivial (.cons trivial (.cons trivial (.cons trivial (.cons trivial (.cons trivial (.cons trivial (.cons trivial (.cons trivial (.cons trivial (.cons trivial (.cons trivial (.cons trivial (.cons trivial (.cons trivial (.nil))))))))))))))))⟩) (fun cdv A outer s H Av E a hr => ?_)
  refine tT_cast (b_Np (s_own 1 sc_law.nd (List.nil_sublist _) (fd_call D__law_digits (hr.mono (by decide)) (a_cons (n_var 0) a_nil))) (fun pool_444 p445 => (b_N (s_setE 2 sc_law.nd (e_add (b3 := true) (e_p (List.nil_sublist _) (n_int (b := true))) (fun xs458 => (e_mod (b3 := true) (e_int1 (b3 := true) (pe_callTy call_int1 (by rfl) z_int (by decide +kernel) (pa_cons (e_add (b3 := true) (e_call 1 D__law_draw (hr.mono (by decide)) rfl (ea_p (List.nil_sublist _) (a_cons (n_int (b := true)) a_nil))) (fun xs465 => (e_p (List.nil_sublist _) (n_int (b := true)))) (fun _ => List.nil_sublist _)) pa_nil)) rfl (fun _ => List.nil_sublist _)) (fun xs468 => (e_p (List.nil_sublist _) (n_int (b := true)))) (fun _ => List.nil_sublist _))) (fun _ => List.nil_sublist _))) (fun width_472 => (b_N (s_set 3 sc_law.nd (List.nil_sublist _) (n_shl (b3 := true) (n_int (b := true)) (n_var 2))) (fun size_473 => (b_N (s_setE 4 sc_law.nd (e_call 1 D__law_drawn (hr.mono (by decide)) rfl (ea_p (List.nil_sublist _) (a_cons (n_var 3) a_nil)))) (fun row_474 => (b_N (s_setE 5 sc_law.nd (e_call 1 D__law_draw (hr.mono (by decide)) rfl (ea_p (List.nil_sublist _) (a_cons (n_add (b3 := true) (n_len (b3 := true) (pe_callB call_len_seq (by rfl) z_len (by decide +kernel) (pa_cons (n_var 4) pa_nil)) rfl) (n_int (b := true))) a_nil)))) (fun at_475 => (b_N (s_setE 6 sc_law.nd (e_idx (e_lst (el_cons (e_p (List.nil_sublist _) (n_int (b := true))) (fun xs482 => (el_cons (e_call 1 D__law_draw (hr.mono (by decide)) rfl (ea_p (List.nil_sublist _) (a_cons (n_var 3) a_nil))) (fun xs483 => (el_p (List.nil_sublist _) (l_nil (α := Int)))))))) (fun xs487 => (e_call 1 D__law_draw (hr.mono (by decide)) rfl (ea_p (List.nil_sublist _) (a_cons (n_int (b := true)) a_nil)))) (fun _ => List.nil_sublist _))) (fun over_491 => (b_N (s_setE 7 sc_law.nd (en_eq (b3 := true) (e_call 1 D__law_draw (hr.mono (by decide)) rfl (ea_p (List.nil_sublist _) (a_cons (n_int (b := true)) a_nil))) (fun xs493 => (e_p (List.nil_sublist _) (n_int (b := true)))) (fun _ => List.nil_sublist _))) (fun low_495 => (b_N (s_set 8 sc_law.nd (List.nil_sublist _) (f_val (f_cat (f_val (f_cat (f_val (f_slice (n_var 4) o_none (o_some (n_var 5)))) (f_val (f_lst (l_cons (n_if (t_val (n_var 7)) (n_sub (b3 := true) (n_neg (b3 := true) (n_int (b := true))) (n_var 6)) (n_add (b3 := true) (n_var 3) (n_var 6))) (l_nil (α := Int))))))) (f_val (f_slice (n_var 4) (o_some (n_var 5)) o_none))))) (fun bad_500 => (b_N (s_set 9 sc_law.nd (List.nil_sublist _) (f_val (f_cat (f_val (f_cat (f_val (f_slice (n_var 4) o_none (o_some (n_var 5)))) (f_val (f_lst (l_cons (n_if (t_val (n_var 7)) (n_sub (b3 := true) (n_neg (b3 := true) (n_int (b := true))) (n_var 6)) (n_add (b3 := true) (n_int (b := true)) (n_var 6))) (l_nil (α := Int))))))) (f_val (f_slice (n_var 4) (o_some (n_var 5)) o_none))))) (fun far_505 => (b_if (PW.pt (w_or (t_not (t_val (nd_call D__law_unfit (hr.mono (by decide)) (a_cons (n_var 8) (a_cons (n_var 2) a_nil))))) (w_or1 (t_not (t_val (nd_call D__law_unfit (hr.mono (by decide)) (a_cons (n_var 9) (a_cons (n_int (b := true)) a_nil)))))))) (b_ret (n_bl (b := true)) (List.nil_sublist _)) (b_N (s_set 10 sc_law.nd (List.nil_sublist _) (f_val (f_list (pe_callTy call_list_of (by rfl) z_list (by decide +kernel) (pa_cons (n_var 4) pa_nil)) rfl))) (fun handed_509 => (b_N (s_set 11 sc_law.nd (List.nil_sublist _) (f_val (fd_call D__law_words (hr.mono (by decide)) (a_cons (n_var 4) (a_cons (n_var 2) a_nil))))) (fun words_510 => (b_Np (s_own 12 sc_law.nd (List.nil_sublist _) (f_callXq D_pack (hr.mono (by decide)) (a_cons (n_var 10) (a_cons (n_var 2) a_nil)))) (fun told_511 p512 => (b_if (PW.pt (w_or (t_not (t_val (nd_call D__law_ints (hr.mono (by decide)) (a_cons (n_own 12 rfl List.mem_cons_self) (a_cons (weak (n_var 11)) a_nil))))) (w_or1 (t_neD (b1 := true) (b2 := true) (n_var 10) (n_var 4) hr.units)))) (b_ret (n_bl (b := true)) (List.nil_sublist _)) (b_N (s_app 12 rfl (fun _ => List.nil_sublist _) (n_int (b := true)) (fun h1 h2 => pe_bm PySem.F.plainAttrs_list PySem.F.slot_list_append PySem.F.type_list_append mt_append h1 h2)) (fun told_515 => (b_if (PW.pt (w_or (t_not (t_val (nd_call D__law_ints (hr.mono (by decide)) (a_cons (f_val (f_callXq D_pack (hr.mono (by decide)) (a_cons (n_var 10) (a_cons (n_var 2) a_nil)))) (a_cons (n_var 11) a_nil))))) (w_or1 (t_not (t_val (nd_call D__law_widths (hr.mono (by decide)) (a_cons (n_var 4) (a_cons (n_var 2) a_nil)))))))) (b_ret (n_bl (b := true)) (List.nil_sublist _)) (b_perm (List.Perm.swap _ _ _) (b_N (s_setE 13 sc_law.nd (e_call 1 D__law_near (hr.mono (by decide)) rfl (ea_p (List.nil_sublist _) (a_cons (n_var 11) a_nil)))) (fun other_521 => (b_M (s_forME (b0 := fun xs543 => xs543) (fun _ => (Sp3.mk : Sp3 (fun b : ((List Int)) => [vl K mg (a.x : Scr), rf p445, vl K mg (width_472.1 : Int), vl K mg (size_473 : Int), vl K mg (row_474.1 : (List Int)), vl K mg (at_475.1 : Int), vl K mg (over_491.1 : Int), vl K mg (low_495.1 : Bool), vl K mg (bad_500 : (List Int)), vl K mg (far_505 : (List Int)), vl K mg (handed_509 : (List Int)), vl K mg (words_510 : (List Int)), rf p512, vl K mg (other_521.1 : (List Int)), none, none]) (fun b : ((List Int)) => ([ow K mg p445 (b : List Int), ow K mg p512 (told_515 : List Int)] : List Own)) _)) PassesOwn.never rfl (i_lkE (e_lst (el_cons (e_p (List.nil_sublist _) (n_len (b3 := true) (pe_callB call_len_seq (by rfl) z_len (by decide +kernel) (pa_cons (n_var 4) pa_nil)) rfl)) (fun xs522 => (el_cons (e_add (b3 := true) (e_p (List.nil_sublist _) (n_int (b := true))) (fun xs523 => (e_call 1 D__law_draw (hr.mono (by decide)) rfl (ea_p (List.nil_sublist _) (a_cons (n_add (b3 := true) (n_len (b3 := true) (pe_callB call_len_seq (by rfl) z_len (by decide +kernel) (pa_cons (n_var 4) pa_nil)) rfl) (n_int (b := true))) a_nil)))) (fun _ => List.nil_sublist _)) (fun xs525 => (el_p (List.nil_sublist _) (l_nil (α := Int))))))))) (tg_name 14 sc_law.nd) (fun _ => (List.nil_sublist _)) (fun _ => ⟨.inr rfl, .inr rfl, .inr rfl, .inr rfl, .inr rfl, .inr rfl, .inr rfl, .inr rfl, .inr rfl, .inr rfl, .inr rfl, .inr rfl, .inr rfl, .inr rfl, .inl rfl, .inl rfl, trivial⟩) (fun _ => List.Sublist.refl _) (fun z532 a530 b531 => (m_M (s_forM (Sp3.mk : Sp3 (fun b : Unit => [vl K mg (a.x : Scr), rf p445, vl K mg (width_472.1 : Int), vl K mg (size_473 : Int), vl K mg (row_474.1 : (List Int)), vl K mg (at_475.1 : Int), vl K mg (over_491.1 : Int), vl K mg (low_495.1 : Bool), vl K mg (bad_500 : (List Int)), vl K mg (far_505 : (List Int)), vl K mg (handed_509 : (List Int)), vl K mg (words_510 : (List Int)), rf p512, vl K mg (other_521.1 : (List Int)), vl K mg (a530 : Int), none]) (fun b : Unit => ([ow K mg p445 (b531 : List Int), ow K mg p512 (told_515 : List Int)] : List Own)) ()) PassesOwn.never rfl (i_lk (f_val (f_lst (l_cons (n_var 11) (l_cons (n_var 13) (l_nil (α := (List Int)))))))) (tg_name 15 sc_law.nd) (List.nil_sublist _) ⟨.inr rfl, .inr rfl, .inr rfl, .inr rfl, .inr rfl, .inr rfl, .inr rfl, .inr rfl, .inr rfl, .inr rfl, .inr rfl, .inr rfl, .inr rfl, .inr rfl, .inr rfl, .inl rfl, trivial⟩ (List.Sublist.refl _) (fun z537 a535 b536 => (m_if (t_not (t_val (nd_call D__law_read (hr.mono (by decide)) (a_cons (n_var 15) (a_cons (n_var 2) (a_cons (n_var 14) a_nil)))))) (b_le (rV_le (.add (.add (.refl _)))) (b_ret (n_bl (b := true)) (List.nil_sublist _))) (m_end () ⟨.inr rfl, .inr rfl, .inr rfl, .inr rfl, .inr rfl, .inr rfl, .inr rfl, .inr rfl, .inr rfl, .inr rfl, .inr rfl, .inr rfl, .inr rfl, .inr rfl, .inr rfl, .inl rfl, trivial⟩ (List.Sublist.cons₂ _ (List.Sublist.cons₂ _ (List.nil_sublist _)))) (List.nil_sublist _)))) (fun b538 => (m_end b531 ⟨.inr rfl, .inr rfl, .inr rfl, .inr rfl, .inr rfl, .inr rfl, .inr rfl, .inr rfl, .inr rfl, .inr rfl, .inr rfl, .inr rfl, .inr rfl, .inr rfl, .inl rfl, .inl rfl, trivial⟩ (List.Sublist.cons₂ _ (List.Sublist.cons₂ _ (List.nil_sublist _)))))))) (fun b533 => (be_if (PW.pt (ew_or (et_not (et_val (e_call 1 D__law_bounds (hr.mono (by decide)) rfl (ea_p (List.nil_sublist _) (a_cons (n_var 11) (a_cons (n_var 4) (a_cons (n_var 2) a_nil))))))) (fun xs545 => (ew_p (List.nil_sublist _) (w_or1 (t_not (t_val (nd_call D__law_nothing (hr.mono (by decide)) (a_cons (n_var 2) a_nil))))))))) (fun xs549 => (b_ret (n_bl (b := true)) (List.nil_sublist _))) (fun xs550 => (b_ret (n_and (b3 := true) (nd_call D__law_unfit (hr.mono (by decide)) (a_cons (n_var 8) (a_cons (n_var 2) a_nil))) (n_one (nd_call D__law_unfit (hr.mono (by decide)) (a_cons (n_var 9) (a_cons (n_int (b := true)) a_nil))))) (List.nil_sublist _))))))))) (List.nil_sublist _)))) (List.nil_sublist _)))))))) (List.nil_sublist _)))))))))))))))))))) ?_
  unfold m_law
  simp -implicitDefEqProofs only [Res.bind_ok, Res.bind_assoc]
  rfl

end
end K02
set_option Elab.async false
set_option linter.all false
set_option maxRecDepth 100000
/-! M2a: k02: the program's and the law's pieces. -/
namespace K02
open PySem PySem.Spec PyProof.Rows L2 NF
open NF.Data (toD)
def M (W : Nat) : Nat := 60 / (W + 1)
theorem M_b : ∀ W, W < 30 → 2 ≤ M W ∧ M W ≤ 60 := by decide
theorem M_i (W : Nat) : (60 : Int) / ((W : Int) + 1) = (M W : Int) := by
  unfold M
  rw [Int.natCast_ediv]
  rfl
theorem lane_count_ok {W : Nat} (h : W < 30) : m_lane_count ⟨(W : Int), ()⟩ = .ok (M W : Int) := by
  unfold m_lane_count
  dsimp only
  rw [need_ok (by unfold CDiv; omega), M_i]
def fit (W : Nat) (row : List Int) : Prop := ∀ n ∈ row, 0 ≤ n ∧ n < 2 ^ W
def unfitE {α : Type} : Res α := .err "Unfit" [("chain", toD (PySem.Str.ofString "lanes"))]
def cfF (W : Int) : Int → Unit → Res (Sum Unit Unit) := fun (a1 : Int) (b2 : Unit) => ((if (decide ((0 : Int) ≤ a1)) then ((need (CPow (1 : Int) W) (Res.ok ((1 : Int) * 2 ^ (W).toNat))).bind fun v5 => Res.ok (decide (a1 < v5))) else Res.ok false).bind fun v6 => Res.ok (!v6)).bind fun v7 => if v7 then ((Res.err "Unfit" [("chain", toD (PySem.Str.ofString "lanes"))]).bind fun d => Res.ok (Sum.inr d)) else (Res.ok (Sum.inl ()))
theorem check_eq (row : List Int) (W : Int) : m_check_fit ⟨row, ⟨W, ()⟩⟩ = goOn (goOnM (foldM (cfF W) row ()) fun _ => Res.ok (Sum.inl ())) fun _ => Res.ok () := rfl
theorem cf_step {W : Nat} (h : W < 30) (a : Int) : cfF W a () = if 0 ≤ a ∧ a < 2 ^ W then .ok (.inl ()) else unfitE := by
  unfold cfF
  by_cases h0 : 0 ≤ a
  · rw [if_pos (by simpa using h0), need_ok (by unfold CPow; omega), Res.bind_ok, Res.bind_ok, Res.bind_ok, Int.toNat_natCast, Int.one_mul]
    by_cases h1 : a < 2 ^ W
    · have d : (!decide (a < (2 : Int) ^ W)) = false := by simpa using h1
      rw [d, if_neg (by decide), if_pos ⟨h0, h1⟩]
    · have d : (!decide (a < (2 : Int) ^ W)) = true := by simpa using h1
      rw [d, if_pos rfl, if_neg (fun z => h1 z.2)]
      rfl
  · rw [if_neg (by simpa using h0), if_neg (c := 0 ≤ a ∧ a < 2 ^ W) (fun z => h0 z.1)]
    rfl
theorem cf_ok {W : Nat} (h : W < 30) : ∀ row : List Int, fit W row → foldM (cfF W) row () = .ok (.inl ())
  | [], _ => rfl
  | a :: r, f => by
    show (cfF W a ()).bind _ = _
    rw [cf_step h, if_pos (f a List.mem_cons_self), Res.bind_ok]
    exact cf_ok h r fun n hn => f n (List.mem_cons_of_mem _ hn)
theorem cf_err {W : Nat} (h : W < 30) : ∀ row : List Int, ¬ fit W row → foldM (cfF W) row () = unfitE
  | [], f => (f fun _ h => (List.not_mem_nil h).elim).elim
  | a :: r, f => by
    show (cfF W a ()).bind _ = _
    rw [cf_step h]
    by_cases ha : 0 ≤ a ∧ a < 2 ^ W
    · rw [if_pos ha, Res.bind_ok]
      exact cf_err h r fun z => f fun n hn => by
        rcases List.mem_cons.mp hn with rfl | hn
        · exact ha
        · exact z n hn
    · rw [if_neg ha]
      rfl
theorem check_ok {W : Nat} (h : W < 30) {row : List Int} (f : fit W row) : m_check_fit ⟨row, ⟨(W : Int), ()⟩⟩ = .ok () := by
  rw [check_eq, cf_ok h row f]
  rfl
theorem check_err {W : Nat} (h : W < 30) {row : List Int} (f : ¬ fit W row) : m_check_fit ⟨row, ⟨(W : Int), ()⟩⟩ = unfitE := by
  rw [check_eq, cf_err h row f]
  rfl
/-! words -/
def wordL (W : Nat) (row : List Int) : Int := row.foldr (fun n acc => acc * 2 ^ (W + 1) + n) 0
theorem p2 (k : Nat) : (1 : Int) ≤ 2 ^ k := by
  have h1 : 1 ≤ 2 ^ k := Nat.one_le_two_pow
  have h2 : ((1 : Nat) : Int) ≤ ((2 ^ k : Nat) : Int) := by omega
  rw [Int.natCast_pow] at h2
  exact h2
theorem p2_mono {a b : Nat} (h : a ≤ b) : (2 : Int) ^ a ≤ 2 ^ b := by
  have h1 : 2 ^ a ≤ 2 ^ b := Nat.pow_le_pow_right (by decide) h
  have h2 : ((2 ^ a : Nat) : Int) ≤ ((2 ^ b : Nat) : Int) := by omega
  rw [Int.natCast_pow, Int.natCast_pow] at h2
  exact h2
theorem p2_lt {k : Nat} (h : k ≤ 60) : (2 : Int) ^ k < 2 ^ 61 := by
  have := p2_mono h
  have h2 : (2 : Int) ^ 60 < 2 ^ 61 := by decide
  omega
def woF (W : Int) : Int × Int → Int → Res Int := fun (a16 : (Int × Int)) (b17 : (Int)) => (((need (CMul a16.1 (W + (1 : Int))) (Res.ok (a16.1 * (W + (1 : Int))))).bind fun v20 => need (CPow a16.2 v20) (Res.ok (a16.2 * 2 ^ (v20).toNat))).bind fun v21 => Res.ok (Builtin.bitOr b17 v21)).bind fun word_22 => Res.ok word_22
theorem wo_step {W : Nat} (h : W < 30) {i : Nat} {n acc : Int} (hi : i ≤ 1000) (hn : 0 ≤ n ∧ n < 2 ^ W) (ha : 0 ≤ acc ∧ acc < 2 ^ (i * (W + 1))) : woF W ((i : Int), n) acc = .ok (acc + n * 2 ^ (i * (W + 1))) := by
  unfold woF
  dsimp only
  have e : (i : Int) * ((W : Int) + 1) = ((i * (W + 1) : Nat) : Int) := by push_cast; rfl
  have hb : i * (W + 1) ≤ 1000 * 30 := Nat.mul_le_mul hi (by omega)
  have hw := p2_lt (show W ≤ 60 by omega)
  rw [need_ok (by unfold CMul; omega), Res.bind_ok, e, need_ok (by unfold CPow; omega), Res.bind_ok, Res.bind_ok, Int.toNat_natCast, bitOr_add ha.1 ha.2 hn.1]
theorem wo_loop {W : Nat} (h : W < 30) : ∀ (row : List Int) (i : Nat) (acc : Int), fit W row → i + row.length ≤ 1000 → 0 ≤ acc ∧ acc < 2 ^ (i * (W + 1)) → foldR (woF W) (enumF i row) acc = .ok (acc + 2 ^ (i * (W + 1)) * wordL W row)
  | [], i, acc, _, _, _ => by
    show Res.ok acc = _
    rw [show wordL W [] = 0 from rfl, Int.mul_zero, Int.add_zero]
  | n :: r, i, acc, f, hl, ha => by
    have hn := f n List.mem_cons_self
    rw [List.length_cons] at hl
    show (woF W ((i : Int), n) acc).bind _ = _
    have hlt : acc + n * 2 ^ (i * (W + 1)) < 2 ^ ((i + 1) * (W + 1)) := by
      have e1 : (2 : Int) ^ ((i + 1) * (W + 1)) = 2 ^ (i * (W + 1)) * 2 ^ (W + 1) := by rw [← Int.pow_add]; congr 1; rw [Nat.succ_mul]
      have e2 : (2 : Int) ^ (W + 1) = 2 ^ W * 2 := Int.pow_succ ..
      have hp := p2 (i * (W + 1))
      have h3 : (n + 1) * 2 ^ (i * (W + 1)) ≤ 2 ^ W * 2 ^ (i * (W + 1)) := Int.mul_le_mul_of_nonneg_right (by omega) (by omega)
      rw [Int.add_mul, Int.one_mul] at h3
      have h4 : (2 : Int) ^ W * 2 ^ (i * (W + 1)) ≤ 2 ^ (i * (W + 1)) * 2 ^ (W + 1) := by
        rw [e2, ← Int.mul_assoc, Int.mul_comm (2 ^ (i * (W + 1))) (2 ^ W)]
        have : (0 : Int) ≤ 2 ^ W * 2 ^ (i * (W + 1)) := Int.mul_nonneg (by have := p2 W; omega) (by omega)
        omega
      rw [e1]
      omega
    have hge : 0 ≤ acc + n * 2 ^ (i * (W + 1)) := by
      have : 0 ≤ n * 2 ^ (i * (W + 1)) := Int.mul_nonneg hn.1 (by have := p2 (i * (W + 1)); omega)
      omega
    rw [wo_step h (by omega) hn ha, Res.bind_ok, wo_loop h r (i + 1) _ (fun m hm => f m (List.mem_cons_of_mem _ hm)) (by omega) ⟨hge, hlt⟩]
    congr 1
    show _ = acc + 2 ^ (i * (W + 1)) * (wordL W r * 2 ^ (W + 1) + n)
    have e1 : (2 : Int) ^ ((i + 1) * (W + 1)) = 2 ^ (i * (W + 1)) * 2 ^ (W + 1) := by rw [← Int.pow_add]; congr 1; rw [Nat.succ_mul]
    rw [e1, Int.mul_add, Int.mul_comm n, Int.mul_comm (wordL W r), Int.mul_assoc]
    omega
theorem word_ok {W : Nat} (h : W < 30) {row : List Int} (f : fit W row) (hl : row.length ≤ 1000) : m_word_of ⟨row, ⟨(W : Int), ()⟩⟩ = .ok (wordL W row) := by
  show (foldR (woF W) (enumF 0 row) 0).bind _ = _
  rw [wo_loop h row 0 0 f (by omega) ⟨by decide, by rw [Nat.zero_mul]; decide⟩, Res.bind_ok, Nat.zero_mul, Int.pow_zero, Int.one_mul, Int.zero_add]
theorem small_pos {n c : Nat} (hn : n ≤ 1000000) (h1 : 1 ≤ c) (hc : c ≤ 60) : Builtin.Range.small (0 : Int) (n : Int) (c : Int) = true := by
  have e : Builtin.Range.rangeSize 0 (n : Int) (c : Int) ≤ n + 1 := by
    unfold Builtin.Range.rangeSize
    rw [if_pos (by omega)]
    split
    · have := Int.ediv_le_self (c : Int) (show (0 : Int) ≤ (n : Int) - 0 - 1 by omega)
      omega
    · omega
  have e0 : 0 ≤ Builtin.Range.rangeSize 0 (n : Int) (c : Int) := by rw [rangeSize_toNat]; omega
  unfold Builtin.Range.small
  simp only [Builtin.Range.rangeFitsLong, Bool.and_eq_true, Bool.or_eq_true, decide_eq_true_eq, beq_iff_eq]
  generalize Builtin.Range.rangeSize 0 (n : Int) (c : Int) = z at *
  refine ⟨by omega, .inr ?_⟩
  rw [if_pos (by omega), Bool.and_eq_true, decide_eq_true_eq, decide_eq_true_eq]
  omega
end K02

set_option Elab.async false
set_option linter.all false
set_option maxRecDepth 100000
/-! M2b: pack, the law's words, lanes. -/
namespace K02
open PySem PySem.Spec PyProof.Rows L2 NF
open NF.Data (toD)
def starts (W : Nat) (n : Nat) : List Int := irange3 0 (n : Int) (M W : Int)
theorem starts_len (W n : Nat) : (starts W n).length ≤ n := by
  have := irange3_len 0 (n : Int) (M W : Int)
  unfold starts
  omega
def chunk (W : Nat) (row : List Int) (s : Int) : List Int := cut row (some s) (some (s + (M W : Int)))
def wordsOf (W : Nat) (row : List Int) : List Int := (starts W row.length).map fun s => wordL W (chunk W row s)
theorem wordsOf_len (W : Nat) (row : List Int) : (wordsOf W row).length ≤ row.length := by
  unfold wordsOf
  rw [List.length_map]
  exact starts_len W _
theorem chunk_fit {W : Nat} {row : List Int} (f : fit W row) (s : Int) : fit W (chunk W row s) := fun n hn => f n (cut_sub hn)
theorem chunk_len (W : Nat) (row : List Int) (s : Int) : (chunk W row s).length ≤ row.length := cut_len _ _ _
theorem pack_ok {W : Nat} (h : W < 30) {row : List Int} (f : fit W row) (hl : row.length ≤ 1000) : m_pack ⟨row, ⟨(W : Int), ()⟩⟩ = .ok (wordsOf W row) := by
  have hs := sl_ge
  have hm := M_b W h
  have hst := starts_len W row.length
  unfold m_pack
  dsimp only
  rw [check_ok h f, Res.bind_ok, Res.bind_ok, lane_count_ok h]
  show (need _ _ : Res (List Int)).bind _ = _
  rw [need_ok ⟨by omega, by omega, small_pos (by omega) (by omega) hm.2⟩, Res.bind_ok]
  show need ((starts W row.length).length ≤ sizeLine) _ = _
  rw [need_ok (by omega)]
  exact filtQ_ok (g := fun s => wordL W (chunk W row s)) fun s _ => by
    show Res.quiet (m_word_of ⟨chunk W row s, ⟨(W : Int), ()⟩⟩) = _
    rw [word_ok h (chunk_fit f s) (Nat.le_trans (chunk_len W row s) hl)]
    rfl
theorem pack_err {W : Nat} (h : W < 30) {row : List Int} (f : ¬ fit W row) : m_pack ⟨row, ⟨(W : Int), ()⟩⟩ = unfitE := by
  unfold m_pack
  dsimp only
  rw [check_err h f]
  rfl
/-! the law's words -/
def lwF (base : Int) : Int → Int → Res Int := fun (a85 : Int) (b86 : (Int)) => ((need (CMul b86 base) (Res.ok (b86 * base))).bind fun v89 => Res.ok (v89 + a85)).bind fun word_90 => Res.ok word_90
theorem base_ok {W : Nat} (h : W < 30) : (2 : Int) * 2 ^ ((W : Int)).toNat = 2 ^ (W + 1) := by
  rw [Int.toNat_natCast, Int.pow_succ, Int.mul_comm]
theorem base_lt {W : Nat} (h : W < 30) : (1 : Int) ≤ 2 ^ (W + 1) ∧ (2 : Int) ^ (W + 1) < 2 ^ 61 := ⟨p2 _, p2_lt (by omega)⟩
theorem lw_word {W : Nat} (h : W < 30) (row : List Int) : foldR (lwF (2 ^ (W + 1))) row.reverse 0 = .ok (wordL W row) := by
  have hb := base_lt h
  rw [foldR_ok (g := fun a b => b * 2 ^ (W + 1) + a) (fun a _ b => by
    unfold lwF
    rw [need_ok (by unfold CMul; omega), Res.bind_ok, Res.bind_ok]), List.foldl_reverse]
  rfl
def lwG (W : Int) (row : List Int) (many base : Int) : Int → List Int → Res (List Int) := fun (a80 : Int) (b81 : ((List Int))) =>
  (foldR (lwF base) (List.reverse (cut row (some a80) (some (a80 + many)))) 0).bind fun b88 => (need (List.length b81 < sizeLine) (Res.ok (b81 ++ [b88]))).bind fun words_91 => Res.ok words_91
theorem lw_loop {W : Nat} (h : W < 30) (row : List Int) : ∀ (as : List Int) (ws : List Int), ws.length + as.length ≤ 1000 → foldR (lwG (W : Int) row (M W : Int) (2 ^ (W + 1))) as ws = .ok (ws ++ as.map fun s => wordL W (chunk W row s))
  | [], ws, _ => by rw [List.map_nil, List.append_nil]; rfl
  | a :: as, ws, hl => by
    have hs := sl_ge
    rw [List.length_cons] at hl
    show (lwG (W : Int) row (M W : Int) (2 ^ (W + 1)) a ws).bind _ = _
    unfold lwG
    rw [lw_word h, Res.bind_ok, need_ok (by omega), Res.bind_ok, Res.bind_ok]
    show foldR (lwG (W : Int) row (M W : Int) (2 ^ (W + 1))) as _ = _
    rw [lw_loop h row as _ (by rw [List.length_append, List.length_singleton]; omega), List.append_assoc]
    rfl
theorem lwords_ok {W : Nat} (h : W < 30) {row : List Int} (hl : row.length ≤ 1000) : m_law_words ⟨row, ⟨(W : Int), ()⟩⟩ = .ok (wordsOf W row) := by
  have hs := sl_ge
  have hm := M_b W h
  have hst := starts_len W row.length
  unfold m_law_words
  dsimp only
  rw [need_ok (by unfold CDiv; omega), Res.bind_ok, M_i, need_ok (by unfold CPow; omega), Res.bind_ok, base_ok h, need_ok (by simp), Res.bind_ok, need_ok ⟨by omega, by omega, small_pos (by omega) (by omega) hm.2⟩, Res.bind_ok]
  show (foldR (lwG (W : Int) row (M W : Int) (2 ^ (W + 1))) (starts W row.length) []).bind _ = _
  rw [lw_loop h row _ _ (by rw [List.length_nil]; omega), Res.bind_ok]
  rfl
/-! lanes -/
def laneL (W : Nat) (w : Int) (k : Nat) : Int := w / (2 ^ (W + 1)) ^ k % 2 ^ (W + 1)
def lanesL (W : Nat) (w : Int) : List Int := (List.range (M W)).map (laneL W w)
def lanesP (W : Nat) (w : Int) : List Int := (List.range (M W)).map fun k => laneL W w k % 2 ^ W
theorem lanesL_len (W : Nat) (w : Int) : (lanesL W w).length = M W := by unfold lanesL; simp
theorem lanesP_len (W : Nat) (w : Int) : (lanesP W w).length = M W := by unfold lanesP; simp
theorem pow_s (B : Int) (n : Nat) : B ^ (n + 1) = B * B ^ n := by rw [Int.pow_succ, Int.mul_comm]
def llF (base : Int) : Int → Int × List Int → Res (Int × List Int) := fun (a97 : Int) (b98 : (Int × (List Int))) => ((need (0 < base) (Res.ok (b98.1 % base))).bind fun v101 => need (List.length b98.2 < sizeLine) (Res.ok (b98.2 ++ [v101]))).bind fun lanes_102 => (need (CDivW b98.1 base) (Res.ok (b98.1 / base))).bind fun word_103 => Res.ok (word_103, lanes_102)
theorem divW {W : Nat} (h : W < 30) (x : Int) : CDivW x (2 ^ (W + 1)) := by
  have hb := base_lt h
  exact wide_div (b := 61) (by omega) (by omega) (by decide) (by decide)
theorem ll_loop {W : Nat} (h : W < 30) : ∀ (as : List Int) (w : Int) (ls : List Int), ls.length + as.length ≤ 1000 → foldR (llF (2 ^ (W + 1))) as (w, ls) = .ok (w / (2 ^ (W + 1)) ^ as.length, ls ++ (List.range as.length).map (laneL W w))
  | [], w, ls, _ => by
    show Res.ok (w, ls) = _
    rw [List.length_nil, Int.pow_zero, Int.ediv_one, List.range_zero, List.map_nil, List.append_nil]
  | a :: as, w, ls, hl => by
    have hs := sl_ge
    have hb := base_lt h
    rw [List.length_cons] at hl
    show (llF (2 ^ (W + 1)) a (w, ls)).bind _ = _
    unfold llF
    dsimp only
    rw [need_ok (by omega), Res.bind_ok, need_ok (by omega), Res.bind_ok, need_ok (divW h w), Res.bind_ok, Res.bind_ok]
    show foldR (llF (2 ^ (W + 1))) as _ = _
    rw [ll_loop h as _ _ (by rw [List.length_append, List.length_singleton]; omega)]
    congr 2
    · rw [Int.ediv_ediv_of_nonneg (by omega), List.length_cons, pow_s (2 ^ (W + 1)) as.length]
    · rw [List.append_assoc, List.length_cons, List.range_succ_eq_map, List.map_cons, List.map_map]
      congr 1
      show _ :: _ = _ :: _
      congr 1
      · show w % _ = w / (2 ^ (W + 1)) ^ 0 % _
        rw [Int.pow_zero, Int.ediv_one]
      · apply List.map_congr_left
        intro k _
        show w / 2 ^ (W + 1) / (2 ^ (W + 1)) ^ k % _ = w / (2 ^ (W + 1)) ^ (k + 1) % _
        rw [Int.ediv_ediv_of_nonneg (by omega), pow_s (2 ^ (W + 1)) k]
theorem llanes_ok {W : Nat} (h : W < 30) (w : Int) : m_law_lanes ⟨w, ⟨(W : Int), ()⟩⟩ = .ok (lanesL W w) := by
  have hs := sl_ge
  have hm := M_b W h
  unfold m_law_lanes
  dsimp only
  rw [need_ok (by unfold CPow; omega), Res.bind_ok, base_ok h, need_ok (by simp), Res.bind_ok, need_ok (wide_div (b := 61) (by omega) (by omega) (by decide) (by decide)), Res.bind_ok, M_i, need_ok (by unfold Rg62; omega), Res.bind_ok]
  show (foldR (llF (2 ^ (W + 1))) (irange 0 (M W : Int)) (w, [])).bind _ = _
  have e : (irange 0 (M W : Int)).length = M W := by rw [irange_len]; omega
  rw [ll_loop h _ _ _ (by rw [List.length_nil, e]; omega), Res.bind_ok, e]
  rfl
theorem lanes_ok {W : Nat} (h : W < 30) (w : Int) : m_lanes_of ⟨w, ⟨(W : Int), ()⟩⟩ = .ok (lanesP W w) := by
  have hs := sl_ge
  have hm := M_b W h
  have hb := base_lt h
  unfold m_lanes_of
  dsimp only
  rw [need_ok (by unfold CPow; omega), Res.bind_ok, Res.bind_ok, lane_count_ok h, Res.bind_ok, need_ok (by unfold Rg62; omega), Res.bind_ok, need_ok (by rw [irange_len]; omega), Int.toNat_natCast, Int.one_mul]
  rw [filtQ_ok (g := fun a : Int => w / 2 ^ (a * ((W : Int) + 1)).toNat % 2 ^ W) (fun a ha => ?_)]
  · rw [irange_nat, List.map_map]
    unfold lanesP
    congr 1
    apply List.map_congr_left
    intro k _
    show w / 2 ^ ((k : Int) * ((W : Int) + 1)).toNat % 2 ^ W = laneL W w k % 2 ^ W
    unfold laneL
    have e : ((k : Int) * ((W : Int) + 1)).toNat = (W + 1) * k := by
      rw [show (k : Int) * ((W : Int) + 1) = (((W + 1) * k : Nat) : Int) by push_cast; rw [Int.mul_comm], Int.toNat_natCast]
    rw [e, ← Int.pow_mul, Int.emod_emod_of_dvd _ ⟨2, Int.pow_succ ..⟩]
  · rw [irange_nat] at ha
    obtain ⟨k, hk, rfl⟩ := List.mem_map.mp ha
    have hk' := List.mem_range.mp hk
    have h0 : 0 ≤ (k : Int) * ((W : Int) + 1) := Int.mul_nonneg (by omega) (by omega)
    rw [need_ok (by unfold CMul; omega), Res.bind_ok, need_ok h0, Res.bind_ok, bitAnd_mask]
end K02

set_option Elab.async false
set_option linter.all false
set_option maxRecDepth 100000
/-! M2c: words are read back. -/
namespace K02
open PySem PySem.Spec PyProof.Rows L2 NF
open NF.Data (toD)
noncomputable instance (W : Nat) (row : List Int) : Decidable (fit W row) := Classical.propDecidable _
theorem lane_fit {W : Nat} : ∀ {row : List Int} (k : Nat), fit W row → 0 ≤ laneL W (wordL W row) k ∧ laneL W (wordL W row) k < 2 ^ W
  | [], k, _ => by
    have := p2 W
    show 0 ≤ (0 : Int) / _ % _ ∧ (0 : Int) / _ % _ < _
    rw [Int.zero_ediv, Int.zero_emod]
    omega
  | n :: r, k, f => by
    have hn := f n List.mem_cons_self
    have hw : (2 : Int) ^ W ≤ 2 ^ (W + 1) := p2_mono (Nat.le_succ W)
    have hp := p2 (W + 1)
    cases k with
    | zero =>
      have e : laneL W (wordL W (n :: r)) 0 = n := by
        show (wordL W r * 2 ^ (W + 1) + n) / (2 ^ (W + 1)) ^ 0 % 2 ^ (W + 1) = n
        rw [Int.pow_zero, Int.ediv_one, Int.add_comm, Int.add_mul_emod_self_right, Int.emod_eq_of_lt hn.1 (by omega)]
      rw [e]
      exact hn
    | succ k =>
      have e : laneL W (wordL W (n :: r)) (k + 1) = laneL W (wordL W r) k := by
        show (wordL W r * 2 ^ (W + 1) + n) / (2 ^ (W + 1)) ^ (k + 1) % 2 ^ (W + 1) = wordL W r / (2 ^ (W + 1)) ^ k % 2 ^ (W + 1)
        rw [pow_s (2 ^ (W + 1)) k, ← Int.ediv_ediv_of_nonneg (by omega), Int.add_comm, Int.add_mul_ediv_right _ _ (by omega), Int.ediv_eq_zero_of_lt hn.1 (by omega), Int.zero_add]
      rw [e]
      exact lane_fit k fun m hm => f m (List.mem_cons_of_mem _ hm)
theorem lanes_word {W : Nat} {row : List Int} (f : fit W row) : lanesP W (wordL W row) = lanesL W (wordL W row) := by
  unfold lanesP lanesL
  apply List.map_congr_left
  intro k _
  have h := lane_fit k f
  exact Int.emod_eq_of_lt h.1 h.2
theorem lanes_words {W : Nat} {row : List Int} (f : fit W row) : ∀ w ∈ wordsOf W row, lanesP W w = lanesL W w := fun w hw => by
  obtain ⟨s, _, rfl⟩ := List.mem_map.mp hw
  exact lanes_word (chunk_fit f s)
theorem flat_len {W : Nat} {g : Int → List Int} (h : ∀ w, (g w).length = M W) : ∀ ws : List Int, (ws.flatMap g).length = ws.length * M W
  | [] => by simp
  | w :: ws => by rw [List.flatMap_cons, List.length_append, h, flat_len h ws, List.length_cons, Nat.succ_mul, Nat.add_comm]
def unp (W : Nat) (words : List Int) (count : Nat) : List Int := (words.flatMap (lanesP W)).take count
theorem unp_fit (W : Nat) (words : List Int) (count : Nat) : fit W (unp W words count) := fun n hn => by
  have h := List.mem_of_mem_take hn
  obtain ⟨w, _, h⟩ := List.mem_flatMap.mp h
  obtain ⟨k, _, rfl⟩ := List.mem_map.mp h
  have := p2 W
  exact ⟨Int.emod_nonneg _ (by omega), Int.emod_lt_of_pos _ (by omega)⟩
theorem mul_le {a b c d : Nat} (h : a ≤ c) (h2 : b ≤ d) : a * b ≤ c * d := Nat.mul_le_mul h h2
theorem unpack_eq {W : Nat} (h : W < 30) {words : List Int} {count : Nat} (hl : words.length ≤ 200) (hc : count ≤ 1000) :
    m_unpack ⟨words, ⟨(W : Int), ⟨(count : Int), ()⟩⟩⟩ = if words.length * M W < count then .err "BadCells" [] else if wordsOf W (unp W words count) = words then .ok (unp W words count) else .err "BadCells" [] := by
  have hs := sl_ge
  have hm := M_b W h
  have hlm : words.length * M W ≤ 200 * 60 := mul_le hl hm.2
  unfold m_unpack
  dsimp only
  rw [lane_count_ok h, quiet_ok, Res.bind_ok, need_ok (by unfold CMul; omega), Res.bind_ok, Res.bind_ok, show (words.length : Int) * (M W : Int) = ((words.length * M W : Nat) : Int) by push_cast; rfl]
  by_cases hb : words.length * M W < count
  · rw [show decide (((words.length * M W : Nat) : Int) < (count : Int)) = true by simp; omega, if_pos rfl, if_pos hb]
  · rw [show decide (((words.length * M W : Nat) : Int) < (count : Int)) = false by simp; omega, if_neg (by decide), if_neg hb]
    have hu : (unp W words count).length ≤ 1000 := by unfold unp; rw [List.length_take]; omega
    rw [comp2R_ok (it := fun a40 => (Res.quiet (m_lanes_of (Ar.mk a40 (Ar.mk (W : Int) ())))).bind fun v44 => Res.ok v44) (g := lanesP W) (c := 60) (fun a _ => by rw [lanes_ok h]; rfl) (fun a _ => by rw [lanesP_len]; exact hm.2) (by omega), Res.bind_ok, cut_upto]
    rw [Res.bind_ok, show (words.flatMap (lanesP W)).take count = unp W words count from rfl, pack_ok h (unp_fit W words count) hu, Res.bind_ok, need_ok ⟨shp_ints _, shp_ints _⟩, Res.bind_ok, eqD_ints]
    by_cases he : wordsOf W (unp W words count) = words
    · rw [if_pos he, show (!decide (wordsOf W (unp W words count) = words)) = false by simpa using he, if_neg (by decide)]
    · rw [if_neg he, show (!decide (wordsOf W (unp W words count) = words)) = true by simpa using he, if_pos rfl]
/-! the law's reading back -/
def lrow (W : Nat) (words : List Int) (count : Nat) : List Int := (words.flatMap (lanesL W)).take count
theorem lrow_pos (W : Nat) (words : List Int) (count : Nat) : ∀ n ∈ lrow W words count, 0 ≤ n := fun n hn => by
  have h := List.mem_of_mem_take hn
  obtain ⟨w, _, h⟩ := List.mem_flatMap.mp h
  obtain ⟨k, _, rfl⟩ := List.mem_map.mp h
  have := p2 (W + 1)
  exact Int.emod_nonneg _ (by omega)
theorem foldl_app {α : Type} (g : α → List Int) : ∀ (as : List α) (b : List Int), as.foldl (fun b a => b ++ g a) b = b ++ as.flatMap g
  | [], b => by simp
  | a :: as, b => by rw [List.foldl_cons, foldl_app g as, List.flatMap_cons, List.append_assoc]
def lpF (W : Int) : Int → List Int → Res (List Int) := fun (a106 : Int) (b107 : ((List Int))) => ((m_law_lanes (Ar.mk a106 (Ar.mk W ()))).bind fun v110 => need (List.length b107 + List.length v110 ≤ sizeLine) (Res.ok (b107 ++ v110))).bind fun row_111 => Res.ok row_111
theorem lp_loop {W : Nat} (h : W < 30) : ∀ (ws : List Int) (b : List Int), b.length + ws.length * 60 ≤ sizeLine → foldR (lpF (W : Int)) ws b = .ok (b ++ ws.flatMap (lanesL W))
  | [], b, _ => by
    show Res.ok b = _
    simp
  | w :: ws, b, hl => by
    have hm := M_b W h
    rw [List.length_cons, Nat.succ_mul] at hl
    show (lpF (W : Int) w b).bind _ = _
    unfold lpF
    rw [llanes_ok h, Res.bind_ok, need_ok (by rw [lanesL_len]; omega), Res.bind_ok, Res.bind_ok]
    show foldR (lpF (W : Int)) ws _ = _
    rw [lp_loop h ws _ (by rw [List.length_append, lanesL_len]; omega), List.flatMap_cons, List.append_assoc]
theorem maxR_ok {xs : List Int} (h : xs ≠ []) : ∃ m, maxR xs = .ok m ∧ (∀ y ∈ xs, y ≤ m) ∧ m ∈ xs := by
  cases xs with
  | nil => exact absurd rfl h
  | cons x r =>
    have k : ∀ (r : List Int) (x : Int), x ≤ r.foldl max x ∧ (∀ y ∈ r, y ≤ r.foldl max x) ∧ (r.foldl max x = x ∨ r.foldl max x ∈ r) := by
      intro r
      induction r with
      | nil => exact fun x => ⟨Int.le_refl _, fun _ h => (List.not_mem_nil h).elim, .inl rfl⟩
      | cons y r ih =>
        intro x
        obtain ⟨h1, h2, h3⟩ := ih (max x y)
        rw [List.foldl_cons]
        refine ⟨by omega, fun z hz => ?_, ?_⟩
        · rcases List.mem_cons.mp hz with rfl | hz
          · omega
          · exact h2 z hz
        · rcases h3 with h3 | h3
          · by_cases hxy : x ≤ y
            · exact .inr (by rw [h3, show max x y = y by omega]; exact List.mem_cons_self)
            · exact .inl (by rw [h3]; omega)
          · exact .inr (List.mem_cons_of_mem _ h3)
    obtain ⟨h1, h2, h3⟩ := k r x
    refine ⟨_, rfl, fun y hy => ?_, ?_⟩
    · rcases List.mem_cons.mp hy with rfl | hy
      · exact h1
      · exact h2 y hy
    · rcases h3 with h3 | h3
      · rw [h3]; exact List.mem_cons_self
      · exact List.mem_cons_of_mem _ h3
theorem packed_eq {W : Nat} (h : W < 30) {words : List Int} {count : Nat} (hl : words.length ≤ 200) (hc : count ≤ 1000) :
    m_law_packed ⟨words, ⟨(W : Int), ⟨(count : Int), ()⟩⟩⟩ = .ok (if (lrow W words count).length < count ∨ ¬ fit W (lrow W words count) then [] else if wordsOf W (lrow W words count) = words then lrow W words count else []) := by
  have hs := sl_ge
  have hm := M_b W h
  have hn : (need (List.length ([] : List Int) ≤ sizeLine) (Res.ok ([] : List Int))) = .ok [] := need_ok (by simp)
  unfold m_law_packed
  dsimp only
  rw [hn, Res.bind_ok]
  show (foldR (lpF (W : Int)) words []).bind _ = _
  rw [lp_loop h words [] (by rw [List.length_nil]; omega), Res.bind_ok, List.nil_append, cut_upto]
  have e : (words.flatMap (lanesL W)).take count = lrow W words count := rfl
  rw [e]
  have hr : (lrow W words count).length ≤ 1000 := by unfold lrow; rw [List.length_take]; omega
  by_cases h1 : (lrow W words count).length < count
  · rw [if_pos (c := _ ∨ _) (.inl h1), show decide (((lrow W words count).length : Int) < (count : Int)) = true by simp; omega, if_pos rfl, Res.bind_ok, if_pos rfl]
  · rw [show decide (((lrow W words count).length : Int) < (count : Int)) = false by simp; omega, if_neg (by decide), need_ok (by simp; omega), Res.bind_ok, need_ok (by simp; omega), Res.bind_ok]
    obtain ⟨m, e1, e2, e3⟩ := maxR_ok (xs := lrow W words count ++ [0]) (by simp)
    rw [e1, Res.bind_ok, need_ok (by unfold CPow; omega), Res.bind_ok, Res.bind_ok, Int.toNat_natCast, Int.one_mul]
    have hp := p2 W
    by_cases h2 : fit W (lrow W words count)
    · have h3 : m < 2 ^ W := by
        rcases List.mem_append.mp e3 with z | z
        · exact (h2 m z).2
        · rw [List.mem_singleton.mp z]; omega
      rw [if_neg (c := _ ∨ _) (fun z => Or.elim z h1 fun z => z h2), show decide ((2 : Int) ^ W ≤ m) = false by simp; omega, if_neg (by decide), lwords_ok h hr, Res.bind_ok, need_ok ⟨shp_ints _, shp_ints _⟩, Res.bind_ok, eqD_ints]
      by_cases h4 : wordsOf W (lrow W words count) = words
      · rw [if_pos h4, show decide (wordsOf W (lrow W words count) = words) = true by simpa using h4, if_pos rfl]
      · rw [if_neg h4, show decide (wordsOf W (lrow W words count) = words) = false by simpa using h4, if_neg (by decide)]
    · have h3 : 2 ^ W ≤ m := by
        refine Decidable.byContradiction fun z => h2 fun n hn => ⟨lrow_pos W words count n hn, ?_⟩
        have := e2 n (List.mem_append_left _ hn)
        omega
      rw [if_pos (c := _ ∨ _) (.inr h2), show decide ((2 : Int) ^ W ≤ m) = true by simp; omega, if_pos rfl]
end K02

set_option Elab.async false
set_option linter.all false
set_option maxRecDepth 100000
/-! M2d: the law's checks of reading back, of what is below, of what does not fit. -/
namespace K02
open PySem PySem.Spec PyProof.Rows L2 NF
open NF.Data (toD)
theorem int_ok (x y : Int) : m_law_int ⟨toD x, ⟨y, ()⟩⟩ = .ok (decide (x = y)) := by
  unfold m_law_int
  dsimp only
  rw [isT_int_int, Res.bind_ok, if_pos rfl, isT_int_bool, Res.bind_ok, Res.bind_ok, if_pos (by decide), need_ok ⟨shp_intD _, shp_int _⟩, eqD_intD]
theorem ints_refl {xs : List Int} (h : xs.length ≤ 1000) : m_law_ints ⟨xs, ⟨xs, ()⟩⟩ = .ok true := by
  have hs := sl_ge
  unfold m_law_ints
  dsimp only
  rw [isT_list, Res.bind_ok, Res.bind_ok, if_neg (by decide), show (!decide ((xs.length : Int) = (xs.length : Int))) = false by simp, Res.bind_ok, if_neg (by decide), need_ok (by unfold Rg62; omega), Res.bind_ok, need_ok (by rw [irange_len]; omega)]
  rw [filtQ_ok (g := fun _ => true) (fun a ha => ?_), Res.bind_ok, List.map_const', all_true]
  rw [irange_nat] at ha
  obtain ⟨k, hk, rfl⟩ := List.mem_map.mp ha
  have hk' := List.mem_range.mp hk
  have g := List.getElem?_eq_getElem hk'
  rw [idx_nat g, Res.bind_ok, Res.bind_ok, Res.bind_ok, Res.bind_ok, Res.bind_ok, int_ok]
  simp
theorem unpack_ok {W : Nat} (h : W < 30) {words : List Int} {count : Nat} (hl : words.length ≤ 200) (hc : count ≤ 1000) (h1 : ¬ words.length * M W < count) (h2 : wordsOf W (unp W words count) = words) : m_unpack ⟨words, ⟨(W : Int), ⟨(count : Int), ()⟩⟩⟩ = .ok (unp W words count) := by
  rw [unpack_eq h hl hc, if_neg h1, if_pos h2]
theorem flatMap_eq {f g : Int → List Int} : ∀ {ws : List Int}, (∀ w ∈ ws, f w = g w) → ws.flatMap f = ws.flatMap g
  | [], _ => rfl
  | w :: ws, h => by rw [List.flatMap_cons, List.flatMap_cons, h w List.mem_cons_self, flatMap_eq fun v hv => h v (List.mem_cons_of_mem _ hv)]
theorem tryR_ok {α : Type} {x : Str} {a : α} {f : List (Str × PyData) → Res α} : tryR x (.ok a) f = .ok a := rfl
theorem tryR_err {α : Type} {x : Str} {f : List (Str × PyData) → Res α} {fs : List (Str × PyData)} (h : (fs.all fun p => flatD p.2) = true) : tryR x (.err x fs) f = f fs := by
  show (if x = x then need _ (f fs) else .bad) = _
  rw [if_pos rfl, need_ok h]
theorem nil_need : (need (List.length ([] : List Int) ≤ sizeLine) (Res.ok ([] : List Int))) = .ok [] := need_ok (by simp)
/-- the law's due -/
theorem due_ok {W : Nat} {words : List Int} {count : Nat} (h1 : ¬ words.length * M W < count) (h2 : wordsOf W (unp W words count) = words) : lrow W words count = unp W words count ∧ (lrow W words count).length = count := by
  have e : words.flatMap (lanesL W) = words.flatMap (lanesP W) := flatMap_eq fun w hw => by
    rw [← h2] at hw
    exact (lanes_words (unp_fit W words count) w hw).symm
  have e2 : lrow W words count = unp W words count := by unfold lrow unp; rw [e]
  refine ⟨e2, ?_⟩
  unfold lrow
  rw [List.length_take, flat_len (lanesL_len W)]
  omega
theorem read_ok {W : Nat} (h : W < 30) {words : List Int} {count : Nat} (hl : words.length ≤ 200) (hc : count ≤ 1000) (hn : 1 ≤ count ∨ words ≠ []) : m_law_read ⟨words, ⟨(W : Int), ⟨(count : Int), ()⟩⟩⟩ = .ok true := by
  have hs := sl_ge
  by_cases hb : ¬ words.length * M W < count ∧ wordsOf W (unp W words count) = words
  · obtain ⟨h1, h2⟩ := hb
    obtain ⟨e1, e2⟩ := due_ok h1 h2
    have hu : unp W words count ≠ [] := fun z => by
      rcases hn with hn | hn
      · rw [← e1] at z; rw [z] at e2; simp at e2; omega
      · rw [z] at h2
        have := wordsOf_len W []
        exact hn (h2.symm.trans (List.eq_nil_of_length_eq_zero (Nat.le_zero.mp this)))
    have hul : (unp W words count).length ≤ 1000 := by rw [← e1, e2]; exact hc
    have ed : m_law_packed ⟨words, ⟨(W : Int), ⟨(count : Int), ()⟩⟩⟩ = .ok (unp W words count) := by
      rw [packed_eq h hl hc, if_neg (c := _ ∨ _) (fun z => Or.elim z (fun z => by omega) fun z => z (by rw [e1]; exact unp_fit _ _ _)), e1, if_pos h2]
    unfold m_law_read
    dsimp only
    rw [ed, Res.bind_ok, unpack_ok h hl hc h1 h2, Res.bind_ok, tryR_ok]
    show ((_ : Res Bool).bind _ : Res Bool) = _
    rw [nil_need, Res.bind_ok, need_ok ⟨shp_ints _, shp_ints _⟩, Res.bind_ok, eqD_ints, show decide (unp W words count = []) = false by simpa using hu, if_neg (by decide), ints_refl hul, Res.bind_ok, Res.bind_ok, if_neg (by decide), need_ok ⟨shp_ints _, shp_ints _⟩, eqD_refl, Res.bind_ok, if_neg (by decide), need_ok (by omega), Res.bind_ok, quiet_ok, Res.bind_ok, Res.bind_ok, ints_refl hul]
  · have eu : m_unpack ⟨words, ⟨(W : Int), ⟨(count : Int), ()⟩⟩⟩ = .err "BadCells" [] := by
      rw [unpack_eq h hl hc]
      by_cases h1 : words.length * M W < count
      · rw [if_pos h1]
      · rw [if_neg h1, if_neg (fun z => hb ⟨h1, z⟩)]
    have ed : m_law_packed ⟨words, ⟨(W : Int), ⟨(count : Int), ()⟩⟩⟩ = .ok [] := by
      rw [packed_eq h hl hc]
      by_cases h3 : (lrow W words count).length < count ∨ ¬ fit W (lrow W words count)
      · rw [if_pos h3]
      · rw [if_neg h3]
        by_cases h4 : wordsOf W (lrow W words count) = words
        · refine (hb ⟨fun z => h3 (.inl ?_), ?_⟩).elim
          · unfold lrow
            rw [List.length_take, flat_len (lanesL_len W)]
            omega
          · have f : fit W (lrow W words count) := Decidable.byContradiction fun z => h3 (.inr z)
            have e : unp W words count = lrow W words count := by
              have ef : words.flatMap (lanesP W) = words.flatMap (lanesL W) := flatMap_eq fun w hw => by
                rw [← h4] at hw
                exact lanes_words f w hw
              unfold unp lrow
              rw [ef]
            rw [e, h4]
        · rw [if_neg h4]
    unfold m_law_read
    dsimp only
    rw [ed, Res.bind_ok, eu, Res.bind_err, tryR_err rfl]
    show goOn ((Res.bind _ _ : Res Bool).bind _) _ = _
    rw [if_pos rfl, Res.bind_ok, if_pos (by decide), need_ok ⟨shp_ints _, shp_ints _⟩, Res.bind_ok, eqD_refl, if_pos rfl, nil_need, Res.bind_ok, need_ok ⟨shp_ints _, shp_ints _⟩, eqD_refl]
    rfl
theorem below_ok {W : Nat} (h : W < 30) {w : Int} (e : lanesP W w = lanesL W w) (bound : Int) : m_law_below ⟨w, ⟨(W : Int), ⟨bound, ()⟩⟩⟩ = .ok true := by
  have hs := sl_ge
  have hm := M_b W h
  have hl : (lanesL W w).length ≤ sizeLine := by rw [lanesL_len]; omega
  have eb : m_lanes_below ⟨w, ⟨(W : Int), ⟨bound, ()⟩⟩⟩ = .ok ⟨(lanesL W w).map fun l => decide (l < bound)⟩ := by
    unfold m_lanes_below
    dsimp only
    rw [lanes_ok h, Res.bind_ok, Res.bind_ok, e, need_ok hl, filtQ_ok (g := fun l => decide (l < bound)) (fun _ _ => rfl)]
    rfl
  unfold m_law_below
  dsimp only
  rw [eb, Res.bind_ok, llanes_ok h, Res.bind_ok, Res.bind_ok, need_ok hl, filtQ_ok (g := fun l => decide (l < bound)) (fun _ _ => rfl), Res.bind_ok, isT_tuple, Res.bind_ok, Res.bind_ok, if_neg (by decide)]
  show ((need (shp ((lanesL W w).map fun l => decide (l < bound)) = true ∧ _) (Res.ok (!eqD ((lanesL W w).map fun l => decide (l < bound)) ((lanesL W w).map fun l => decide (l < bound))))).bind _ : Res Bool) = _
  rw [need_ok ⟨shp_bools _, shp_bools _⟩, eqD_bools, Res.bind_ok, if_neg (by decide)]
  show (need (((lanesL W w).map fun l => decide (l < bound)).length ≤ sizeLine) (filtR (fun _ => Res.quiet (Res.ok true)) (fun a270 : Bool => Res.quiet (isT "bool" (Ty.tyN a270))) ((lanesL W w).map fun l => decide (l < bound)))).bind _ = _
  rw [need_ok (by rw [List.length_map]; exact hl), filtQ_ok (g := fun _ => true) (fun a _ => isT_bool a), Res.bind_ok, List.map_const', all_true]
end K02

set_option Elab.async false
set_option linter.all false
set_option maxRecDepth 100000
/-! M2e: what does not fit, nothing, widths. -/
namespace K02
open PySem PySem.Spec PyProof.Rows L2 NF
open NF.Data (toD)
theorem xf_lanes : xfR [("chain", toD (PySem.Str.ofString "lanes"))] "chain" = .ok (toD (PySem.Str.ofString "lanes")) := by
  unfold xfR
  rw [show List.lookup ("chain" : Str) [(("chain" : Str), (toD (PySem.Str.ofString "lanes") : PyData))] = some (toD (PySem.Str.ofString "lanes")) from by rfl]
  exact need_ok rfl
theorem eq_lanes : eqD (toD (PySem.Str.ofString "lanes") : PyData) (PySem.Str.ofString "lanes") = true := by rfl
theorem shp_lanes : shp (toD (PySem.Str.ofString "lanes") : PyData) = true ∧ shp (PySem.Str.ofString "lanes") = true := ⟨by first | rfl | decide | decide +kernel, by first | rfl | decide | decide +kernel⟩
theorem unfit_ok {W : Nat} (h : W < 30) (h1 : 1 ≤ W) {row : List Int} (f : ¬ fit W row) : m_law_unfit ⟨row, ⟨(W : Int), ()⟩⟩ = .ok true := by
  unfold m_law_unfit
  dsimp only
  rw [if_neg (by simp; omega), pack_err h f]
  unfold unfitE
  rw [Res.bind_err, Res.bind_err, Res.bind_err, tryR_err rfl, if_pos rfl, Res.bind_ok, if_pos (by decide), xf_lanes, Res.bind_ok, need_ok shp_lanes, Res.bind_ok, eq_lanes, if_pos rfl, need_ok ⟨shp_ints _, shp_ints _⟩, eqD_refl]
  rfl
theorem unfit0_ok {row : List Int} (f : ¬ fit 29 row) : m_law_unfit ⟨row, ⟨0, ()⟩⟩ = .ok true := by
  have e : m_width_of ⟨row, ()⟩ = unfitE := by
    unfold m_width_of
    dsimp only
    rw [show m_check_fit ⟨row, ⟨(29 : Int), ()⟩⟩ = unfitE from check_err (W := 29) (by decide) f]
    rfl
  unfold m_law_unfit
  dsimp only
  rw [if_pos (by simp), e]
  unfold unfitE
  rw [Res.bind_err, Res.bind_err, Res.bind_err, tryR_err rfl, if_pos rfl, Res.bind_ok, if_pos (by decide), xf_lanes, Res.bind_ok, need_ok shp_lanes, Res.bind_ok, eq_lanes, if_pos rfl, need_ok ⟨shp_ints _, shp_ints _⟩, eqD_refl]
  rfl
theorem wordsOf_nil (W : Nat) : wordsOf W [] = [] := List.eq_nil_of_length_eq_zero (Nat.le_zero.mp (wordsOf_len W []))
theorem fit_nil (W : Nat) : fit W [] := fun _ h => (List.not_mem_nil h).elim
theorem nothing_ok {W : Nat} (h : W < 30) : m_law_nothing ⟨(W : Int), ()⟩ = .ok true := by
  have hs := sl_ge
  have e1 : m_pack ⟨[], ⟨(W : Int), ()⟩⟩ = .ok [] := by rw [pack_ok h (fit_nil W) (by simp), wordsOf_nil]
  have e2 : m_unpack ⟨[], ⟨(W : Int), ⟨0, ()⟩⟩⟩ = .ok [] := by
    have := unpack_ok h (words := []) (count := 0) (by simp) (by simp) (by simp) (by show wordsOf W [] = []; exact wordsOf_nil W)
    exact this
  have r1 : m_law_read ⟨[0], ⟨(W : Int), ⟨0, ()⟩⟩⟩ = .ok true := read_ok h (words := [0]) (count := 0) (by simp) (by simp) (.inr (by simp))
  have r2 : m_law_read ⟨[], ⟨(W : Int), ⟨1, ()⟩⟩⟩ = .ok true := read_ok h (words := []) (count := 1) (by simp) (by simp) (.inl (by simp))
  have r3 : m_law_read ⟨[0, 0], ⟨(W : Int), ⟨1, ()⟩⟩⟩ = .ok true := read_ok h (words := [0, 0]) (count := 1) (by simp) (by simp) (.inl (by simp))
  have i0 := ints_refl (xs := []) (by simp)
  unfold m_law_nothing
  dsimp only
  rw [nil_need, Res.bind_ok, Res.bind_ok, e1, quiet_ok, Res.bind_ok, Res.bind_ok, Res.bind_ok, Res.bind_ok, i0, Res.bind_ok, Res.bind_ok, if_neg (by decide), Res.bind_ok, Res.bind_ok, e2, quiet_ok, Res.bind_ok, Res.bind_ok, Res.bind_ok, i0, Res.bind_ok, Res.bind_ok, if_neg (by decide)]
  repeat first | rw [Res.bind_ok] | rw [need_ok (by first | (simp; done) | (simp; omega))]
  unfold foldM
  dsimp only
  rw [r1, Res.bind_ok, Res.bind_ok, if_neg (by decide), Res.bind_ok]
  unfold foldM
  dsimp only
  rw [r2, Res.bind_ok, Res.bind_ok, if_neg (by decide), Res.bind_ok]
  unfold foldM
  dsimp only
  rw [r3, Res.bind_ok, Res.bind_ok, if_neg (by decide), Res.bind_ok]
  rfl
/-! widths -/
def lstep (m : Int) (b a : Int) : Int := if (2 : Int) ^ a.toNat ≤ m then a + 1 else b
def lst (m : Int) (n : Nat) : Int := ((List.range n).map fun i : Nat => (1 : Int) + i).foldl (lstep m) 1
theorem lst_succ (m : Int) (n : Nat) : lst m (n + 1) = lstep m (lst m n) (1 + (n : Int)) := by
  unfold lst
  rw [List.range_succ, List.map_append, List.foldl_append]
  rfl
theorem lst_pos (m : Int) : ∀ n, 1 ≤ lst m n
  | 0 => by show (1 : Int) ≤ 1; omega
  | n + 1 => by
    rw [lst_succ]
    unfold lstep
    have := lst_pos m n
    split <;> omega
theorem lst_iff (m : Int) : ∀ (n j : Nat), 1 ≤ j → (lst m n ≤ j ↔ ∀ k : Nat, j ≤ k → k ≤ n → m < 2 ^ k)
  | 0, j, hj => by
    constructor
    · intro _ k h1 h2
      omega
    · intro _
      show (1 : Int) ≤ j
      omega
  | n + 1, j, hj => by
    rw [lst_succ]
    unfold lstep
    have e : (1 + (n : Int)).toNat = n + 1 := by omega
    rw [e]
    by_cases hm : (2 : Int) ^ (n + 1) ≤ m
    · rw [if_pos hm]
      constructor
      · intro h k h1 h2
        omega
      · intro h
        refine Decidable.byContradiction fun z => ?_
        have := h (n + 1) (by omega) (Nat.le_refl _)
        omega
    · rw [if_neg hm, lst_iff m n j hj]
      constructor
      · intro h k h1 h2
        by_cases hk : k ≤ n
        · exact h k h1 hk
        · have : k = n + 1 := by omega
          subst this
          omega
      · intro h k h1 h2
        exact h k h1 (by omega)
theorem width_ok {row : List Int} (f : fit 29 row) (hl : row.length ≤ 1000) : ∃ w, m_width_of ⟨row, ()⟩ = .ok w ∧ 1 ≤ w ∧ ∀ j : Nat, 1 ≤ j → (w ≤ j ↔ ∀ x ∈ row, x < 2 ^ j) := by
  have hs := sl_ge
  obtain ⟨w, e1, e2, e3⟩ := maxR_ok (xs := [1] ++ row.map fun x => ((Builtin.Int.intBits x : Nat) : Int)) (by simp)
  refine ⟨w, ?_, e2 1 (by simp), fun j hj => ?_⟩
  · unfold m_width_of
    dsimp only
    rw [show m_check_fit ⟨row, ⟨(29 : Int), ()⟩⟩ = .ok () from check_ok (W := 29) (by decide) f, Res.bind_ok, Res.bind_ok, need_ok (by simp; omega), Res.bind_ok, need_ok (by omega), filtQ_ok (g := fun x => ((Builtin.Int.intBits x : Nat) : Int)) (fun _ _ => rfl), Res.bind_ok, need_ok (by simp; omega), Res.bind_ok]
    exact e1
  · have key : ∀ x ∈ row, (((Builtin.Int.intBits x : Nat) : Int) ≤ j ↔ x < 2 ^ j) := fun x hx => by
      have hf := f x hx
      have := intBits_le_iff (m := j) (x := x)
      have e : ((2 : Int) ^ j) = ((2 ^ j : Nat) : Int) := by rw [Int.natCast_pow]; rfl
      rw [e]
      constructor
      · intro h
        have := this.mp (by omega)
        omega
      · intro h
        have := this.mpr (by omega)
        omega
    constructor
    · intro h x hx
      refine (key x hx).mp (Int.le_trans (e2 _ ?_) h)
      exact List.mem_append_right _ (List.mem_map.mpr ⟨x, hx, rfl⟩)
    · intro h
      rcases List.mem_append.mp e3 with z | z
      · rw [List.mem_singleton.mp z]; omega
      · obtain ⟨x, hx, rfl⟩ := List.mem_map.mp z
        exact (key x hx).mpr (h x hx)
theorem widths_ok {W : Nat} (h : W < 30) {row : List Int} (f : fit W row) (hn : row ≠ []) (hl : row.length ≤ 1000) : m_law_widths ⟨row, ⟨(W : Int), ()⟩⟩ = .ok true := by
  have hs := sl_ge
  have f29 : fit 29 row := fun x hx => ⟨(f x hx).1, Int.lt_of_lt_of_le (f x hx).2 (p2_mono (by omega))⟩
  obtain ⟨w, e1, e2, e3⟩ := width_ok f29 hl
  obtain ⟨w0, e4, e5, e6⟩ := width_ok (fit_nil 29) (by simp)
  have w01 : w0 = 1 := by
    have := (e6 1 (Nat.le_refl _)).mpr fun _ h => (List.not_mem_nil h).elim
    omega
  subst w01
  obtain ⟨m, m1, m2, m3⟩ := maxR_ok hn
  have hm := f29 m m3
  have el : w = lst m 29 := by
    have iff : ∀ j : Nat, 1 ≤ j → (w ≤ j ↔ lst m 29 ≤ j) := fun j hj => by
      rw [e3 j hj, lst_iff m 29 j hj]
      constructor
      · intro z k h1 h2
        exact Int.lt_of_lt_of_le (z m m3) (p2_mono h1)
      · intro z x hx
        have hx2 := m2 x hx
        by_cases hj2 : j ≤ 29
        · have := z j (Nat.le_refl _) hj2
          omega
        · have : (2 : Int) ^ 29 ≤ 2 ^ j := p2_mono (by omega)
          omega
    have l1 := lst_pos m 29
    have a := (iff (lst m 29).toNat (by omega)).mpr (by omega)
    have b := (iff w.toNat (by omega)).mp (by omega)
    omega
  unfold m_law_widths
  dsimp only
  rw [need_ok (by unfold Rg62; omega), Res.bind_ok]
  rw [foldR_ok (g := fun a b => lstep m b a) (fun a ha b => ?_)]
  · rw [Res.bind_ok, show (irange 1 30).foldl (fun b a => lstep m b a) 1 = lst m 29 from rfl, ← el, e1, quiet_ok, Res.bind_ok, Res.bind_ok, Res.bind_ok, int_ok, Res.bind_ok, show (!decide (w = w)) = false by simp, Res.bind_ok, if_neg (by decide), need_ok ⟨shp_ints _, shp_ints _⟩, eqD_refl, Res.bind_ok, if_neg (by decide), nil_need, Res.bind_ok, Res.bind_ok, e4, quiet_ok, Res.bind_ok, Res.bind_ok, Res.bind_ok, int_ok, Res.bind_ok, if_pos (by decide), lane_count_ok h, Res.bind_ok, Res.bind_ok, need_ok (by unfold CDiv; omega), Res.bind_ok, Res.bind_ok, Res.bind_ok, M_i, int_ok]
    simp
  · unfold irange at ha
    obtain ⟨k, hk, rfl⟩ := List.mem_map.mp ha
    have hk' := List.mem_range.mp hk
    rw [m1, Res.bind_ok, need_ok (by unfold CPow; omega), Res.bind_ok, Res.bind_ok, Int.one_mul]
    unfold lstep
    by_cases hq : (2 : Int) ^ (1 + (k : Int)).toNat ≤ m
    · rw [show decide ((2 : Int) ^ (1 + (k : Int)).toNat ≤ m) = true by simpa using hq, if_pos rfl, if_pos hq]
      rfl
    · rw [show decide ((2 : Int) ^ (1 + (k : Int)).toNat ≤ m) = false by simpa using hq, if_neg (by decide), if_neg hq]
      rfl
end K02

set_option Elab.async false
set_option linter.all false
set_option maxRecDepth 100000
/-! M2f: what the law draws. -/
namespace K02
open PySem PySem.Spec PyProof.Rows L2 NF
open NF.Data (toD)
theorem draw_ok (pool : List Int) {m : Int} (h0 : 0 < m) (h1 : m < 2 ^ 30) : ∃ d p, m_law_draw pool ⟨m, ()⟩ = .ok (d, p) ∧ 0 ≤ d ∧ d < m := by
  unfold m_law_draw
  dsimp only
  rw [nil_need, Res.bind_ok, need_ok ⟨shp_ints _, shp_ints _⟩, Res.bind_ok, eqD_ints]
  cases pool with
  | nil => exact ⟨0, [], rfl, Int.le_refl _, h0⟩
  | cons x r =>
    rw [show decide ((x :: r : List Int) = []) = false by simp, if_neg (by decide), idx0, Res.bind_ok, Res.bind_ok, need_ok h0, Res.bind_ok, Res.bind_ok, need_ok (by unfold CDiv; omega), Res.bind_ok, Res.bind_ok, setR0, Res.bind_ok, idx0, Res.bind_ok, Res.bind_ok]
    refine ⟨x % m, if decide (x / m = 0) = true then r else (x / m) :: r, ?_, Int.emod_nonneg _ (by omega), Int.emod_lt_of_pos _ h0⟩
    by_cases hx : x / m = 0
    · rw [show decide (x / m = 0) = true by simpa using hx, if_pos rfl, if_pos rfl, popAt0]
      rfl
    · rw [show decide (x / m = 0) = false by simpa using hx, if_neg (by decide), if_neg (by decide)]
      rfl
def ldF (size : Int) : Int → List Int × List Int → Res (List Int × List Int) := fun (a334 : Int) (b335 : ((List Int) × (List Int))) => (m_law_draw b335.1 (Ar.mk (4 : Int) ())).bind fun kind_338 => (if (decide (kind_338.1 = (2 : Int))) then ((need (List.length b335.2 < sizeLine) (Res.ok (b335.2 ++ [(size - (1 : Int))]))).bind fun row_372 => Res.ok (row_372, kind_338.2)) else ((if (decide (kind_338.1 = (3 : Int))) then ((need (List.length b335.2 < sizeLine) (Res.ok (b335.2 ++ [(0 : Int)]))).bind fun row_389 => Res.ok (row_389, kind_338.2)) else ((((((m_law_draw kind_338.2 (Ar.mk size ())).bind fun u397 => Res.ok ((u397.1 + a334), u397.2)).bind fun u398 => Res.ok (u398.1, u398.2)).bind fun u400 => (need (0 < size) (Res.ok (u400.1 % size))).bind fun v401 => Res.ok (v401, u400.2)).bind fun u402 => need (List.length b335.2 < sizeLine) (Res.ok (b335.2 ++ [u402.1], u402.2))).bind fun w403 => Res.ok (w403.1, w403.2))).bind fun b388 => Res.ok (b388.1, b388.2))).bind fun b371 => Res.ok (b371.2, b371.1)
theorem ld_step {size : Int} (h0 : 0 < size) (h1 : size < 2 ^ 30) (a : Int) (p row : List Int) (hl : row.length ≤ 1000) : ∃ x p', ldF size a (p, row) = .ok (p', row ++ [x]) ∧ 0 ≤ x ∧ x < size := by
  have hs := sl_ge
  obtain ⟨d, p1, e1, _, _⟩ := draw_ok p (m := 4) (by decide) (by decide)
  unfold ldF
  dsimp only
  rw [e1, Res.bind_ok]
  dsimp only
  by_cases k2 : d = 2
  · rw [if_pos (by simpa using k2), need_ok (by omega)]
    exact ⟨size - 1, p1, rfl, by omega, by omega⟩
  · rw [if_neg (by simpa using k2)]
    by_cases k3 : d = 3
    · rw [if_pos (by simpa using k3), need_ok (by omega)]
      exact ⟨0, p1, rfl, by omega, h0⟩
    · rw [if_neg (by simpa using k3)]
      obtain ⟨y, p2, e2, _, _⟩ := draw_ok p1 h0 h1
      rw [e2, Res.bind_ok, Res.bind_ok, Res.bind_ok, need_ok h0, Res.bind_ok, Res.bind_ok, need_ok (by omega)]
      exact ⟨(y + a) % size, p2, rfl, Int.emod_nonneg _ (by omega), Int.emod_lt_of_pos _ h0⟩
theorem ld_loop {size : Int} (h0 : 0 < size) (h1 : size < 2 ^ 30) : ∀ (as p row : List Int), row.length + as.length ≤ 1000 → (∀ n ∈ row, 0 ≤ n ∧ n < size) → ∃ row' p', foldR (ldF size) as (p, row) = .ok (p', row') ∧ row'.length = row.length + as.length ∧ ∀ n ∈ row', 0 ≤ n ∧ n < size
  | [], p, row, _, hr => ⟨row, p, rfl, by simp, hr⟩
  | a :: as, p, row, hl, hr => by
    rw [List.length_cons] at hl
    obtain ⟨x, p', e, hx⟩ := ld_step h0 h1 a p row (by omega)
    obtain ⟨row', p2, e2, h2, h3⟩ := ld_loop h0 h1 as p' (row ++ [x]) (by rw [List.length_append, List.length_singleton]; omega) fun n hn => by
      rcases List.mem_append.mp hn with hn | hn
      · exact hr n hn
      · rw [List.mem_singleton.mp hn]; exact hx
    refine ⟨row', p2, ?_, ?_, h3⟩
    · show (ldF size a (p, row)).bind _ = _
      rw [e, Res.bind_ok, e2]
    · rw [h2, List.length_append, List.length_singleton, List.length_cons]; omega
theorem drawn_ok (pool : List Int) {size : Int} (h0 : 0 < size) (h1 : size < 2 ^ 30) : ∃ row p, m_law_drawn pool ⟨size, ()⟩ = .ok (row, p) ∧ row ≠ [] ∧ row.length ≤ 40 ∧ ∀ n ∈ row, 0 ≤ n ∧ n < size := by
  obtain ⟨d, p1, e1, hd, hd2⟩ := draw_ok pool (m := 40) (by decide) (by decide)
  have m0 := Int.emod_nonneg (d + 4) (show (40 : Int) ≠ 0 by decide)
  have m1 := Int.emod_lt_of_pos (d + 4) (show (0 : Int) < 40 by decide)
  have el : (irange 0 (1 + (d + 4) % 40)).length = (1 + (d + 4) % 40).toNat := by rw [irange_len, Int.sub_zero]
  obtain ⟨row', p2, e2, h2, h3⟩ := ld_loop h0 h1 (irange 0 (1 + (d + 4) % 40)) p1 [] (by rw [el, List.length_nil]; omega) fun _ h => (List.not_mem_nil h).elim
  rw [el, List.length_nil] at h2
  refine ⟨row', p2, ?_, fun z => by rw [z] at h2; simp at h2; omega, by omega, h3⟩
  unfold m_law_drawn
  dsimp only
  rw [nil_need, Res.bind_ok, e1, Res.bind_ok, Res.bind_ok, Res.bind_ok, need_ok (by decide), Res.bind_ok, Res.bind_ok, Res.bind_ok, need_ok (by unfold Rg62; omega), Res.bind_ok]
  show (foldR (ldF size) (irange 0 (1 + (d + 4) % 40)) (p1, [])).bind _ = _
  rw [e2]
  rfl
theorem idx_lt {xs : List Int} {d : Int} (h0 : 0 ≤ d) (h1 : d < xs.length) : ∃ a, idx xs d = .ok a ∧ a ∈ xs := by
  obtain ⟨k, rfl⟩ := Int.eq_ofNat_of_zero_le h0
  have hk : k < xs.length := by omega
  exact ⟨xs[k], idx_nat (List.getElem?_eq_getElem hk), List.getElem_mem hk⟩
theorem idx3 {a b c d : Int} (h0 : 0 ≤ d) (h1 : d < 3) : ∃ x, idx [a, b, c] d = .ok x := (idx_lt (xs := [a, b, c]) h0 (by simpa using h1)).imp fun _ h => h.1
theorem near_ok (pool : List Int) {words : List Int} (hn : words ≠ []) (hl : words.length ≤ 60) : ∃ other p, m_law_near pool ⟨words, ()⟩ = .ok (other, p) ∧ other.length ≤ 200 := by
  have hs := sl_ge
  have hlen : 0 < words.length := List.length_pos_iff.mpr hn
  obtain ⟨kind, p1, e1, _, _⟩ := draw_ok pool (m := 6) (by decide) (by decide)
  obtain ⟨k, p2, e2, k0, k1⟩ := draw_ok p1 (m := (words.length : Int)) (by omega) (by omega)
  obtain ⟨w, ew, _⟩ := idx_lt k0 k1
  have c1 := fun lo hi => cut_len words lo hi
  unfold m_law_near
  dsimp only
  rw [e1, Res.bind_ok, e2, Res.bind_ok]
  dsimp only
  have three : ∀ (a : List Int) (x : Int) (b : List Int) (q : List Int), a.length ≤ 100 → b.length ≤ 100 → ((((need (List.length (x :: []) ≤ sizeLine) (Res.ok (x :: []))).bind fun v203 => need (List.length a + List.length v203 ≤ sizeLine) (Res.ok (a ++ v203))).bind fun v204 => need (List.length v204 + List.length b ≤ sizeLine) (Res.ok (v204 ++ b))).bind fun v205 => Res.ok (v205, q)) = .ok (a ++ [x] ++ b, q) := by
    intro a x b q ha hb
    rw [need_ok (by simp; omega), Res.bind_ok, need_ok (by simp; omega), Res.bind_ok, need_ok (by simp; omega), Res.bind_ok]
  have fin : ∀ (lo hi lo2 hi2 : Option Int) (x : Int), (cut words lo hi ++ [x] ++ cut words lo2 hi2).length ≤ 200 := by
    intro lo hi lo2 hi2 x
    have := c1 lo hi
    have := c1 lo2 hi2
    simp
    omega
  have bd : ∀ lo hi, (cut words lo hi).length ≤ 100 := fun lo hi => Nat.le_trans (c1 lo hi) (Nat.le_trans hl (by decide))
  by_cases h01 : kind = 0 ∨ kind = 1
  · have ec : (if decide (kind = 0) = true then Res.ok true else Res.ok (decide (kind = 1))) = Res.ok true := by
      rcases h01 with h | h
      · rw [if_pos (by simpa using h)]
      · subst h; rfl
    obtain ⟨t, p3, e3, t0, t1⟩ := draw_ok p2 (m := 60) (by decide) (by decide)
    rw [ec, Res.bind_ok, if_pos rfl, ew, Res.bind_ok, Res.bind_ok, e3, Res.bind_ok, need_ok (by unfold CPow; omega), Res.bind_ok, Res.bind_ok, Res.bind_ok, three _ _ _ _ (bd _ _) (bd _ _)]
    exact ⟨_, _, rfl, fin _ _ _ _ _⟩
  · have ec : (if decide (kind = 0) = true then Res.ok true else Res.ok (decide (kind = 1))) = Res.ok false := by
      rw [if_neg (by simp; exact fun z => h01 (.inl z)), show decide (kind = 1) = false by simp; exact fun z => h01 (.inr z)]
    rw [ec, Res.bind_ok, if_neg (by decide)]
    by_cases h5 : kind = 5
    · obtain ⟨t, p3, e3, t0, t1⟩ := draw_ok p2 (m := 70) (by decide) (by decide)
      obtain ⟨u, p4, e4, u0, u1⟩ := draw_ok p3 (m := 3) (by decide) (by decide)
      obtain ⟨y, ey⟩ := idx3 (a := w + 1 * 2 ^ (60 + t).toNat) (b := w - 1 * 2 ^ (60 + t).toNat) (c := -1 - w) u0 u1
      rw [if_pos (by simpa using h5), e3, Res.bind_ok, Res.bind_ok, need_ok (by unfold CPow; omega), Res.bind_ok, Res.bind_ok, ew, Res.bind_ok, need_ok (by simp; omega), Res.bind_ok, Res.bind_ok, e4, Res.bind_ok, ey, Res.bind_ok, Res.bind_ok, three _ _ _ _ (bd _ _) (bd _ _)]
      exact ⟨_, _, rfl, fin _ _ _ _ _⟩
    · rw [if_neg (by simpa using h5)]
      by_cases h2 : kind = 2
      · obtain ⟨t, p3, e3, t0, t1⟩ := draw_ok p2 (m := 2) (by decide) (by decide)
        obtain ⟨u, p4, e4, u0, u1⟩ := draw_ok p3 (m := 2) (by decide) (by decide)
        obtain ⟨y, ey, _⟩ := idx_lt (xs := [0, w]) t0 (by simpa using t1)
        rw [if_pos (by simpa using h2), ew, Res.bind_ok, Res.bind_ok, Res.bind_ok, need_ok (by simp; omega), Res.bind_ok, Res.bind_ok, e3, Res.bind_ok, ey, Res.bind_ok, Res.bind_ok, e4, Res.bind_ok, Res.bind_ok, three _ _ _ _ (bd _ _) (bd _ _)]
        exact ⟨_, _, rfl, fin _ _ _ _ _⟩
      · rw [if_neg (by simpa using h2)]
        have two : ∀ (a b q : List Int), a.length ≤ 100 → b.length ≤ 100 → ((need (List.length a + List.length b ≤ sizeLine) (Res.ok (a ++ b))).bind fun v224 => Res.ok (v224, q)) = .ok (a ++ b, q) := by
          intro a b q ha hb
          rw [need_ok (by omega), Res.bind_ok]
        have f2 : ∀ lo hi lo2 hi2, (cut words lo hi ++ cut words lo2 hi2).length ≤ 200 := by
          intro lo hi lo2 hi2
          have := c1 lo hi
          have := c1 lo2 hi2
          simp
          omega
        have ec2 : ∃ c, (if decide (kind = 3) = true then Res.ok (decide ((1 : Int) < (words.length : Int))) else Res.ok false) = Res.ok c := by split <;> exact ⟨_, rfl⟩
        obtain ⟨c, ec2⟩ := ec2
        rw [ec2, Res.bind_ok]
        cases c with
        | true =>
          rw [if_pos rfl, two _ _ _ (bd _ _) (bd _ _)]
          exact ⟨_, _, rfl, f2 _ _ _ _⟩
        | false =>
          rw [if_neg (by decide), two _ _ _ (bd _ _) (bd _ _)]
          exact ⟨_, _, rfl, f2 _ _ _ _⟩
/-! loops that find nothing wrong -/
theorem foldM_ok {α β δ : Type} {f : α → β → Res (Sum β δ)} {b : β} : ∀ {as : List α}, (∀ a ∈ as, f a b = .ok (.inl b)) → foldM f as b = .ok (.inl b)
  | [], _ => rfl
  | a :: as, h => by
    show (f a b).bind _ = _
    rw [h a List.mem_cons_self, Res.bind_ok]
    exact foldM_ok fun c hc => h c (List.mem_cons_of_mem _ hc)
theorem bounds_ok (pool : List Int) {W : Nat} (h : W < 30) {words row : List Int} (hn : row ≠ []) (hl : row.length ≤ 1000) (hw : ∀ w ∈ words, lanesP W w = lanesL W w) : ∃ p, m_law_bounds pool ⟨words, ⟨row, ⟨(W : Int), ()⟩⟩⟩ = .ok (true, p) := by
  have hs := sl_ge
  have hlen : 0 < row.length := List.length_pos_iff.mpr hn
  have hp := p2 W
  have hp2 : (2 : Int) ^ W ≤ 2 ^ 29 := p2_mono (by omega)
  obtain ⟨k, p1, e1, k0, k1⟩ := draw_ok pool (m := (row.length : Int)) (by omega) (by omega)
  obtain ⟨one, e2, _⟩ := idx_lt k0 k1
  obtain ⟨d, p3, e3, d0, d1⟩ := draw_ok p1 (m := 2 ^ W) (by omega) (by omega)
  have es : (1 : Int) * 2 ^ ((W : Int)).toNat = 2 ^ W := by rw [Int.toNat_natCast, Int.one_mul]
  unfold m_law_bounds
  dsimp only
  rw [need_ok (by unfold CPow; omega), Res.bind_ok, es, e1, Res.bind_ok, e2, Res.bind_ok, Res.bind_ok, e3, Res.bind_ok, Res.bind_ok, Res.bind_ok, Res.bind_ok, Res.bind_ok, Res.bind_ok]
  dsimp only
  rw [need_ok (p := ([0, 2 ^ W, one, one + 1, d] : List Int).length ≤ sizeLine) (by simp; omega), Res.bind_ok]
  dsimp only
  have fin : ∀ bs : List Int, (goOn (foldM (fun (a434 : Int) (b435 : Unit) => goOnM (foldM (fun (a438 : Int) (b439 : Unit) => ((m_law_below (Ar.mk a438 (Ar.mk (W : Int) (Ar.mk a434 ())))).bind fun v442 => Res.ok (!v442)).bind fun v443 => if v443 then ((Res.ok (false, p3)).bind fun d => Res.ok (Sum.inr d)) else (Res.ok (Sum.inl ()))) words ()) (fun b441 => Res.ok (Sum.inl ()))) bs ()) (fun b437 => Res.ok (true, p3)) : Res (Bool × List Int)) = .ok (true, p3) := by
    intro bs
    rw [foldM_ok (b := ()) fun a _ => ?_]
    · rfl
    · rw [foldM_ok (b := ()) fun w hw' => ?_]
      · rfl
      · rw [below_ok h (hw w hw'), Res.bind_ok, Res.bind_ok, if_neg (by decide)]
  by_cases h4 : (W : Int) < 4
  · rw [if_pos (by simpa using h4), need_ok (by unfold Rg62; omega), Res.bind_ok]
    have hp3 : (2 : Int) ^ W ≤ 2 ^ 4 := p2_mono (by omega)
    rw [need_ok (by rw [irange_len]; omega), filtQ_ok (f := fun a => Res.ok a) (g := id) (fun _ _ => rfl), Res.bind_ok, Res.bind_ok]
    exact ⟨p3, fin _⟩
  · rw [if_neg (by simpa using h4), Res.bind_ok]
    exact ⟨p3, fin _⟩
end K02

set_option Elab.async false
set_option linter.all false
set_option maxRecDepth 100000
/-! M2g: the law. -/
namespace K02
open PySem PySem.Spec PyProof.Rows L2 NF
open NF.Data (toD)
theorem digits_ok (ns : List Int) (hl : ns.length ≤ 63) : ∃ pool, m_law_digits ⟨⟨ns⟩, ()⟩ = .ok pool := by
  have hs := sl_ge
  unfold m_law_digits
  dsimp only
  rw [show cut ns none (some 63) = ns.take 63 from cut_upto ns 63, need_ok (by rw [List.length_take]; omega)]
  refine ⟨_, filtQ_ok (g := fun a57 : Int => (if a57 < 0 then -a57 else a57) % (10 : Int) ^ ((60 : Int)).toNat) fun a _ => ?_⟩
  rw [need_ok (by unfold CPow; decide), Res.bind_ok, need_ok (by decide)]
theorem three_ok (a : List Int) (x : Int) (b : List Int) (mx : Res Int) (hx : mx = .ok x) (ha : a.length ≤ 100) (hb : b.length ≤ 100) : ((((mx.bind fun v496 => Res.ok (v496 :: [])).bind fun v497 => need (List.length v497 ≤ sizeLine) (Res.ok v497)).bind fun v498 => need (List.length a + List.length v498 ≤ sizeLine) (Res.ok (a ++ v498))).bind fun v499 => need (List.length v499 + List.length b ≤ sizeLine) (Res.ok (v499 ++ b))) = .ok (a ++ [x] ++ b) := by
  have hs := sl_ge
  rw [hx, Res.bind_ok, Res.bind_ok, need_ok (by simp; omega), Res.bind_ok, need_ok (by simp; omega), Res.bind_ok, need_ok (by simp; omega)]
theorem not_fit {W : Nat} {a b : List Int} {x : Int} (h : x < 0 ∨ 2 ^ W ≤ x) : ¬ fit W (a ++ [x] ++ b) := fun f => by
  have := f x (by simp)
  omega
theorem math : ∀ ns : List Int, ns.length ≤ 63 → m_law ⟨⟨ns⟩, ()⟩ = .ok true := by
  intro ns hl
  have hs := sl_ge
  obtain ⟨pool, e0⟩ := digits_ok ns hl
  obtain ⟨d, p1, e1, d0, d1⟩ := draw_ok pool (m := 29) (by decide) (by decide)
  have m0 := Int.emod_nonneg (d + 2) (show (29 : Int) ≠ 0 by decide)
  have m1 := Int.emod_lt_of_pos (d + 2) (show (0 : Int) < 29 by decide)
  obtain ⟨W, hW⟩ := Int.eq_ofNat_of_zero_le (show 0 ≤ 1 + (d + 2) % 29 by omega)
  have h : W < 30 := by omega
  have h1 : 1 ≤ W := by omega
  have hp := p2 W
  have hp2 : (2 : Int) ^ W ≤ 2 ^ 29 := p2_mono (by omega)
  have es : (1 : Int) * 2 ^ ((W : Int)).toNat = 2 ^ W := by rw [Int.toNat_natCast, Int.one_mul]
  obtain ⟨row, p2', e2, rn, rl, rf⟩ := drawn_ok p1 (size := 2 ^ W) (by omega) (by omega)
  have f : fit W row := rf
  have f29 : fit 29 row := fun x hx => ⟨(f x hx).1, Int.lt_of_lt_of_le (f x hx).2 hp2⟩
  have hlen : 0 < row.length := List.length_pos_iff.mpr rn
  obtain ⟨a, p3, e3, a0, a1⟩ := draw_ok p2' (m := (row.length : Int) + 1) (by omega) (by omega)
  obtain ⟨o1, p4, e4, o0, _⟩ := draw_ok p3 (m := 2 ^ W) (by omega) (by omega)
  obtain ⟨o2, p5, e5, q0, q1⟩ := draw_ok p4 (m := 2) (by decide) (by decide)
  obtain ⟨over, e6, om⟩ := idx_lt (xs := [0, o1]) q0 (by simpa using q1)
  have ov : 0 ≤ over := by
    rcases List.mem_cons.mp om with z | z
    · omega
    · rw [List.mem_singleton.mp z]; exact o0
  obtain ⟨lw, p6, e7, _, _⟩ := draw_ok p5 (m := 2) (by decide) (by decide)
  have cl := fun lo hi => Nat.le_trans (cut_len row lo hi) (Nat.le_trans rl (by decide : 40 ≤ 100))
  have eif : ∀ (c : Bool) (x y : Int), (if c then Res.ok x else Res.ok y) = Res.ok (if c then x else y) := fun c x y => by cases c <;> rfl
  have x1 : (if decide (lw = 1) = true then -1 - over else 2 ^ W + over) < 0 ∨ 2 ^ W ≤ (if decide (lw = 1) = true then -1 - over else 2 ^ W + over) := by split <;> omega
  have x2 : (if decide (lw = 1) = true then -1 - over else 536870912 + over) < 0 ∨ 2 ^ 29 ≤ (if decide (lw = 1) = true then -1 - over else 536870912 + over) := by split <;> omega
  have wn : wordsOf W row ≠ [] := fun z => by
    have e : (wordsOf W row).length = (Builtin.Range.rangeSize 0 (row.length : Int) (M W : Int)).toNat := by unfold wordsOf starts irange3; simp
    have hm := M_b W h
    rw [z, List.length_nil] at e
    unfold Builtin.Range.rangeSize at e
    rw [if_pos (by omega), if_pos (by omega)] at e
    have := Int.ediv_nonneg (a := (row.length : Int) - 0 - 1) (b := (M W : Int)) (by omega) (by omega)
    omega
  obtain ⟨other, p7, e8, ol⟩ := near_ok p6 wn (Nat.le_trans (wordsOf_len W row) (Nat.le_trans rl (by decide)))
  · obtain ⟨cn, p8, e9, c0, c1⟩ := draw_ok p7 (m := (row.length : Int) + 2) (by omega) (by omega)
    obtain ⟨p9, e10⟩ := bounds_ok p8 h rn (by omega) (lanes_words f)
    have u1 := unfit_ok h h1 (not_fit (a := cut row none (some a)) (b := cut row (some a) none) x1)
    have u2 := unfit0_ok (not_fit (W := 29) (a := cut row none (some a)) (b := cut row (some a) none) x2)
    have wl : (wordsOf W row).length ≤ 40 := Nat.le_trans (wordsOf_len W row) rl
    unfold m_law
    dsimp only
    rw [e0, Res.bind_ok, e1, Res.bind_ok, Res.bind_ok, Res.bind_ok, need_ok (by decide), Res.bind_ok, Res.bind_ok, Res.bind_ok]
    dsimp only
    rw [hW, need_ok (by unfold CPow; omega), Res.bind_ok, es, e2, Res.bind_ok]
    dsimp only
    rw [e3, Res.bind_ok]
    dsimp only
    rw [e4, Res.bind_ok, Res.bind_ok, Res.bind_ok]
    dsimp only
    rw [need_ok (by simp; omega), Res.bind_ok]
    dsimp only
    rw [e5, Res.bind_ok]
    dsimp only
    rw [e6, Res.bind_ok, Res.bind_ok]
    dsimp only
    rw [e7, Res.bind_ok, Res.bind_ok]
    dsimp only
    rw [three_ok _ _ _ _ (eif _ _ _) (cl _ _) (cl _ _), Res.bind_ok, three_ok _ _ _ _ (eif _ _ _) (cl _ _) (cl _ _), Res.bind_ok]
    rw [u1, Res.bind_ok, Res.bind_ok, if_neg (by decide), u2, Res.bind_ok, Res.bind_ok, if_neg (by decide)]
    rw [lwords_ok h (by omega), Res.bind_ok, pack_ok h f (by omega), quiet_ok, Res.bind_ok, ints_refl (by omega), Res.bind_ok, Res.bind_ok, if_neg (by decide), need_ok ⟨shp_ints _, shp_ints _⟩, eqD_refl, Res.bind_ok, if_neg (by decide), need_ok (by omega), Res.bind_ok, Res.bind_ok, Res.bind_ok, ints_refl (by omega), Res.bind_ok, Res.bind_ok, if_neg (by decide), Res.bind_ok, widths_ok h f rn (by omega), Res.bind_ok, Res.bind_ok, if_neg (by decide), e8, Res.bind_ok]
    dsimp only
    rw [e9, Res.bind_ok, Res.bind_ok, Res.bind_ok]
    dsimp only
    rw [Res.bind_ok]
    dsimp only
    rw [need_ok (p := ([(row.length : Int), 1 + cn] : List Int).length ≤ sizeLine) (by simp; omega), Res.bind_ok, Res.bind_ok]
    dsimp only
    rw [foldM_ok (b := p8) fun x hx => ?_]
    · unfold goOn
      rw [Res.bind_ok]
      dsimp only
      rw [e10, Res.bind_ok]
      dsimp only
      rw [Res.bind_ok, if_neg (by simp), nothing_ok h, Res.bind_ok, Res.bind_ok, Res.bind_ok]
      dsimp only
      rw [if_neg (by simp), Res.bind_ok, if_pos rfl]
    · have hx' : ∃ c : Nat, x = (c : Int) ∧ 1 ≤ c ∧ c ≤ 1000 := by
        rcases List.mem_cons.mp hx with z | z
        · exact ⟨row.length, z, hlen, by omega⟩
        · rw [List.mem_singleton.mp z]
          exact ⟨(1 + cn).toNat, by omega, by omega, by omega⟩
      obtain ⟨c, rfl, k1, k2⟩ := hx'
      rw [need_ok (by simp; omega), Res.bind_ok, Res.bind_ok, foldM_ok (b := ()) fun ws hw => ?_]
      · rfl
      · have wsl : ws.length ≤ 200 := by
          rcases List.mem_cons.mp hw with z | z
          · rw [z]; omega
          · rw [List.mem_singleton.mp z]; exact ol
        rw [read_ok h wsl k2 (.inl k1), Res.bind_ok, Res.bind_ok, if_neg (by decide)]
end K02

set_option Elab.async false
set_option linter.all false
set_option maxRecDepth 100000
set_option maxHeartbeats 4000000
namespace K02
open PySem PySem.Spec PyProof.Rows L2 NF
open NF.Data (toD)
section
variable {P : Program} {w : World} {K : Fg} {mg : MG} {base : Heap}
/-! ### what the top has written -/
def cls_Unfit : List Stmt := match topS 2 with
  | .ClassDef (body := b) .. => b
  | _ => []
abbrev s_init_Unfit : Stmt := (cls_Unfit).getD 0 (.Pass ⟨0, 0, 0, 0⟩)
theorem sc_init_Unfit : FnScope ["self", "chain"] ["self", "chain"] (defScope s_init_Unfit) := ⟨rfl, rfl, rfl, by decide +kernel, rfl, by decide +kernel, by decide +kernel⟩
theorem all_mk {l : PySem.W.OpenLaw} {w : World} {K : Fg} {h : Heap} {mg : MG} {fa : Addr} (math : ∀ ns : List Int, ns.length ≤ 63 → m_law ⟨⟨ns⟩, ()⟩ = .ok true) (X : K.In h) (G : h.Ns mainGlobals mg) (hfa : mg "law" = some (.ref fa))
    {f0 : Addr} {od0 an0 : Option Addr} {sl0 : Array (Option Value)} {oc0 kV0 dc0 pm0 cd0 ct0 : Value}
    {f1 : Addr} {od1 an1 : Option Addr} {sl1 : Array (Option Value)} {oc1 kV1 dc1 pm1 cd1 ct1 : Value}
    {f2 : Addr} {od2 an2 : Option Addr} {sl2 : Array (Option Value)} {oc2 kV2 dc2 pm2 cd2 ct2 : Value}
    {f3 : Addr} {od3 an3 : Option Addr} {sl3 : Array (Option Value)} {oc3 kV3 dc3 pm3 cd3 ct3 : Value}
    {f4 : Addr} {od4 an4 : Option Addr} {sl4 : Array (Option Value)} {oc4 kV4 dc4 pm4 cd4 ct4 : Value}
    {f5 : Addr} {od5 an5 : Option Addr} {sl5 : Array (Option Value)} {oc5 kV5 dc5 pm5 cd5 ct5 : Value}
    {f6 : Addr} {od6 an6 : Option Addr} {sl6 : Array (Option Value)} {oc6 kV6 dc6 pm6 cd6 ct6 : Value}
    {f7 : Addr} {od7 an7 : Option Addr} {sl7 : Array (Option Value)} {oc7 kV7 dc7 pm7 cd7 ct7 : Value}
    {f8 : Addr} {od8 an8 : Option Addr} {sl8 : Array (Option Value)} {oc8 kV8 dc8 pm8 cd8 ct8 : Value}
    {f9 : Addr} {od9 an9 : Option Addr} {sl9 : Array (Option Value)} {oc9 kV9 dc9 pm9 cd9 ct9 : Value}
    {f10 : Addr} {od10 an10 : Option Addr} {sl10 : Array (Option Value)} {oc10 kV10 dc10 pm10 cd10 ct10 : Value}
    {f11 : Addr} {od11 an11 : Option Addr} {sl11 : Array (Option Value)} {oc11 kV11 dc11 pm11 cd11 ct11 : Value}
    {f12 : Addr} {od12 an12 : Option Addr} {sl12 : Array (Option Value)} {oc12 kV12 dc12 pm12 cd12 ct12 : Value}
    {f13 : Addr} {od13 an13 : Option Addr} {sl13 : Array (Option Value)} {oc13 kV13 dc13 pm13 cd13 ct13 : Value}
    {f14 : Addr} {od14 an14 : Option Addr} {sl14 : Array (Option Value)} {oc14 kV14 dc14 pm14 cd14 ct14 : Value}
    {f15 : Addr} {od15 an15 : Option Addr} {sl15 : Array (Option Value)} {oc15 kV15 dc15 pm15 cd15 ct15 : Value}
    {f16 : Addr} {od16 an16 : Option Addr} {sl16 : Array (Option Value)} {oc16 kV16 dc16 pm16 cd16 ct16 : Value}
    {f17 : Addr} {od17 an17 : Option Addr} {sl17 : Array (Option Value)} {oc17 kV17 dc17 pm17 cd17 ct17 : Value}
    {f18 : Addr} {od18 an18 : Option Addr} {sl18 : Array (Option Value)} {oc18 kV18 dc18 pm18 cd18 ct18 : Value}
    {f19 : Addr} {od19 an19 : Option Addr} {sl19 : Array (Option Value)} {oc19 kV19 dc19 pm19 cd19 ct19 : Value}
    {f20 : Addr} {od20 an20 : Option Addr} {sl20 : Array (Option Value)} {oc20 kV20 dc20 pm20 cd20 ct20 : Value}
    {f21 : Addr} {od21 an21 : Option Addr} {sl21 : Array (Option Value)} {oc21 kV21 dc21 pm21 cd21 ct21 : Value}
    {f22 : Addr} {od22 an22 : Option Addr} {sl22 : Array (Option Value)} {oc22 kV22 dc22 pm22 cd22 ct22 : Value}
    {f23 : Addr} {od23 an23 : Option Addr} {sl23 : Array (Option Value)} {oc23 kV23 dc23 pm23 cd23 ct23 : Value}
    {C_Unfit : Addr}
    {C_BadCells : Addr}
    {C_ColonnadeError : Addr}
    {tk_WORD_BITS : Tok}
    {nm_Unfit q_Unfit : Str} {N_Unfit : Addr} {bs_Unfit : List Value} {sn_Unfit : List Str} {sub_Unfit : List Value} {ab_Unfit : Bool} {col_Unfit : Option Bool} {dd_Unfit : Option Addr} {m0_Unfit m1_Unfit m2_Unfit m3_Unfit m5_Unfit : Option Value}
    {fI_Unfit : Addr} {odI_Unfit anI_Unfit : Option Addr} {slI_Unfit : Array (Option Value)} {ocI_Unfit kVI_Unfit dcI_Unfit pmI_Unfit cdI_Unfit ctI_Unfit : Value}
    {tk_GREATEST_WIDTH : Tok}
    (a0 : PySem.W.nsIn K mainGlobals "lane_count" = some (some (.ref f0)))
    (l0 : K.lookup f0 = some ⟨oc0, od0, .func (PySem.W.fnOf "lane_count" "lane_count" (defArgs s_lane_count) (defBody s_lane_count) (defScope s_lane_count) .none kV0 dc0 pm0 an0 cd0 ct0), sl0⟩)
    (c0 : PySem.W.codeIn K cd0 "lane_count" = true)
    (k0 : PySem.W.keepIn K (.ref f0) = true)
    (a1 : PySem.W.nsIn K mainGlobals "_word_of" = some (some (.ref f1)))
    (l1 : K.lookup f1 = some ⟨oc1, od1, .func (PySem.W.fnOf "_word_of" "_word_of" (defArgs s__word_of) (defBody s__word_of) (defScope s__word_of) .none kV1 dc1 pm1 an1 cd1 ct1), sl1⟩)
    (c1 : PySem.W.codeIn K cd1 "_word_of" = true)
    (k1 : PySem.W.keepIn K (.ref f1) = true)
    (a2 : PySem.W.nsIn K mainGlobals "_law_digits" = some (some (.ref f2)))
    (l2 : K.lookup f2 = some ⟨oc2, od2, .func (PySem.W.fnOf "_law_digits" "_law_digits" (defArgs s__law_digits) (defBody s__law_digits) (defScope s__law_digits) .none kV2 dc2 pm2 an2 cd2 ct2), sl2⟩)
    (c2 : PySem.W.codeIn K cd2 "_law_digits" = true)
    (k2 : PySem.W.keepIn K (.ref f2) = true)
    (a3 : PySem.W.nsIn K mainGlobals "_law_draw" = some (some (.ref f3)))
    (l3 : K.lookup f3 = some ⟨oc3, od3, .func (PySem.W.fnOf "_law_draw" "_law_draw" (defArgs s__law_draw) (defBody s__law_draw) (defScope s__law_draw) .none kV3 dc3 pm3 an3 cd3 ct3), sl3⟩)
    (c3 : PySem.W.codeIn K cd3 "_law_draw" = true)
    (k3 : PySem.W.keepIn K (.ref f3) = true)
    (a4 : PySem.W.nsIn K mainGlobals "_law_words" = some (some (.ref f4)))
    (l4 : K.lookup f4 = some ⟨oc4, od4, .func (PySem.W.fnOf "_law_words" "_law_words" (defArgs s__law_words) (defBody s__law_words) (defScope s__law_words) .none kV4 dc4 pm4 an4 cd4 ct4), sl4⟩)
    (c4 : PySem.W.codeIn K cd4 "_law_words" = true)
    (k4 : PySem.W.keepIn K (.ref f4) = true)
    (a5 : PySem.W.nsIn K mainGlobals "_law_lanes" = some (some (.ref f5)))
    (l5 : K.lookup f5 = some ⟨oc5, od5, .func (PySem.W.fnOf "_law_lanes" "_law_lanes" (defArgs s__law_lanes) (defBody s__law_lanes) (defScope s__law_lanes) .none kV5 dc5 pm5 an5 cd5 ct5), sl5⟩)
    (c5 : PySem.W.codeIn K cd5 "_law_lanes" = true)
    (k5 : PySem.W.keepIn K (.ref f5) = true)
    (a6 : PySem.W.nsIn K mainGlobals "_law_int" = some (some (.ref f6)))
    (l6 : K.lookup f6 = some ⟨oc6, od6, .func (PySem.W.fnOf "_law_int" "_law_int" (defArgs s__law_int) (defBody s__law_int) (defScope s__law_int) .none kV6 dc6 pm6 an6 cd6 ct6), sl6⟩)
    (c6 : PySem.W.codeIn K cd6 "_law_int" = true)
    (k6 : PySem.W.keepIn K (.ref f6) = true)
    (a7 : PySem.W.nsIn K mainGlobals "_lanes_of" = some (some (.ref f7)))
    (l7 : K.lookup f7 = some ⟨oc7, od7, .func (PySem.W.fnOf "_lanes_of" "_lanes_of" (defArgs s__lanes_of) (defBody s__lanes_of) (defScope s__lanes_of) .none kV7 dc7 pm7 an7 cd7 ct7), sl7⟩)
    (c7 : PySem.W.codeIn K cd7 "_lanes_of" = true)
    (k7 : PySem.W.keepIn K (.ref f7) = true)
    (a8 : PySem.W.nsIn K mainGlobals "_law_packed" = some (some (.ref f8)))
    (l8 : K.lookup f8 = some ⟨oc8, od8, .func (PySem.W.fnOf "_law_packed" "_law_packed" (defArgs s__law_packed) (defBody s__law_packed) (defScope s__law_packed) .none kV8 dc8 pm8 an8 cd8 ct8), sl8⟩)
    (c8 : PySem.W.codeIn K cd8 "_law_packed" = true)
    (k8 : PySem.W.keepIn K (.ref f8) = true)
    (a9 : PySem.W.nsIn K mainGlobals "_law_ints" = some (some (.ref f9)))
    (l9 : K.lookup f9 = some ⟨oc9, od9, .func (PySem.W.fnOf "_law_ints" "_law_ints" (defArgs s__law_ints) (defBody s__law_ints) (defScope s__law_ints) .none kV9 dc9 pm9 an9 cd9 ct9), sl9⟩)
    (c9 : PySem.W.codeIn K cd9 "_law_ints" = true)
    (k9 : PySem.W.keepIn K (.ref f9) = true)
    (a10 : PySem.W.nsIn K mainGlobals "_law_near" = some (some (.ref f10)))
    (l10 : K.lookup f10 = some ⟨oc10, od10, .func (PySem.W.fnOf "_law_near" "_law_near" (defArgs s__law_near) (defBody s__law_near) (defScope s__law_near) .none kV10 dc10 pm10 an10 cd10 ct10), sl10⟩)
    (c10 : PySem.W.codeIn K cd10 "_law_near" = true)
    (k10 : PySem.W.keepIn K (.ref f10) = true)
    (a11 : PySem.W.nsIn K mainGlobals "_law_drawn" = some (some (.ref f11)))
    (l11 : K.lookup f11 = some ⟨oc11, od11, .func (PySem.W.fnOf "_law_drawn" "_law_drawn" (defArgs s__law_drawn) (defBody s__law_drawn) (defScope s__law_drawn) .none kV11 dc11 pm11 an11 cd11 ct11), sl11⟩)
    (c11 : PySem.W.codeIn K cd11 "_law_drawn" = true)
    (k11 : PySem.W.keepIn K (.ref f11) = true)
    (a12 : PySem.W.nsIn K mainGlobals "_check_fit" = some (some (.ref f12)))
    (l12 : K.lookup f12 = some ⟨oc12, od12, .func (PySem.W.fnOf "_check_fit" "_check_fit" (defArgs s__check_fit) (defBody s__check_fit) (defScope s__check_fit) .none kV12 dc12 pm12 an12 cd12 ct12), sl12⟩)
    (c12 : PySem.W.codeIn K cd12 "_check_fit" = true)
    (k12 : PySem.W.keepIn K (.ref f12) = true)
    (a13 : PySem.W.nsIn K mainGlobals "lanes_below" = some (some (.ref f13)))
    (l13 : K.lookup f13 = some ⟨oc13, od13, .func (PySem.W.fnOf "lanes_below" "lanes_below" (defArgs s_lanes_below) (defBody s_lanes_below) (defScope s_lanes_below) .none kV13 dc13 pm13 an13 cd13 ct13), sl13⟩)
    (c13 : PySem.W.codeIn K cd13 "lanes_below" = true)
    (k13 : PySem.W.keepIn K (.ref f13) = true)
    (a14 : PySem.W.nsIn K mainGlobals "width_of" = some (some (.ref f14)))
    (l14 : K.lookup f14 = some ⟨oc14, od14, .func (PySem.W.fnOf "width_of" "width_of" (defArgs s_width_of) (defBody s_width_of) (defScope s_width_of) .none kV14 dc14 pm14 an14 cd14 ct14), sl14⟩)
    (c14 : PySem.W.codeIn K cd14 "width_of" = true)
    (k14 : PySem.W.keepIn K (.ref f14) = true)
    (a15 : PySem.W.nsIn K mainGlobals "pack" = some (some (.ref f15)))
    (l15 : K.lookup f15 = some ⟨oc15, od15, .func (PySem.W.fnOf "pack" "pack" (defArgs s_pack) (defBody s_pack) (defScope s_pack) .none kV15 dc15 pm15 an15 cd15 ct15), sl15⟩)
    (c15 : PySem.W.codeIn K cd15 "pack" = true)
    (k15 : PySem.W.keepIn K (.ref f15) = true)
    (a16 : PySem.W.nsIn K mainGlobals "_law_below" = some (some (.ref f16)))
    (l16 : K.lookup f16 = some ⟨oc16, od16, .func (PySem.W.fnOf "_law_below" "_law_below" (defArgs s__law_below) (defBody s__law_below) (defScope s__law_below) .none kV16 dc16 pm16 an16 cd16 ct16), sl16⟩)
    (c16 : PySem.W.codeIn K cd16 "_law_below" = true)
    (k16 : PySem.W.keepIn K (.ref f16) = true)
    (a17 : PySem.W.nsIn K mainGlobals "unpack" = some (some (.ref f17)))
    (l17 : K.lookup f17 = some ⟨oc17, od17, .func (PySem.W.fnOf "unpack" "unpack" (defArgs s_unpack) (defBody s_unpack) (defScope s_unpack) .none kV17 dc17 pm17 an17 cd17 ct17), sl17⟩)
    (c17 : PySem.W.codeIn K cd17 "unpack" = true)
    (k17 : PySem.W.keepIn K (.ref f17) = true)
    (a18 : PySem.W.nsIn K mainGlobals "_law_unfit" = some (some (.ref f18)))
    (l18 : K.lookup f18 = some ⟨oc18, od18, .func (PySem.W.fnOf "_law_unfit" "_law_unfit" (defArgs s__law_unfit) (defBody s__law_unfit) (defScope s__law_unfit) .none kV18 dc18 pm18 an18 cd18 ct18), sl18⟩)
    (c18 : PySem.W.codeIn K cd18 "_law_unfit" = true)
    (k18 : PySem.W.keepIn K (.ref f18) = true)
    (a19 : PySem.W.nsIn K mainGlobals "_law_widths" = some (some (.ref f19)))
    (l19 : K.lookup f19 = some ⟨oc19, od19, .func (PySem.W.fnOf "_law_widths" "_law_widths" (defArgs s__law_widths) (defBody s__law_widths) (defScope s__law_widths) .none kV19 dc19 pm19 an19 cd19 ct19), sl19⟩)
    (c19 : PySem.W.codeIn K cd19 "_law_widths" = true)
    (k19 : PySem.W.keepIn K (.ref f19) = true)
    (a20 : PySem.W.nsIn K mainGlobals "_law_bounds" = some (some (.ref f20)))
    (l20 : K.lookup f20 = some ⟨oc20, od20, .func (PySem.W.fnOf "_law_bounds" "_law_bounds" (defArgs s__law_bounds) (defBody s__law_bounds) (defScope s__law_bounds) .none kV20 dc20 pm20 an20 cd20 ct20), sl20⟩)
    (c20 : PySem.W.codeIn K cd20 "_law_bounds" = true)
    (k20 : PySem.W.keepIn K (.ref f20) = true)
    (a21 : PySem.W.nsIn K mainGlobals "_law_read" = some (some (.ref f21)))
    (l21 : K.lookup f21 = some ⟨oc21, od21, .func (PySem.W.fnOf "_law_read" "_law_read" (defArgs s__law_read) (defBody s__law_read) (defScope s__law_read) .none kV21 dc21 pm21 an21 cd21 ct21), sl21⟩)
    (c21 : PySem.W.codeIn K cd21 "_law_read" = true)
    (k21 : PySem.W.keepIn K (.ref f21) = true)
    (a22 : PySem.W.nsIn K mainGlobals "_law_nothing" = some (some (.ref f22)))
    (l22 : K.lookup f22 = some ⟨oc22, od22, .func (PySem.W.fnOf "_law_nothing" "_law_nothing" (defArgs s__law_nothing) (defBody s__law_nothing) (defScope s__law_nothing) .none kV22 dc22 pm22 an22 cd22 ct22), sl22⟩)
    (c22 : PySem.W.codeIn K cd22 "_law_nothing" = true)
    (k22 : PySem.W.keepIn K (.ref f22) = true)
    (a23 : PySem.W.nsIn K mainGlobals "law" = some (some (.ref f23)))
    (l23 : K.lookup f23 = some ⟨oc23, od23, .func (PySem.W.fnOf "law" "law" (defArgs s_law) (defBody s_law) (defScope s_law) .none kV23 dc23 pm23 an23 cd23 ct23), sl23⟩)
    (c23 : PySem.W.codeIn K cd23 "law" = true)
    (k23 : PySem.W.keepIn K (.ref f23) = true)
    (a_Unfit : PySem.W.nsIn K mainGlobals "Unfit" = some (some (.ref C_Unfit)))
    (a_BadCells : PySem.W.nsIn K mainGlobals "BadCells" = some (some (.ref C_BadCells)))
    (a_ColonnadeError : PySem.W.nsIn K mainGlobals "ColonnadeError" = some (some (.ref C_ColonnadeError)))
    (y_g_WORD_BITS : PySem.W.nsIn K mainGlobals "WORD_BITS" = some (some (.int 60 tk_WORD_BITS)))
    (y_enumerate : PySem.W.nsIn K mainGlobals "enumerate" = some none)
    (y_abs : PySem.W.nsIn K mainGlobals "abs" = some none)
    (y_int : PySem.W.nsIn K mainGlobals "int" = some none)
    (y_len : PySem.W.nsIn K mainGlobals "len" = some none)
    (y_range : PySem.W.nsIn K mainGlobals "range" = some none)
    (y_bool : PySem.W.nsIn K mainGlobals "bool" = some none)
    (y_isinstance : PySem.W.nsIn K mainGlobals "isinstance" = some none)
    (y_max : PySem.W.nsIn K mainGlobals "max" = some none)
    (y_all : PySem.W.nsIn K mainGlobals "all" = some none)
    (y_list : PySem.W.nsIn K mainGlobals "list" = some none)
    (eC_Unfit : PySem.W.subIn K (.ref C_Unfit) (.type "BaseException") = some true)
    (tC_Unfit : PySem.W.typeIn K (.ref C_Unfit) = some (.type "type"))
    (hC_Unfit : PySem.W.hasDictIn K C_Unfit = true)
    (xL_Unfit : K.lookup C_Unfit = some (excClassObj nm_Unfit q_Unfit C_Unfit N_Unfit bs_Unfit [.ref C_ColonnadeError, .type "ValueError", .type "Exception", .type "BaseException", .type "object"] true sn_Unfit sub_Unfit ab_Unfit col_Unfit dd_Unfit m0_Unfit m1_Unfit m2_Unfit m3_Unfit m5_Unfit "ValueError.__new__"))
    (sa_Unfit : PySem.W.findIn K (.ref C_Unfit) "__setattr__" = some (some (.builtin "object.__setattr__")))
    (kC_Unfit : PySem.W.keepIn K (.ref C_Unfit) = true)
    (nf_Unfit_chain : PySem.W.findIn K (.ref C_Unfit) "chain" = some none)
    (i_Unfit : PySem.W.findIn K (.ref C_Unfit) "__init__" = some (some (.ref fI_Unfit)))
    (t_Unfit : PySem.W.typeIn K (.ref fI_Unfit) = some (.type "function"))
    (lI_Unfit : K.lookup fI_Unfit = some ⟨ocI_Unfit, odI_Unfit, .func (PySem.W.fnOf "__init__" "Unfit.__init__" (defArgs s_init_Unfit) (defBody s_init_Unfit) (defScope s_init_Unfit) .none kVI_Unfit dcI_Unfit pmI_Unfit anI_Unfit cdI_Unfit ctI_Unfit), slI_Unfit⟩)
    (cI_Unfit : PySem.W.codeIn K cdI_Unfit "Unfit.__init__" = true)
    (kI_Unfit : PySem.W.keepIn K (.ref fI_Unfit) = true)
    (y_tuple : PySem.W.nsIn K mainGlobals "tuple" = some none)
    (y_g_GREATEST_WIDTH : PySem.W.nsIn K mainGlobals "GREATEST_WIDTH" = some (some (.int 29 tk_GREATEST_WIDTH)))
    (eC_BadCells : PySem.W.subIn K (.ref C_BadCells) (.type "BaseException") = some true)
    (tC_BadCells : PySem.W.typeIn K (.ref C_BadCells) = some (.type "type"))
    (kC_BadCells : PySem.W.keepIn K (.ref C_BadCells) = true)
    (q0_BadCells : PySem.W.excIn K C_BadCells [.type "ValueError", .type "Exception", .type "BaseException", .type "object"] "ValueError.__new__" = true)
    (ga_Unfit : PySem.W.findIn K (.ref C_Unfit) "__getattribute__" = some (some (.builtin "BaseException.__getattribute__")))
    (gg_Unfit : PySem.W.findIn K (.ref C_Unfit) "__getattr__" = some none)
    (cc_Unfit : PySem.W.findIn K (.ref C_Unfit) "__class__" = some (some (.builtin "object.__class__")))
    (cn : PySem.W.specialIn K (.builtin "object.__class__") "__get__" = some (some (.builtin "getset_descriptor.__get__")))
    (ct : PySem.W.takesIn K (.builtin "object.__class__") = some true)
    (mo_Unfit : PySem.W.mroIn K C_Unfit (.type "object") = some true)
    (k_Unfit_ColonnadeError : PySem.W.kitOne K (.ref C_Unfit) (.ref C_ColonnadeError) = some true)
    (k_Unfit_BadCells : PySem.W.kitOne K (.ref C_Unfit) (.ref C_BadCells) = some false)
    (sC_Unfit : PySem.W.subIn K (.ref C_Unfit) (.ref C_Unfit) = some true)
    (hC_BadCells : PySem.W.hasDictIn K C_BadCells = true)
    (ga_BadCells : PySem.W.findIn K (.ref C_BadCells) "__getattribute__" = some (some (.builtin "BaseException.__getattribute__")))
    (gg_BadCells : PySem.W.findIn K (.ref C_BadCells) "__getattr__" = some none)
    (cc_BadCells : PySem.W.findIn K (.ref C_BadCells) "__class__" = some (some (.builtin "object.__class__")))
    (mo_BadCells : PySem.W.mroIn K C_BadCells (.type "object") = some true)
    (k_BadCells_ColonnadeError : PySem.W.kitOne K (.ref C_BadCells) (.ref C_ColonnadeError) = some true)
    (k_BadCells_Unfit : PySem.W.kitOne K (.ref C_BadCells) (.ref C_Unfit) = some false)
    (sC_BadCells : PySem.W.subIn K (.ref C_BadCells) (.ref C_BadCells) = some true) :
    ∃ fd : FuncData, (∀ (s : Shared) (v : Value), BindsTo s fd ⟨[v], []⟩ [("script", v)]) ∧ ∀ base : Heap, K.In base → base.Ns mainGlobals mg → FnOk l.prog w K mg base CX0 8 fa fd ["script"] (spLaw K 63) := by
  have e := hfa.symm.trans (PySem.W.mg_of X G a23)
  cases e
  have m_Unfit := PySem.W.mg_of X G a_Unfit
  have m_BadCells := PySem.W.mg_of X G a_BadCells
  have m_ColonnadeError := PySem.W.mg_of X G a_ColonnadeError
  have g_WORD_BITS : GlobV mg "WORD_BITS" (.int 60) := ⟨_, PySem.W.mg_of X G y_g_WORD_BITS, ⟨_, rfl⟩⟩
  have z_enumerate := PySem.W.mg_none_of X G y_enumerate
  have z_abs := PySem.W.mg_none_of X G y_abs
  have z_int := PySem.W.mg_none_of X G y_int
  have z_len := PySem.W.mg_none_of X G y_len
  have z_range := PySem.W.mg_none_of X G y_range
  have z_bool := PySem.W.mg_none_of X G y_bool
  have z_isinstance := PySem.W.mg_none_of X G y_isinstance
  have z_max := PySem.W.mg_none_of X G y_max
  have z_all := PySem.W.mg_none_of X G y_all
  have z_list := PySem.W.mg_none_of X G y_list
  have O_Unfit : OexC K C_Unfit := ⟨⟨_, _, _, _, _, _, _, _, _, _, _, _, _, _, _, xL_Unfit, by first | rfl | decide +kernel⟩, sa_Unfit, eC_Unfit, tC_Unfit, kC_Unfit⟩
  have FI_Unfit := fun_mk (st := s_init_Unfit) lI_Unfit cI_Unfit kI_Unfit
  have R_Unfit : ∀ base, ErrAt l.prog w K mg base 1 "Unfit" "chain" := fun base => ⟨_, _, _, ["self", "chain"], m_Unfit, O_Unfit, i_Unfit, t_Unfit, def_O FI_Unfit sc_init_Unfit rfl O_Unfit nf_Unfit_chain (.inl rfl) (.inl rfl) (by decide) (by decide) (by decide) (by decide), FI_Unfit.binds (ps := ["self", "chain"]) fun _ _ _ _ _ _ us hl => match us, hl with | [_, _], _ => rfl⟩
  have z_tuple := PySem.W.mg_none_of X G y_tuple
  have g_GREATEST_WIDTH : GlobV mg "GREATEST_WIDTH" (.int 29) := ⟨_, PySem.W.mg_of X G y_g_GREATEST_WIDTH, ⟨_, rfl⟩⟩
  have R_BadCells : Err0 K mg "BadCells" := ⟨_, m_BadCells, q0_BadCells, kC_BadCells, eC_BadCells, tC_BadCells⟩
  have ec_Unfit : ExcC K C_Unfit := ⟨ga_Unfit, gg_Unfit, eC_Unfit, hC_Unfit, cc_Unfit, cn, ct, mo_Unfit⟩
  have xf_Unfit : XfC K C_Unfit := ⟨ga_Unfit, gg_Unfit, eC_Unfit, hC_Unfit⟩
  have ex_Unfit : PySem.W.exmOne K (.ref C_Unfit) (.ref C_Unfit) = some true := PySem.W.exm_ref eC_Unfit hC_Unfit tC_Unfit sC_Unfit
  have ec_BadCells : ExcC K C_BadCells := ⟨ga_BadCells, gg_BadCells, eC_BadCells, hC_BadCells, cc_BadCells, cn, ct, mo_BadCells⟩
  have ex_BadCells : PySem.W.exmOne K (.ref C_BadCells) (.ref C_BadCells) = some true := PySem.W.exm_ref eC_BadCells hC_BadCells tC_BadCells sC_BadCells
  have F0 := fun_mk (st := s_lane_count) l0 c0 k0
  have b0 := F0.binds (ps := ["width"]) fun _ _ _ _ _ _ us hl => match us, hl with | [_], _ => rfl
  have D_lane_count : ∀ base, DefAt l.prog w K mg base CX0 1 "lane_count" ["width"] (spP K mg m_lane_count) := fun base => ⟨_, _, ok_lane_count F0 (g_WORD_BITS := g_WORD_BITS), PySem.W.mg_of X G a0, k0, b0⟩
  have F1 := fun_mk (st := s__word_of) l1 c1 k1
  have b1 := F1.binds (ps := ["numbers", "width"]) fun _ _ _ _ _ _ us hl => match us, hl with | [_, _], _ => rfl
  have D__word_of : ∀ base, DefAt l.prog w K mg base CX0 1 "_word_of" ["numbers", "width"] (spP K mg m_word_of) := fun base => ⟨_, _, ok__word_of F1 (z_enumerate := z_enumerate), PySem.W.mg_of X G a1, k1, b1⟩
  have F2 := fun_mk (st := s__law_digits) l2 c2 k2
  have b2 := F2.binds (ps := ["script"]) fun _ _ _ _ _ _ us hl => match us, hl with | [_], _ => rfl
  have D__law_digits : ∀ base, DefAt l.prog w K mg base CX0 1 "_law_digits" ["script"] (spF K mg m_law_digits) := fun base => ⟨_, _, ok__law_digits F2 (z_abs := z_abs), PySem.W.mg_of X G a2, k2, b2⟩
  have F3 := fun_mk (st := s__law_draw) l3 c3 k3
  have b3 := F3.binds (ps := ["pool", "many"]) fun _ _ _ _ _ _ us hl => match us, hl with | [_, _], _ => rfl
  have D__law_draw : ∀ base, DefAt l.prog w K mg base CX0 1 "_law_draw" ["pool", "many"] (spI K mg m_law_draw) := fun base => ⟨_, _, ok__law_draw F3 (z_int := z_int), PySem.W.mg_of X G a3, k3, b3⟩
  have F4 := fun_mk (st := s__law_words) l4 c4 k4
  have b4 := F4.binds (ps := ["row", "width"]) fun _ _ _ _ _ _ us hl => match us, hl with | [_, _], _ => rfl
  have D__law_words : ∀ base, DefAt l.prog w K mg base CX0 1 "_law_words" ["row", "width"] (spF K mg m_law_words) := fun base => ⟨_, _, ok__law_words F4 (z_len := z_len) (z_range := z_range), PySem.W.mg_of X G a4, k4, b4⟩
  have F5 := fun_mk (st := s__law_lanes) l5 c5 k5
  have b5 := F5.binds (ps := ["word", "width"]) fun _ _ _ _ _ _ us hl => match us, hl with | [_, _], _ => rfl
  have D__law_lanes : ∀ base, DefAt l.prog w K mg base CX0 1 "_law_lanes" ["word", "width"] (spF K mg m_law_lanes) := fun base => ⟨_, _, ok__law_lanes F5 (z_int := z_int) (z_range := z_range), PySem.W.mg_of X G a5, k5, b5⟩
  have F6 := fun_mk (st := s__law_int) l6 c6 k6
  have b6 := F6.binds (ps := ["told", "due"]) fun _ _ _ _ _ _ us hl => match us, hl with | [_, _], _ => rfl
  have D__law_int : ∀ base, DefAt l.prog w K mg base CX0 1 "_law_int" ["told", "due"] (spP K mg m_law_int) := fun base => ⟨_, _, ok__law_int F6 (z_bool := z_bool) (z_int := z_int) (z_isinstance := z_isinstance), PySem.W.mg_of X G a6, k6, b6⟩
  have F7 := fun_mk (st := s__lanes_of) l7 c7 k7
  have b7 := F7.binds (ps := ["word", "width"]) fun _ _ _ _ _ _ us hl => match us, hl with | [_, _], _ => rfl
  have D__lanes_of : ∀ base, DefAt l.prog w K mg base CX0 2 "_lanes_of" ["word", "width"] (spF K mg m_lanes_of) := fun base => ⟨_, _, ok__lanes_of F7 (D_lane_count := D_lane_count base) (z_range := z_range), PySem.W.mg_of X G a7, k7, b7⟩
  have F8 := fun_mk (st := s__law_packed) l8 c8 k8
  have b8 := F8.binds (ps := ["words", "width", "count"]) fun _ _ _ _ _ _ us hl => match us, hl with | [_, _, _], _ => rfl
  have D__law_packed : ∀ base, DefAt l.prog w K mg base CX0 2 "_law_packed" ["words", "width", "count"] (spP K mg m_law_packed) := fun base => ⟨_, _, ok__law_packed F8 (D__law_lanes := D__law_lanes base) (D__law_words := D__law_words base) (z_len := z_len) (z_max := z_max), PySem.W.mg_of X G a8, k8, b8⟩
  have F9 := fun_mk (st := s__law_ints) l9 c9 k9
  have b9 := F9.binds (ps := ["told", "due"]) fun _ _ _ _ _ _ us hl => match us, hl with | [_, _], _ => rfl
  have D__law_ints : ∀ base, DefAt l.prog w K mg base CX0 2 "_law_ints" ["told", "due"] (spP K mg m_law_ints) := fun base => ⟨_, _, ok__law_ints F9 (D__law_int := D__law_int base) (z_all := z_all) (z_isinstance := z_isinstance) (z_len := z_len) (z_list := z_list) (z_range := z_range), PySem.W.mg_of X G a9, k9, b9⟩
  have F10 := fun_mk (st := s__law_near) l10 c10 k10
  have b10 := F10.binds (ps := ["pool", "words"]) fun _ _ _ _ _ _ us hl => match us, hl with | [_, _], _ => rfl
  have D__law_near : ∀ base, DefAt l.prog w K mg base CX0 2 "_law_near" ["pool", "words"] (spI K mg m_law_near) := fun base => ⟨_, _, ok__law_near F10 (D__law_draw := D__law_draw base) (z_len := z_len), PySem.W.mg_of X G a10, k10, b10⟩
  have F11 := fun_mk (st := s__law_drawn) l11 c11 k11
  have b11 := F11.binds (ps := ["pool", "size"]) fun _ _ _ _ _ _ us hl => match us, hl with | [_, _], _ => rfl
  have D__law_drawn : ∀ base, DefAt l.prog w K mg base CX0 2 "_law_drawn" ["pool", "size"] (spI K mg m_law_drawn) := fun base => ⟨_, _, ok__law_drawn F11 (D__law_draw := D__law_draw base) (z_int := z_int) (z_range := z_range), PySem.W.mg_of X G a11, k11, b11⟩
  have F12 := fun_mk (st := s__check_fit) l12 c12 k12
  have b12 := F12.binds (ps := ["numbers", "width"]) fun _ _ _ _ _ _ us hl => match us, hl with | [_, _], _ => rfl
  have D__check_fit : ∀ base, DefAt l.prog w K mg base (L2N.CX l.prog w) 3 "_check_fit" ["numbers", "width"] (spX K mg m_check_fit) := fun base => ⟨_, _, ok__check_fit F12 (R_Unfit := R_Unfit base), PySem.W.mg_of X G a12, k12, b12⟩
  have F13 := fun_mk (st := s_lanes_below) l13 c13 k13
  have b13 := F13.binds (ps := ["word", "width", "bound"]) fun _ _ _ _ _ _ us hl => match us, hl with | [_, _, _], _ => rfl
  have D_lanes_below : ∀ base, DefAt l.prog w K mg base CX0 3 "lanes_below" ["word", "width", "bound"] (spP K mg m_lanes_below) := fun base => ⟨_, _, ok_lanes_below F13 (D__lanes_of := D__lanes_of base) (z_tuple := z_tuple), PySem.W.mg_of X G a13, k13, b13⟩
  have F14 := fun_mk (st := s_width_of) l14 c14 k14
  have b14 := F14.binds (ps := ["numbers"]) fun _ _ _ _ _ _ us hl => match us, hl with | [_], _ => rfl
  have D_width_of : ∀ base, DefAt l.prog w K mg base (L2N.CX l.prog w) 4 "width_of" ["numbers"] (spX K mg m_width_of) := fun base => ⟨_, _, ok_width_of F14 (g_GREATEST_WIDTH := g_GREATEST_WIDTH) (D__check_fit := D__check_fit base) (z_max := z_max), PySem.W.mg_of X G a14, k14, b14⟩
  have F15 := fun_mk (st := s_pack) l15 c15 k15
  have b15 := F15.binds (ps := ["numbers", "width"]) fun _ _ _ _ _ _ us hl => match us, hl with | [_, _], _ => rfl
  have D_pack : ∀ base, DefAt l.prog w K mg base (L2N.CX l.prog w) 4 "pack" ["numbers", "width"] (spXF K mg m_pack) := fun base => ⟨_, _, ok_pack F15 (D__check_fit := D__check_fit base) (D_lane_count := D_lane_count base) (D__word_of := D__word_of base) (z_len := z_len) (z_range := z_range), PySem.W.mg_of X G a15, k15, b15⟩
  have F16 := fun_mk (st := s__law_below) l16 c16 k16
  have b16 := F16.binds (ps := ["word", "width", "bound"]) fun _ _ _ _ _ _ us hl => match us, hl with | [_, _, _], _ => rfl
  have D__law_below : ∀ base, DefAt l.prog w K mg base CX0 4 "_law_below" ["word", "width", "bound"] (spP K mg m_law_below) := fun base => ⟨_, _, ok__law_below F16 (D_lanes_below := D_lanes_below base) (D__law_lanes := D__law_lanes base) (z_all := z_all) (z_bool := z_bool) (z_isinstance := z_isinstance) (z_list := z_list) (z_tuple := z_tuple), PySem.W.mg_of X G a16, k16, b16⟩
  have F17 := fun_mk (st := s_unpack) l17 c17 k17
  have b17 := F17.binds (ps := ["words", "width", "count"]) fun _ _ _ _ _ _ us hl => match us, hl with | [_, _, _], _ => rfl
  have D_unpack : ∀ base, DefAt l.prog w K mg base (L2N.CX l.prog w) 5 "unpack" ["words", "width", "count"] (spXF K mg m_unpack) := fun base => ⟨_, _, ok_unpack F17 (D_lane_count := D_lane_count base) (R_BadCells := R_BadCells) (D__lanes_of := D__lanes_of base) (D_pack := D_pack base) (z_len := z_len) (z_list := z_list), PySem.W.mg_of X G a17, k17, b17⟩
  have F18 := fun_mk (st := s__law_unfit) l18 c18 k18
  have b18 := F18.binds (ps := ["row", "width"]) fun _ _ _ _ _ _ us hl => match us, hl with | [_, _], _ => rfl
  have D__law_unfit : ∀ base, DefAt l.prog w K mg base CX0 5 "_law_unfit" ["row", "width"] (spP K mg m_law_unfit) := fun base => ⟨_, _, ok__law_unfit F18 (D_width_of := D_width_of base) (D_pack := D_pack base) (m_Unfit := m_Unfit) (m_ColonnadeError := m_ColonnadeError) (ec_Unfit := ec_Unfit) (k_Unfit_ColonnadeError := k_Unfit_ColonnadeError) (m_BadCells := m_BadCells) (k_Unfit_BadCells := k_Unfit_BadCells) (xf_Unfit := xf_Unfit) (nf_Unfit_chain := nf_Unfit_chain) (ex_Unfit := ex_Unfit) (z_isinstance := z_isinstance) (z_list := z_list), PySem.W.mg_of X G a18, k18, b18⟩
  have F19 := fun_mk (st := s__law_widths) l19 c19 k19
  have b19 := F19.binds (ps := ["row", "width"]) fun _ _ _ _ _ _ us hl => match us, hl with | [_, _], _ => rfl
  have D__law_widths : ∀ base, DefAt l.prog w K mg base CX0 5 "_law_widths" ["row", "width"] (spP K mg m_law_widths) := fun base => ⟨_, _, ok__law_widths F19 (D_width_of := D_width_of base) (D__law_int := D__law_int base) (D_lane_count := D_lane_count base) (z_list := z_list) (z_max := z_max) (z_range := z_range), PySem.W.mg_of X G a19, k19, b19⟩
  have F20 := fun_mk (st := s__law_bounds) l20 c20 k20
  have b20 := F20.binds (ps := ["pool", "words", "row", "width"]) fun _ _ _ _ _ _ us hl => match us, hl with | [_, _, _, _], _ => rfl
  have D__law_bounds : ∀ base, DefAt l.prog w K mg base CX0 5 "_law_bounds" ["pool", "words", "row", "width"] (spI K mg m_law_bounds) := fun base => ⟨_, _, ok__law_bounds F20 (D__law_draw := D__law_draw base) (D__law_below := D__law_below base) (z_len := z_len) (z_range := z_range), PySem.W.mg_of X G a20, k20, b20⟩
  have F21 := fun_mk (st := s__law_read) l21 c21 k21
  have b21 := F21.binds (ps := ["words", "width", "count"]) fun _ _ _ _ _ _ us hl => match us, hl with | [_, _, _], _ => rfl
  have D__law_read : ∀ base, DefAt l.prog w K mg base CX0 6 "_law_read" ["words", "width", "count"] (spP K mg m_law_read) := fun base => ⟨_, _, ok__law_read F21 (D__law_packed := D__law_packed base) (D_unpack := D_unpack base) (m_BadCells := m_BadCells) (m_ColonnadeError := m_ColonnadeError) (ec_BadCells := ec_BadCells) (k_BadCells_ColonnadeError := k_BadCells_ColonnadeError) (m_Unfit := m_Unfit) (k_BadCells_Unfit := k_BadCells_Unfit) (ex_BadCells := ex_BadCells) (D__law_ints := D__law_ints base) (z_isinstance := z_isinstance) (z_list := z_list), PySem.W.mg_of X G a21, k21, b21⟩
  have F22 := fun_mk (st := s__law_nothing) l22 c22 k22
  have b22 := F22.binds (ps := ["width"]) fun _ _ _ _ _ _ us hl => match us, hl with | [_], _ => rfl
  have D__law_nothing : ∀ base, DefAt l.prog w K mg base CX0 7 "_law_nothing" ["width"] (spP K mg m_law_nothing) := fun base => ⟨_, _, ok__law_nothing F22 (D_pack := D_pack base) (D__law_ints := D__law_ints base) (D_unpack := D_unpack base) (D__law_read := D__law_read base), PySem.W.mg_of X G a22, k22, b22⟩
  have F23 := fun_mk (st := s_law) l23 c23 k23
  exact ⟨_, fun s v => .of_eq rfl, fun base _ _ => law_of (ok_law F23 (D__law_digits := D__law_digits base) (D__law_draw := D__law_draw base) (D__law_drawn := D__law_drawn base) (D__law_unfit := D__law_unfit base) (D__law_words := D__law_words base) (D_pack := D_pack base) (D__law_ints := D__law_ints base) (D__law_widths := D__law_widths base) (D__law_near := D__law_near base) (D__law_read := D__law_read base) (D__law_bounds := D__law_bounds base) (D__law_nothing := D__law_nothing base) (z_int := z_int) (z_len := z_len) (z_list := z_list)) math⟩
end
end K02
open PySem PySem.W PyProof.Rows
set_option maxHeartbeats 0 in
theorem PySem.Challenge.cw_colonnade_k02_lanes_holds : PySem.Challenge.rw_colonnade_k02_lanes.Holds := by
  w_on; o_law; k_head; (case hw => w_witness2)
  k_fill
  refine L2.walk_of (l := PySem.Challenge.rw_colonnade_k02_lanes) (n := 63) (k := 8) (x := "script") (CX := fun _ => L2.CX0) (sp := fun w => NF.spLaw _ 63) rfl (by decide) rfl ⟨rfl, by decide, by decide⟩ (fun w h Y => PySem.W.kIn_of Y) ?F (fun _ _ a ns hl _ hS => ⟨a, ns, rfl, hS, hl, fun _ => rfl⟩) (fun _ _ _ _ _ h => h)
  case F =>
    intro w mg fa h KX G hmg
    refine' K02.all_mk K02.math KX G hmg ?a0 ?l0 ?c0 ?k0 ?a1 ?l1 ?c1 ?k1 ?a2 ?l2 ?c2 ?k2 ?a3 ?l3 ?c3 ?k3 ?a4 ?l4 ?c4 ?k4 ?a5 ?l5 ?c5 ?k5 ?a6 ?l6 ?c6 ?k6 ?a7 ?l7 ?c7 ?k7 ?a8 ?l8 ?c8 ?k8 ?a9 ?l9 ?c9 ?k9 ?a10 ?l10 ?c10 ?k10 ?a11 ?l11 ?c11 ?k11 ?a12 ?l12 ?c12 ?k12 ?a13 ?l13 ?c13 ?k13 ?a14 ?l14 ?c14 ?k14 ?a15 ?l15 ?c15 ?k15 ?a16 ?l16 ?c16 ?k16 ?a17 ?l17 ?c17 ?k17 ?a18 ?l18 ?c18 ?k18 ?a19 ?l19 ?c19 ?k19 ?a20 ?l20 ?c20 ?k20 ?a21 ?l21 ?c21 ?k21 ?a22 ?l22 ?c22 ?k22 ?a23 ?l23 ?c23 ?k23 ?a_Unfit ?a_BadCells ?a_ColonnadeError ?y_g_WORD_BITS ?y_enumerate ?y_abs ?y_int ?y_len ?y_range ?y_bool ?y_isinstance ?y_max ?y_all ?y_list ?eC_Unfit ?tC_Unfit ?hC_Unfit ?xL_Unfit ?sa_Unfit ?kC_Unfit ?nf_Unfit_chain ?i_Unfit ?t_Unfit ?lI_Unfit ?cI_Unfit ?kI_Unfit ?y_tuple ?y_g_GREATEST_WIDTH ?eC_BadCells ?tC_BadCells ?kC_BadCells ?q0_BadCells ?ga_Unfit ?gg_Unfit ?cc_Unfit ?cn ?ct ?mo_Unfit ?k_Unfit_ColonnadeError ?k_Unfit_BadCells ?sC_Unfit ?hC_BadCells ?ga_BadCells ?gg_BadCells ?cc_BadCells ?mo_BadCells ?k_BadCells_ColonnadeError ?k_BadCells_Unfit ?sC_BadCells
    (case a0 => k_is)
    (case l0 => k_is)
    (case c0 => k_is)
    (case k0 => k_is)
    (case a1 => k_is)
    (case l1 => k_is)
    (case c1 => k_is)
    (case k1 => k_is)
    (case a2 => k_is)
    (case l2 => k_is)
    (case c2 => k_is)
    (case k2 => k_is)
    (case a3 => k_is)
    (case l3 => k_is)
    (case c3 => k_is)
    (case k3 => k_is)
    (case a4 => k_is)
    (case l4 => k_is)
    (case c4 => k_is)
    (case k4 => k_is)
    (case a5 => k_is)
    (case l5 => k_is)
    (case c5 => k_is)
    (case k5 => k_is)
    (case a6 => k_is)
    (case l6 => k_is)
    (case c6 => k_is)
    (case k6 => k_is)
    (case a7 => k_is)
    (case l7 => k_is)
    (case c7 => k_is)
    (case k7 => k_is)
    (case a8 => k_is)
    (case l8 => k_is)
    (case c8 => k_is)
    (case k8 => k_is)
    (case a9 => k_is)
    (case l9 => k_is)
    (case c9 => k_is)
    (case k9 => k_is)
    (case a10 => k_is)
    (case l10 => k_is)
    (case c10 => k_is)
    (case k10 => k_is)
    (case a11 => k_is)
    (case l11 => k_is)
    (case c11 => k_is)
    (case k11 => k_is)
    (case a12 => k_is)
    (case l12 => k_is)
    (case c12 => k_is)
    (case k12 => k_is)
    (case a13 => k_is)
    (case l13 => k_is)
    (case c13 => k_is)
    (case k13 => k_is)
    (case a14 => k_is)
    (case l14 => k_is)
    (case c14 => k_is)
    (case k14 => k_is)
    (case a15 => k_is)
    (case l15 => k_is)
    (case c15 => k_is)
    (case k15 => k_is)
    (case a16 => k_is)
    (case l16 => k_is)
    (case c16 => k_is)
    (case k16 => k_is)
    (case a17 => k_is)
    (case l17 => k_is)
    (case c17 => k_is)
    (case k17 => k_is)
    (case a18 => k_is)
    (case l18 => k_is)
    (case c18 => k_is)
    (case k18 => k_is)
    (case a19 => k_is)
    (case l19 => k_is)
    (case c19 => k_is)
    (case k19 => k_is)
    (case a20 => k_is)
    (case l20 => k_is)
    (case c20 => k_is)
    (case k20 => k_is)
    (case a21 => k_is)
    (case l21 => k_is)
    (case c21 => k_is)
    (case k21 => k_is)
    (case a22 => k_is)
    (case l22 => k_is)
    (case c22 => k_is)
    (case k22 => k_is)
    (case a23 => k_is)
    (case l23 => k_is)
    (case c23 => k_is)
    (case k23 => k_is)
    (case a_Unfit => k_is)
    (case a_BadCells => k_is)
    (case a_ColonnadeError => k_is)
    (case y_g_WORD_BITS => k_is)
    (case y_enumerate => k_is)
    (case y_abs => k_is)
    (case y_int => k_is)
    (case y_len => k_is)
    (case y_range => k_is)
    (case y_bool => k_is)
    (case y_isinstance => k_is)
    (case y_max => k_is)
    (case y_all => k_is)
    (case y_list => k_is)
    (case eC_Unfit => k_is)
    (case tC_Unfit => k_is)
    (case hC_Unfit => k_is)
    (case xL_Unfit => k_is)
    (case sa_Unfit => k_is)
    (case kC_Unfit => k_is)
    (case nf_Unfit_chain => k_is)
    (case i_Unfit => k_is)
    (case t_Unfit => k_is)
    (case lI_Unfit => k_is)
    (case cI_Unfit => k_is)
    (case kI_Unfit => k_is)
    (case y_tuple => k_is)
    (case y_g_GREATEST_WIDTH => k_is)
    (case eC_BadCells => k_is)
    (case tC_BadCells => k_is)
    (case kC_BadCells => k_is)
    (case q0_BadCells => first | k_exc | k_is)
    (case ga_Unfit => k_is)
    (case gg_Unfit => k_is)
    (case cc_Unfit => k_is)
    (case cn => k_is)
    (case ct => k_is)
    (case mo_Unfit => k_is)
    (case k_Unfit_ColonnadeError => first | kit_is | k_is)
    (case k_Unfit_BadCells => first | kit_is | k_is)
    (case sC_Unfit => first | rfl | k_is)
    (case hC_BadCells => k_is)
    (case ga_BadCells => k_is)
    (case gg_BadCells => k_is)
    (case cc_BadCells => k_is)
    (case mo_BadCells => k_is)
    (case k_BadCells_ColonnadeError => first | kit_is | k_is)
    (case k_BadCells_Unfit => first | kit_is | k_is)
    (case sC_BadCells => first | rfl | k_is)
