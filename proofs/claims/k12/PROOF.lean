import PyProof.Rows.All
import HandS.ForMost
import HandS.ForExc
import HandS.Walk
import HandS.Star
import HandS.WideBits
import HandS.IsInst
import HandS.RaiseMore
import HandS.ExcInitHot
import HandS.ExcIs
import HandS.ExcField
import HandS.WordsExc
import Wide.All
import OpenK.AllK
import Wide.FinOn
import PySem.Challenge.RW_colonnade_k12_rows_withstand
set_option Elab.async false
set_option linter.all false
set_option maxRecDepth 100000
/-! Nf0: what a value stands for, owned objects, the state at a point, outcomes, and the normal forms of readings. -/
namespace NF
open PySem PySem.Spec PyProof.Rows L2

abbrev Fg := PySem.W.Frag
abbrev MG := Str → Option Value

/-! ### outcomes -/
inductive Res (α : Type) where
  | ok (a : α)
  | err (c : Str) (fs : List (Str × PyData))
  | bad
namespace Res
def bind {α β : Type} : Res α → (α → Res β) → Res β
  | .ok a, f => f a
  | .err c fs, _ => .err c fs
  | .bad, _ => .bad
def map {α β : Type} (m : Res α) (f : α → β) : Res β := m.bind fun a => .ok (f a)
@[simp] theorem bind_ok {α β : Type} (a : α) (f : α → Res β) : (Res.ok a).bind f = f a := rfl
@[simp] theorem bind_err {α β : Type} (c : Str) (fs : List (Str × PyData)) (f : α → Res β) : (Res.err c fs : Res α).bind f = .err c fs := rfl
@[simp] theorem bind_bad {α β : Type} (f : α → Res β) : (Res.bad : Res α).bind f = .bad := rfl
theorem bind_assoc {α β γ : Type} (m : Res α) (f : α → Res β) (g : β → Res γ) : (m.bind f).bind g = m.bind fun a => (f a).bind g := by cases m <;> rfl
end Res
/-- a condition that must hold -/
@[irreducible] def need (p : Prop) [Decidable p] {α : Type} (m : Res α) : Res α := if p then m else .bad

/-! bounds, so told that the kernel never counts down from them -/
def inB (k : Nat) : Int → Bool
  | .ofNat m => Nat.ble (m + 1) k
  | .negSucc m => Nat.ble (m + 1) k
theorem inB_iff {k : Nat} {n : Int} : inB k n = true ↔ -(k : Int) ≤ n ∧ n < k := by
  cases n with
  | ofNat m => show Nat.ble (m + 1) k = true ↔ _; rw [Nat.ble_eq]; simp only [Int.ofNat_eq_natCast]; omega
  | negSucc m => show Nat.ble (m + 1) k = true ↔ _; rw [Nat.ble_eq]; omega
/-- within 2^62, 2^63 either way -/
def Rg62 (n : Int) : Prop := -(2 ^ 62) ≤ n ∧ n < 2 ^ 62
def Rg63 (n : Int) : Prop := -(2 ^ 63) ≤ n ∧ n < 2 ^ 63
def Rg64 (n : Int) : Prop := -(2 ^ 64) < n ∧ n < 2 ^ 64
instance (n : Int) : Decidable (Rg62 n) := decidable_of_iff (inB 4611686018427387904 n = true) (by rw [inB_iff]; unfold Rg62; omega)
instance (n : Int) : Decidable (Rg63 n) := decidable_of_iff (inB 9223372036854775808 n = true) (by rw [inB_iff]; unfold Rg63; omega)
def posB (k : Nat) : Int → Bool
  | .ofNat m => Nat.ble (m + 1) k
  | .negSucc _ => false
theorem posB_iff {k : Nat} {n : Int} : posB k n = true ↔ 0 ≤ n ∧ n < k := by
  cases n with
  | ofNat m => show Nat.ble (m + 1) k = true ↔ _; rw [Nat.ble_eq]; simp only [Int.ofNat_eq_natCast]; omega
  | negSucc m => show false = true ↔ _; simp only [Bool.false_eq_true, false_iff]; omega
def Ps63 (n : Int) : Prop := 0 ≤ n ∧ n < 2 ^ 63
instance (n : Int) : Decidable (Ps63 n) := decidable_of_iff (posB 9223372036854775808 n = true) (by rw [posB_iff]; unfold Ps63; omega)
/-! ### what a value stands for -/
theorem same_rd {H H' : Hp} {a : Addr} {u : HO} (e : Same H H') (h : Rd H a u) : Rd H' a u := by
  rcases h with h | ⟨o, h⟩
  · exact .inl (e a _ h)
  · exact .inr ⟨o, e a _ h⟩
theorem same_t {K : Fg} {H H' : Hp} {a : Addr} {xs : List V} (e : Same H H') (h : SqT K H a xs) : SqT K H' a xs := by
  rcases h with h | h
  · exact .inl (same_rd e h)
  · exact .inr h
mutual
theorem dp_mono {K : Fg} {H H' : Hp} (e : Same H H') : ∀ {v : V} {d : PyData}, Dp K H v d → Dp K H' v d
  | _, _, .non => .non
  | _, _, .bl b => .bl b
  | _, _, .int i => .int i
  | _, _, .str x => .str x
  | _, _, .lst h hs => .lst (e.seq h) (dpAll_mono e hs)
  | _, _, .tup h hs => .tup (same_t e h) (dpAll_mono e hs)
theorem dpAll_mono {K : Fg} {H H' : Hp} (e : Same H H') : ∀ {v : List V} {d : List PyData}, DpAll K H v d → DpAll K H' v d
  | _, _, .nil => .nil
  | _, _, .cons h hs => .cons (dp_mono e h) (dpAll_mono e hs)
end

class Rep (α : Type) where
  rep : Fg → MG → Hp → V → α → Prop
  mono : ∀ {K : Fg} {mg : MG} {H H' : Hp} {v : V} {a : α}, Same H H' → rep K mg H v a → rep K mg H' v a
/-- what is the same in every heap -/
class Flat (α : Type) [Rep α] where
  enc : α → V
  iff : ∀ {K : Fg} {mg : MG} {H : Hp} {v : V} {a : α}, Rep.rep K mg H v a ↔ v = enc a
/-- plain data -/
class Data (α : Type) [Rep α] where
  toD : α → PyData
  dp : ∀ {K : Fg} {mg : MG} {H : Hp} {v : V} {a : α}, Rep.rep K mg H v a → Dp K H v (toD a)
open Data (toD)
instance : Rep Int := ⟨fun _ _ _ v a => v = .int a, fun _ h => h⟩
instance : Rep Bool := ⟨fun _ _ _ v a => v = .bl a, fun _ h => h⟩
instance : Rep Str := ⟨fun _ _ _ v a => v = .str a, fun _ h => h⟩
instance : Rep Unit := ⟨fun _ _ _ v _ => v = .non, fun _ h => h⟩
instance : Rep PyData := ⟨fun K _ H v a => Dp K H v a, fun e h => dp_mono e h⟩
instance : Flat Int := ⟨.int, Iff.rfl⟩
instance : Flat Bool := ⟨.bl, Iff.rfl⟩
instance : Flat Str := ⟨.str, Iff.rfl⟩
instance : Flat Unit := ⟨fun _ => .non, Iff.rfl⟩
instance : Data Int := ⟨.int, fun h => by subst h; exact .int _⟩
instance : Data Bool := ⟨.bool, fun h => by subst h; exact .bl _⟩
instance : Data Str := ⟨.str, fun h => by subst h; exact .str _⟩
instance : Data Unit := ⟨fun _ => .none, fun h => by subst h; exact .non⟩
instance : Data PyData := ⟨id, fun h => h⟩
abbrev Reps {α : Type} [Rep α] (K : Fg) (mg : MG) (H : Hp) : List V → List α → Prop := Paired (Rep.rep K mg H)
theorem Reps.mono {α : Type} [Rep α] {K : Fg} {mg : MG} {H H' : Hp} {vs : List V} {as : List α} (e : Same H H') (h : Reps K mg H vs as) : Reps K mg H' vs as := L2.Paired.mapP h fun _ _ r => Rep.mono e r
theorem reps_flat {α : Type} [Rep α] [Flat α] {K : Fg} {mg : MG} {H : Hp} : ∀ {vs : List V} {as : List α}, Reps K mg H vs as ↔ vs = as.map Flat.enc
  | [], [] => ⟨fun _ => rfl, fun _ => .nil⟩
  | [], _ :: _ => ⟨fun h => (nomatch h), fun h => by simp at h⟩
  | _ :: _, [] => ⟨fun h => (nomatch h), fun h => by simp at h⟩
  | v :: vs, a :: as => ⟨fun h => by
      cases h with
      | cons r t => rw [List.map_cons, (Flat.iff).mp r, (reps_flat).mp t],
    fun h => by
      rw [List.map_cons] at h
      injection h with h1 h2
      exact .cons ((Flat.iff).mpr h1) ((reps_flat).mpr h2)⟩

theorem Reps.length {α : Type} [Rep α] {K : Fg} {mg : MG} {H : Hp} {vs : List V} {as : List α} (h : Reps K mg H vs as) : vs.length = as.length := PySem.Paired.length h
theorem reps_get {α : Type} [Rep α] {K : Fg} {mg : MG} {H : Hp} : ∀ {vs : List V} {as : List α} {i : Nat} {a : α}, Reps K mg H vs as → as[i]? = some a → ∃ v, vs[i]? = some v ∧ Rep.rep K mg H v a
  | _, _, _, _, .nil, e => by simp at e
  | _, _, 0, _, .cons r _, e => by simp at e; subst e; exact ⟨_, rfl, r⟩
  | _, _, i + 1, a, .cons r t, e => by
    obtain ⟨u, h1, h2⟩ := reps_get (i := i) (a := a) t (by simpa using e)
    exact ⟨u, by simpa using h1, h2⟩
theorem reps_at {α : Type} [Rep α] {K : Fg} {mg : MG} {H : Hp} : ∀ {vs : List V} {as : List α} {i : Nat} {v : V}, Reps K mg H vs as → vs[i]? = some v → ∃ a, as[i]? = some a ∧ Rep.rep K mg H v a
  | _, _, _, _, .nil, e => by simp at e
  | _, _, 0, _, .cons r _, e => by simp at e; subst e; exact ⟨_, rfl, r⟩
  | _, _, i + 1, a, .cons r t, e => by
    obtain ⟨u, h1, h2⟩ := reps_at (i := i) (v := a) t (by simpa using e)
    exact ⟨u, by simpa using h1, h2⟩
theorem reps_append {α : Type} [Rep α] {K : Fg} {mg : MG} {H : Hp} : ∀ {vs ws : List V} {as bs : List α}, Reps K mg H vs as → Reps K mg H ws bs → Reps K mg H (vs ++ ws) (as ++ bs)
  | _, _, _, _, .nil, s => s
  | _, _, _, _, .cons r t, s => .cons r (reps_append t s)
theorem reps_take {α : Type} [Rep α] {K : Fg} {mg : MG} {H : Hp} : ∀ {vs : List V} {as : List α} (n : Nat), Reps K mg H vs as → Reps K mg H (vs.take n) (as.take n)
  | _, _, 0, _ => .nil
  | _, _, _ + 1, .nil => .nil
  | _, _, n + 1, .cons r t => .cons r (reps_take n t)
theorem reps_drop {α : Type} [Rep α] {K : Fg} {mg : MG} {H : Hp} : ∀ {vs : List V} {as : List α} (n : Nat), Reps K mg H vs as → Reps K mg H (vs.drop n) (as.drop n)
  | _, _, 0, r => r
  | _, _, _ + 1, .nil => .nil
  | _, _, n + 1, .cons _ t => reps_drop n t
theorem reps_set {α : Type} [Rep α] {K : Fg} {mg : MG} {H : Hp} {v : V} {a : α} (r : Rep.rep K mg H v a) : ∀ {vs : List V} {as : List α} (n : Nat), Reps K mg H vs as → Reps K mg H (vs.set n v) (as.set n a)
  | _, _, _, .nil => .nil
  | _, _, 0, .cons _ t => .cons r t
  | _, _, n + 1, .cons q t => .cons q (reps_set r n t)
theorem reps_dp {α : Type} [Rep α] [Data α] {K : Fg} {mg : MG} {H : Hp} : ∀ {vs : List V} {as : List α}, Reps K mg H vs as → DpAll K H vs (as.map toD)
  | _, _, .nil => .nil
  | _, _, .cons r t => .cons (Data.dp r) (reps_dp t)
/-- a list, a tuple of things of one kind, one of both -/
instance {α : Type} [Rep α] : Rep (List α) := ⟨fun K mg H v as => ∃ p vs, v = .ref p ∧ H p = some (.lst vs) ∧ Reps K mg H vs as, fun e ⟨p, vs, h1, h2, h3⟩ => ⟨p, vs, h1, e _ _ h2, h3.mono e⟩⟩
structure Tp (α : Type) where
  xs : List α
instance {α : Type} [Rep α] : Rep (Tp α) := ⟨fun K mg H v as => ∃ p vs, v = .ref p ∧ SqT K H p vs ∧ Reps K mg H vs as.xs, fun e ⟨p, vs, h1, h2, h3⟩ => ⟨p, vs, h1, same_t e h2, h3.mono e⟩⟩
inductive Sq (α : Type) where
  | l (xs : List α)
  | t (xs : List α)
def Sq.xs {α : Type} : Sq α → List α
  | .l xs => xs
  | .t xs => xs
instance {α : Type} [Rep α] : Rep (Sq α) where
  rep K mg H v as := match as with
    | .l xs => Rep.rep K mg H v xs
    | .t xs => Rep.rep K mg H v (Tp.mk xs)
  mono {K mg H H' v a} e h := by
    cases a with
    | l xs => exact Rep.mono (α := List α) e h
    | t xs => exact Rep.mono (α := Tp α) e h
instance {α : Type} [Rep α] [Data α] : Data (List α) := ⟨fun xs => .list (xs.map toD), fun ⟨p, vs, h1, h2, h3⟩ => by subst h1; exact .lst (.of h2) (reps_dp h3)⟩
instance {α : Type} [Rep α] [Data α] : Data (Tp α) := ⟨fun xs => .tuple (xs.xs.map toD), fun ⟨p, vs, h1, h2, h3⟩ => by subst h1; exact .tup h2 (reps_dp h3)⟩
instance {α : Type} [Rep α] [Data α] : Data (Sq α) := ⟨fun | .l xs => toD xs | .t xs => toD (Tp.mk xs), fun {K mg H v a} h => by
  cases a with
  | l xs => exact Data.dp (α := List α) h
  | t xs => exact Data.dp (α := Tp α) h⟩
/-- tuples of two, three, four -/
instance {α β : Type} [Rep α] [Rep β] : Rep (α × β) := ⟨fun K mg H v t => ∃ p a b, v = .ref p ∧ SqT K H p [a, b] ∧ Rep.rep K mg H a t.1 ∧ Rep.rep K mg H b t.2, fun e ⟨p, a, b, h1, h2, h3, h4⟩ => ⟨p, a, b, h1, same_t e h2, Rep.mono e h3, Rep.mono e h4⟩⟩
instance {α β : Type} [Rep α] [Rep β] [Data α] [Data β] : Data (α × β) := ⟨fun t => .tuple [toD t.1, toD t.2], fun ⟨p, a, b, h1, h2, h3, h4⟩ => by subst h1; exact .tup h2 (.cons (Data.dp h3) (.cons (Data.dp h4) .nil))⟩
/-- list-like: what can be walked, counted, read by place -/
class Lk (s : Type) (α : outParam Type) [Rep s] [Rep α] where
  its : s → List α
  get : ∀ {K : Fg} {mg : MG} {H : Hp} {v : V} {a : s}, Rep.rep K mg H v a → ∃ p vs, v = .ref p ∧ (SqL K H p vs ∨ SqT K H p vs) ∧ Reps K mg H vs (its a)
instance {α : Type} [Rep α] : Lk (List α) α := ⟨id, fun ⟨p, vs, h1, h2, h3⟩ => ⟨p, vs, h1, .inl (.of h2), h3⟩⟩
instance {α : Type} [Rep α] : Lk (Tp α) α := ⟨Tp.xs, fun ⟨p, vs, h1, h2, h3⟩ => ⟨p, vs, h1, .inr h2, h3⟩⟩
instance {α : Type} [Rep α] : Lk (Sq α) α := ⟨Sq.xs, fun {K mg H v a} h => by
  cases a with
  | l xs =>
    obtain ⟨p, vs, h1, h2, h3⟩ := (show Rep.rep K mg H v xs from h)
    exact ⟨p, vs, h1, .inl (.of h2), h3⟩
  | t xs =>
    obtain ⟨p, vs, h1, h2, h3⟩ := (show Rep.rep K mg H v (Tp.mk xs) from h)
    exact ⟨p, vs, h1, .inr h2, h3⟩⟩

/-! ### a heap without some addresses -/
def less (H : Hp) (A : List Addr) : Hp := fun a => if a ∈ A then none else H a
theorem less_in {H : Hp} {A : List Addr} {a : Addr} (h : a ∈ A) : less H A a = none := by unfold less; rw [if_pos h]
theorem less_out {H : Hp} {A : List Addr} {a : Addr} (h : a ∉ A) : less H A a = H a := by unfold less; rw [if_neg h]
theorem less_same {H : Hp} {A : List Addr} : Same (less H A) H := fun b o h => by
  by_cases hb : b ∈ A
  · rw [less_in hb] at h; cases h
  · rw [less_out hb] at h; exact h
theorem less_mono {H H' : Hp} {A : List Addr} (e : ∀ b o, b ∉ A → H b = some o → H' b = some o) : Same (less H A) (less H' A) := fun b o h => by
  by_cases hb : b ∈ A
  · rw [less_in hb] at h; cases h
  · rw [less_out hb] at h ⊢; exact e b o hb h
theorem less_sub {H : Hp} {A B : List Addr} (h : ∀ a ∈ B, a ∈ A) : Same (less H A) (less H B) := fun b o q => by
  by_cases hb : b ∈ A
  · rw [less_in hb] at q; cases q
  · rw [less_out hb] at q
    rw [less_out fun z => hb (h b z)]
    exact q

/-! ### owned objects, the state at a point -/
/-- what a slot holds -/
structure Asr where
  P : Hp → V → Prop
  mono : ∀ {H H' : Hp} {v : V}, Same H H' → P H v → P H' v
/-- a fact of the heap without the owned objects -/
structure Fact where
  P : Hp → Prop
  mono : ∀ {H H' : Hp}, Same H H' → P H → P H'
structure Own where
  a : Addr
  P : Hp → HO → Prop
  mono : ∀ {H H' : Hp} {o : HO}, Same H H' → P H o → P H' o
section
variable (K : Fg) (mg : MG)
def vl {α : Type} [Rep α] (a : α) : Option Asr := some ⟨fun H v => Rep.rep K mg H v a, fun e h => Rep.mono e h⟩
def rf (p : Addr) : Option Asr := some ⟨fun _ v => v = .ref p, fun _ h => h⟩
def ow {α : Type} [Rep α] (p : Addr) (as : List α) : Own := ⟨p, fun H o => ∃ vs, o = .lst vs ∧ Reps K mg H vs as, fun e ⟨vs, h, r⟩ => ⟨vs, h, r.mono e⟩⟩
end

/-- a def's run: the module, the heap at its entry, what it may change, what stands out of sight, what it had to change at first, what is wished of exceptions -/
structure Fr where
  K : Fg
  mg : MG
  H0 : Hp
  W : List Addr
  A : List Addr
  O0 : List Own
  E : XK
  Z : List Fact
abbrev addrs (O : List Own) : List Addr := O.map Own.a
def rg (F : Fr) (O : List Own) (H : Hp) : Hp := less H (addrs O ++ F.A)
structure GO (F : Fr) (O : List Own) (H : Hp) : Prop where
  objs : ∀ w ∈ O, ∃ o, H w.a = some o ∧ w.P (rg F O H) o
  nd : (addrs O).Nodup
  own : ∀ w ∈ O, w.a ∈ F.W ∨ F.H0 w.a = none
  keep : ∀ a o, F.H0 a = some o → a ∉ F.W → H a = some o
  live : ∀ a, F.H0 a ≠ none → H a ≠ none
  hid : ∀ a ∈ F.A, F.H0 a ≠ none
  apart : ∀ w ∈ O, w.a ∉ F.A
  facts : ∀ z ∈ F.Z, z.P (rg F O H)
def SlotOk (R : Hp) : Option Asr → Option V → Prop
  | none, _ => True
  | some p, some v => p.P R v
  | some _, none => False
structure G (F : Fr) (L : List (Option Asr)) (O : List Own) (σ : L2.St) (H : Hp) : Prop where
  slots : Paired (SlotOk (rg F O H)) L σ
  go : GO F O H

theorem SlotOk.mono {R R' : Hp} (e : Same R R') : ∀ {p : Option Asr} {v : Option V}, SlotOk R p v → SlotOk R' p v
  | none, _, _ => trivial
  | some p, some v, h => p.mono e h
theorem GO.out {F : Fr} {O : List Own} {H : Hp} (g : GO F O H) {p : Addr} (h : H p = none) : p ∉ addrs O ++ F.A := fun z => by
  rcases List.mem_append.mp z with z | z
  · obtain ⟨w, hw, e⟩ := List.mem_map.mp z
    obtain ⟨o, ho, _⟩ := g.objs w hw
    rw [e, h] at ho
    cases ho
  · exact g.live p (g.hid p z) h
/-- the heap grows -/
theorem GO.grow {F : Fr} {O : List Own} {H H' : Hp} (g : GO F O H) (e : Same H H') : GO F O H' where
  objs := fun w hw => let ⟨o, ho, h⟩ := g.objs w hw; ⟨o, e _ _ ho, w.mono (less_mono fun b o _ q => e b o q) h⟩
  nd := g.nd
  own := g.own
  keep := fun a o h hw => e _ _ (g.keep a o h hw)
  live := fun a h z => by
    cases q : H a with
    | none => exact g.live a h q
    | some o => rw [e _ _ q] at z; cases z
  hid := g.hid
  apart := g.apart
  facts := fun z hz => z.mono (less_mono fun b o _ q => e b o q) (g.facts z hz)
theorem rg_grow {F : Fr} {O : List Own} {H H' : Hp} (e : Same H H') : Same (rg F O H) (rg F O H') := less_mono fun b o _ q => e b o q

theorem G.grow {F : Fr} {L : List (Option Asr)} {O : List Own} {σ : L2.St} {H H' : Hp} (g : G F L O σ H) (e : Same H H') : G F L O σ H' :=
  ⟨L2.Paired.mapP g.slots fun _ _ h => h.mono (rg_grow e), g.go.grow e⟩
theorem same_upd {H : Hp} {p : Addr} {o : HO} (h : H p = none) : Same H (upd H p o) := fun b x e => by
  rw [upd_ne (ne_of_none e h)]
  exact e
end NF

set_option Elab.async false
set_option linter.all false
set_option maxRecDepth 100000
/-! Nf1: the normal forms, and how they compose. -/
namespace NF
open PySem PySem.Spec PyProof.Rows L2
open Data (toD)

abbrev XdOk (K : Fg) (H : Hp) : List (Str × V) → List (Str × PyData) → Prop := Paired fun p q => p.1 = q.1 ∧ Dp K H p.2 q.2
/-- an exception's fields: its dict, new since H0 -/
def XdAt (K : Fg) (H0 H' : Hp) (d : Option Addr) (fs : List (Str × PyData)) : Prop := match d with
  | none => fs = []
  | some d => H0 d = none ∧ ∃ vs, H' d = some (.xd vs) ∧ XdOk K H' vs fs
theorem XdAt.older {K : Fg} {H0 H1 H' : Hp} {d : Option Addr} {fs : List (Str × PyData)} (h : XdAt K H1 H' d fs) (l : ∀ a, H0 a ≠ none → H1 a ≠ none) : XdAt K H0 H' d fs := by
  cases d with
  | none => exact h
  | some d => exact ⟨Decidable.byContradiction fun z => l d z h.1, h.2⟩
def ErrK (F : Fr) (c : Str) (fs : List (Str × PyData)) (Post : Hp → Prop) : Prop :=
  ∀ C d H', F.mg c = some (.ref C) → XdAt F.K F.H0 H' d fs → Post H' → F.E (.ref C) d H'
def Out {α : Type} (F : Fr) (m : Res α) (k : α → Prop) (xp : Hp → Prop) : Prop := match m with
  | .ok a => k a
  | .err c fs => ErrK F c fs xp
  | .bad => False
theorem Out.mono {α : Type} {F : Fr} {m : Res α} {k k' : α → Prop} {xp xp' : Hp → Prop} (h : Out F m k xp) (hk : ∀ a, k a → k' a) (hx : ∀ H', xp' H' → xp H') : Out F m k' xp' := by
  cases m with
  | ok a => exact hk a h
  | err c fs => exact fun C d H' h1 h2 h4 => h C d H' h1 h2 (hx H' h4)
  | bad => exact h.elim
theorem out_bind {α β : Type} {F : Fr} {m : Res α} {f : α → Res β} {k : β → Prop} {xp : Hp → Prop} : Out F (m.bind f) k xp ↔ Out F m (fun a => Out F (f a) k xp) xp := by
  cases m <;> exact Iff.rfl
theorem out_need {α : Type} {F : Fr} {p : Prop} [Decidable p] {m : Res α} {k : α → Prop} {xp : Hp → Prop} : Out F (need p m) k xp ↔ p ∧ Out F m k xp := by
  unfold need
  by_cases h : p
  · rw [if_pos h]; exact ⟨fun q => ⟨h, q⟩, fun q => q.2⟩
  · rw [if_neg h]; exact ⟨fun q => q.elim, fun q => (h q.1).elim⟩

def rgn (b : Bool) (F : Fr) (O : List Own) (H : Hp) : Hp := if b then rg F O H else H
theorem rgn_grow {b : Bool} {F : Fr} {O : List Own} {H H' : Hp} (e : Same H H') : Same (rgn b F O H) (rgn b F O H') := by
  cases b
  · exact e
  · exact rg_grow e
theorem rgn_sub {b : Bool} {F : Fr} {O : List Own} {H : Hp} : Same (rgn b F O H) H := by
  cases b
  · exact Same.refl _
  · exact less_same
abbrev rp {α : Type} [Rep α] (F : Fr) (R : Hp) (v : V) (a : α) : Prop := Rep.rep F.K F.mg R v a
abbrev KP (α : Type) [Rep α] (b : Bool) (F : Fr) (L : List (Option Asr)) (O : List Own) (σ : L2.St) (H : Hp) (Q : VK) : α → Prop :=
  fun a => ∀ v H', G F L O σ H' → Same H H' → rp F (rgn b F O H') v a → Q v H'
abbrev XP (F : Fr) (L : List (Option Asr)) (O : List Own) (σ : L2.St) (H : Hp) : Hp → Prop := fun H' => G F L O σ H' ∧ Same H H'
/-- an expression: its value (b: seen without the owned objects) -/
def tP {α : Type} [Rep α] (b : Bool) (F : Fr) (L : List (Option Asr)) (O : List Own) (m : Res α) : TE := fun σ H Q =>
  G F L O σ H ∧ Out F m (KP α b F L O σ H Q) (XP F L O σ H)
/-- an expression whose value is a new list -/
def tF {α : Type} [Rep α] (b : Bool) (F : Fr) (L : List (Option Asr)) (O : List Own) (m : Res (List α)) : TE := fun σ H Q =>
  G F L O σ H ∧ Out F m (fun as => ∀ p vs H', G F L O σ H' → Same H H' → H p = none → H' p = some (.lst vs) → Reps F.K F.mg (less (rgn b F O H') [p]) vs as → Q (.ref p) H') (XP F L O σ H)
/-- a test -/
def tB' (F : Fr) (L : List (Option Asr)) (O : List Own) (m : Res Bool) : TT := fun σ H Q =>
  G F L O σ H ∧ Out F m (fun c => ∀ H', G F L O σ H' → Same H H' → Q c H') (XP F L O σ H)
/-- arguments -/
class RepA (τ : Type) where
  rep : Fg → MG → Hp → List V → τ → Prop
  mono : ∀ {K : Fg} {mg : MG} {H H' : Hp} {vs : List V} {a : τ}, Same H H' → rep K mg H vs a → rep K mg H' vs a
instance : RepA Unit := ⟨fun _ _ _ vs _ => vs = [], fun _ h => h⟩
structure Ar (α τ : Type) where
  x : α
  r : τ
instance {α τ : Type} [Rep α] [RepA τ] : RepA (Ar α τ) where
  rep K mg H vs a := ∃ v ws, vs = v :: ws ∧ Rep.rep K mg H v a.x ∧ RepA.rep K mg H ws a.r
  mono e h := let ⟨v, ws, h1, h2, h3⟩ := h; ⟨v, ws, h1, Rep.mono e h2, RepA.mono e h3⟩
def tA {τ : Type} [RepA τ] (b : Bool) (F : Fr) (L : List (Option Asr)) (O : List Own) (m : Res τ) : TA := fun σ H Q =>
  G F L O σ H ∧ Out F m (fun a => ∀ vs H', G F L O σ H' → Same H H' → RepA.rep F.K F.mg (rgn b F O H') vs a → Q vs H') (XP F L O σ H)

theorem pe_imp {X : Cx} {e : Expr} {t t' : TE} (h : PE X e t) (i : ∀ σ H Q, t' σ H Q → t σ H Q) : PE X e t' := ⟨fun pins s σ H Q I q => h.run pins s σ H Q I (i σ H Q q)⟩
theorem pt_imp {X : Cx} {e : Expr} {t t' : TT} (h : PT X e t) (i : ∀ σ H Q, t' σ H Q → t σ H Q) : PT X e t' := ⟨fun pins s σ H Q I q => h.run pins s σ H Q I (i σ H Q q)⟩
theorem pa_imp {X : Cx} {e : List Expr} {t t' : TA} (h : PA X e t) (i : ∀ σ H Q, t' σ H Q → t σ H Q) : PA X e t' := ⟨fun pos pins s σ H Q I q => h.run pos pins s σ H Q I (i σ H Q q)⟩
theorem ps_imp {X : Cx} {e : Stmt} {t t' : TS} (h : PS X e t) (i : ∀ D σ H, t' D σ H → t D σ H) : PS X e t' := ⟨fun pins s σ H D I q => h.run pins s σ H D I (i D σ H q)⟩
theorem pss_imp {X : Cx} {e : List Stmt} {t t' : TS} (h : PSs X e t) (i : ∀ D σ H, t' D σ H → t D σ H) : PSs X e t' := ⟨fun pins s σ H D I q => h.run pins s σ H D I (i D σ H q)⟩

section
variable {X : Cx} {F : Fr} {L : List (Option Asr)} {O : List Own} {α β γ : Type} [Rep α] [Rep β] [Rep γ]
theorem weak {e : Expr} {b : Bool} {m : Res α} (h : PE X e (tP true F L O m)) : PE X e (tP b F L O m) := pe_imp h fun σ H Q ⟨g, q⟩ => ⟨g, q.mono (fun a k v H' g' s r => k v H' g' s (by
  cases b
  · exact Rep.mono less_same r
  · exact r)) fun _ x => x⟩
theorem strong [Flat α] {e : Expr} {b b' : Bool} {m : Res α} (h : PE X e (tP b F L O m)) : PE X e (tP b' F L O m) := pe_imp h fun σ H Q ⟨g, q⟩ => ⟨g, q.mono (fun a k v H' g' s r => k v H' g' s (Flat.iff.mpr (Flat.iff.mp r))) fun _ x => x⟩

/-- by values: what an operation asks -/
def RR (F : Fr) (L : List (Option Asr)) (O : List Own) (b1 b2 b3 : Bool) (r : R2) (mc : α → β → Res γ) : Prop :=
  ∀ x y vx vy H σ Q, G F L O σ H → rp F (rgn b1 F O H) vx x → rp F (rgn b2 F O H) vy y → Out F (mc x y) (KP γ b3 F L O σ H Q) (XP F L O σ H) → r vx vy H Q
theorem nf2 {e : Expr} {b1 b2 b3 : Bool} {r : R2} {ma : Res α} {mb : Res β} {mc : α → β → Res γ} (h : PE X e (tOp r (tP b1 F L O ma) (tP b2 F L O mb))) (hr : RR F L O b1 b2 b3 r mc) :
    PE X e (tP b3 F L O (ma.bind fun x => mb.bind fun y => mc x y)) := pe_imp h fun σ H Q ⟨g, q⟩ => by
  rw [out_bind] at q
  refine ⟨g, q.mono (fun x qx v1 H1 g1 s1 r1 => ?_) fun _ z => z⟩
  rw [out_bind] at qx
  refine ⟨g1, qx.mono (fun y qy v2 H2 g2 s2 r2 => ?_) fun H' ⟨a, b⟩ => ⟨a, s1.trans b⟩⟩
  exact hr x y v1 v2 H2 σ Q g2 (Rep.mono (rgn_grow s2) r1) r2 (qy.mono (fun z kz v H' g' s' r' => kz v H' g' ((s1.trans s2).trans s') r') fun H' ⟨a, b⟩ => ⟨a, (s1.trans s2).trans b⟩)
def R1 (F : Fr) (L : List (Option Asr)) (O : List Own) (b1 b3 : Bool) (r : V → Hp → VK → Prop) (mc : α → Res γ) : Prop :=
  ∀ x vx H σ Q, G F L O σ H → rp F (rgn b1 F O H) vx x → Out F (mc x) (KP γ b3 F L O σ H Q) (XP F L O σ H) → r vx H Q
theorem nf1 {e : Expr} {b1 b3 : Bool} {r : V → Hp → VK → Prop} {ma : Res α} {mc : α → Res γ} (h : PE X e (tUn r (tP b1 F L O ma))) (hr : R1 F L O b1 b3 r mc) :
    PE X e (tP b3 F L O (ma.bind mc)) := pe_imp h fun σ H Q ⟨g, q⟩ => by
  rw [out_bind] at q
  refine ⟨g, q.mono (fun x qx v1 H1 g1 s1 r1 => ?_) fun _ z => z⟩
  exact hr x v1 H1 σ Q g1 r1 (qx.mono (fun z kz v H' g' s' r' => kz v H' g' (s1.trans s') r') fun H' ⟨a, b⟩ => ⟨a, s1.trans b⟩)
/-- a value as it is -/
theorem kp_now {b : Bool} {σ : L2.St} {H : Hp} {Q : VK} {a : α} {v : V} (g : G F L O σ H) (k : KP α b F L O σ H Q a) (r : rp F (rgn b F O H) v a) : Q v H := k v H g (Same.refl _) r
theorem kp_flat [Flat α] {b : Bool} {σ : L2.St} {H : Hp} {Q : VK} {a : α} (g : G F L O σ H) (k : KP α b F L O σ H Q a) : Q (Flat.enc a) H := k _ H g (Same.refl _) (Flat.iff.mpr rfl)
theorem fl [Flat α] {R : Hp} {v : V} {a : α} (r : rp F R v a) : v = Flat.enc a := Flat.iff.mp r

/-! names and constants -/
theorem paired_get {α β : Type} {P : α → β → Prop} : ∀ {l : List α} {l' : List β} {i : Nat} {a : α}, Paired P l l' → l[i]? = some a → ∃ b, l'[i]? = some b ∧ P a b
  | _, _, _, _, .nil, e => by simp at e
  | _, _, 0, _, .cons r _, e => by simp at e; subst e; exact ⟨_, rfl, r⟩
  | _, _, i + 1, a, .cons r t, e => by
    obtain ⟨u, h1, h2⟩ := paired_get (i := i) (a := a) t (by simpa using e)
    exact ⟨u, by simpa using h1, h2⟩
theorem G.slot {σ : L2.St} {H : Hp} (g : G F L O σ H) {i : Nat} {p : Asr} (hL : L[i]? = some (some p)) : ∃ v, σ[i]? = some (some v) ∧ p.P (rg F O H) v := by
  obtain ⟨o, h1, h2⟩ := paired_get g.slots hL
  cases o with
  | none => exact h2.elim
  | some v => exact ⟨v, h1, h2⟩
theorem n_var (i : Nat) {x : Str} {pos : Pos} {a : α} (hL : L[i]? = some (vl F.K F.mg a) := by rfl) (hN : X.N[i]? = some x := by rfl) (hv : Vis X.env.scope x := by first | exact Or.inl rfl | exact Or.inr (Or.inl rfl) | exact Or.inr (Or.inr rfl)) (hd : (x == ("__debug__" : Str)) = false := by decide)
    (hcd : (x == ("__classdict__" : Str)) = false := by decide) : PE X (.Name x pos) (tP true F L O (.ok a)) := pe_imp (pe_var hN hv hd hcd) fun σ H Q ⟨g, q⟩ => by
  obtain ⟨v, h1, h2⟩ := g.slot hL
  exact ⟨v, h1, q v H g (Same.refl _) h2⟩
/-- an owned list, read where it stands -/
theorem n_own (i : Nat) {x : Str} {pos : Pos} {p : Addr} {as : List α} (hL : L[i]? = some (rf p) := by rfl) (hO : ow F.K F.mg p as ∈ O := by simp) (hN : X.N[i]? = some x := by rfl) (hv : Vis X.env.scope x := by first | exact Or.inl rfl | exact Or.inr (Or.inl rfl) | exact Or.inr (Or.inr rfl)) (hd : (x == ("__debug__" : Str)) = false := by decide)
    (hcd : (x == ("__classdict__" : Str)) = false := by decide) : PE X (.Name x pos) (tP false F L O (.ok as)) := pe_imp (pe_var hN hv hd hcd) fun σ H Q ⟨g, q⟩ => by
  obtain ⟨v, h1, h2⟩ := g.slot hL
  obtain ⟨o, h3, vs, h4, h5⟩ := g.go.objs _ hO
  subst h4
  exact ⟨v, h1, q v H g (Same.refl _) ⟨p, vs, h2, h3, h5.mono less_same⟩⟩
theorem n_c {e : Expr} [Flat α] {a : α} {b : Bool} (h : PE X e (tC (Flat.enc a))) : PE X e (tP b F L O (.ok a)) := pe_imp h fun σ H Q ⟨g, q⟩ => kp_flat g q
theorem n_int {i j pos} {b : Bool} : PE X (.Constant (.int i) j pos) (tP b F L O (.ok i)) := n_c (a := i) pe_int
theorem n_bl {i j pos} {b : Bool} : PE X (.Constant (.bool i) j pos) (tP b F L O (.ok i)) := n_c (a := i) pe_bl
theorem n_str {i j pos} {b : Bool} : PE X (.Constant (.str i) j pos) (tP b F L O (.ok i)) := n_c (a := i) pe_str
theorem n_non {j pos} {b : Bool} : PE X (.Constant .none j pos) (tP b F L O (.ok ())) := n_c (a := ()) pe_non

/-! ints -/
section
variable {b1 b2 b3 : Bool}
theorem rr_I0 {g : Int → Int → γ} [Flat γ] : RR F L O b1 b2 b3 (rI0 fun i j => Flat.enc (g i j)) fun x y => .ok (g x y) := fun x y vx vy H σ Q g rx ry q => ⟨x, y, rx, ry, kp_flat g q⟩
theorem rr_I {C : Int → Int → Prop} [∀ i j, Decidable (C i j)] {g : Int → Int → γ} [Flat γ] : RR F L O b1 b2 b3 (rI C fun i j => Flat.enc (g i j)) fun x y => need (C x y) (.ok (g x y)) := fun x y vx vy H σ Q g rx ry q => by
  rw [out_need] at q
  exact ⟨x, y, rx, ry, q.1, kp_flat g q.2⟩
instance : ∀ i j, Decidable (CDiv i j) := fun i j => decidable_of_iff (posB 1073741823 (j - 1) = true) (by rw [posB_iff]; unfold CDiv; omega)
instance : ∀ i j, Decidable (CMul i j) := fun i j => decidable_of_iff ((posB 36893488147419103231 (i + 18446744073709551615) || posB 36893488147419103231 (j + 18446744073709551615)) = true) (by rw [Bool.or_eq_true, posB_iff, posB_iff]; unfold CMul; omega)
instance : ∀ i j, Decidable (CPow i j) := fun i j => decidable_of_iff ((posB 1000001 j && posB 18446744073709551616 (i.natAbs : Int)) = true) (by rw [Bool.and_eq_true, posB_iff, posB_iff]; unfold CPow; omega)
variable {x y : Expr} {ma mb : Res Int} {pos : Pos}
variable (hx : PE X x (tP b1 F L O ma)) (hy : PE X y (tP b2 F L O mb))
include hx hy
theorem n_add : PE X (.BinOp x .Add y pos) (tP b3 F L O (ma.bind fun x => mb.bind fun y => .ok (x + y))) := nf2 (pe_op op_add hx hy) (rr_I0 (g := fun x y => x + y))
theorem n_sub : PE X (.BinOp x .Sub y pos) (tP b3 F L O (ma.bind fun x => mb.bind fun y => .ok (x - y))) := nf2 (pe_op op_sub hx hy) (rr_I0 (g := fun x y => x - y))
theorem n_mul : PE X (.BinOp x .Mult y pos) (tP b3 F L O (ma.bind fun x => mb.bind fun y => need (CMul x y) (.ok (x * y)))) := nf2 (pe_op op_mul hx hy) (rr_I (g := fun x y => x * y))
theorem n_fdiv : PE X (.BinOp x .FloorDiv y pos) (tP b3 F L O (ma.bind fun x => mb.bind fun y => need (CDiv x y) (.ok (x / y)))) := nf2 (pe_op op_fdiv hx hy) (rr_I (g := fun x y => x / y))
theorem n_mod : PE X (.BinOp x .Mod y pos) (tP b3 F L O (ma.bind fun x => mb.bind fun y => need (0 < y) (.ok (x % y)))) := nf2 (pe_op op_mod hx hy) (rr_I (g := fun x y => x % y))
theorem n_pow : PE X (.BinOp x .Pow y pos) (tP b3 F L O (ma.bind fun x => mb.bind fun y => need (CPow x y) (.ok (x ^ y.toNat)))) := nf2 (pe_op op_pow hx hy) (rr_I (g := fun x y => x ^ y.toNat))
theorem n_shl : PE X (.BinOp x .LShift y pos) (tP b3 F L O (ma.bind fun x => mb.bind fun y => need (CPow x y) (.ok (x * 2 ^ y.toNat)))) := nf2 (pe_op op_shl hx hy) (rr_I (g := fun x y => x * 2 ^ y.toNat))
theorem n_shr : PE X (.BinOp x .RShift y pos) (tP b3 F L O (ma.bind fun x => mb.bind fun y => need (0 ≤ y) (.ok (x / 2 ^ y.toNat)))) := nf2 (pe_op op_shr hx hy) (rr_I (C := fun _ y => 0 ≤ y) (g := fun x y => x / 2 ^ y.toNat))
theorem n_band : PE X (.BinOp x .BitAnd y pos) (tP b3 F L O (ma.bind fun x => mb.bind fun y => .ok (Builtin.bitAnd x y))) := nf2 (pe_op op_and hx hy) (rr_I0 (g := fun x y => Builtin.bitAnd x y))
theorem n_bor : PE X (.BinOp x .BitOr y pos) (tP b3 F L O (ma.bind fun x => mb.bind fun y => .ok (Builtin.bitOr x y))) := nf2 (pe_op op_or hx hy) (rr_I0 (g := fun x y => Builtin.bitOr x y))
theorem n_bxor : PE X (.BinOp x .BitXor y pos) (tP b3 F L O (ma.bind fun x => mb.bind fun y => .ok (Builtin.bitXor x y))) := nf2 (pe_op op_xor hx hy) (rr_I0 (g := fun x y => Builtin.bitXor x y))
/-! comparisons of ints, as values -/
theorem n_lt : PE X (.Compare x [.Lt] [y] pos) (tP b3 F L O (ma.bind fun x => mb.bind fun y => .ok (decide (x < y)))) := nf2 (pe_cmpR op_lt hx hy (nomark _)) (rr_I0 (g := fun x y => decide (x < y)))
theorem n_le : PE X (.Compare x [.LtE] [y] pos) (tP b3 F L O (ma.bind fun x => mb.bind fun y => .ok (decide (x ≤ y)))) := nf2 (pe_cmpR op_le hx hy (nomark _)) (rr_I0 (g := fun x y => decide (x ≤ y)))
theorem n_gt : PE X (.Compare x [.Gt] [y] pos) (tP b3 F L O (ma.bind fun x => mb.bind fun y => .ok (decide (y < x)))) := nf2 (pe_cmpR op_gt hx hy (nomark _)) (rr_I0 (g := fun x y => decide (y < x)))
theorem n_ge : PE X (.Compare x [.GtE] [y] pos) (tP b3 F L O (ma.bind fun x => mb.bind fun y => .ok (decide (y ≤ x)))) := nf2 (pe_cmpR op_ge hx hy (nomark _)) (rr_I0 (g := fun x y => decide (y ≤ x)))
end
theorem n_neg {b1 b3 : Bool} {x : Expr} {ma : Res Int} {pos : Pos} (hx : PE X x (tP b1 F L O ma)) : PE X (.UnaryOp .USub x pos) (tP b3 F L O (ma.bind fun x => .ok (-x))) := nf1 (pe_un un_neg hx) fun x vx H σ Q g r q => ⟨x, r, kp_flat g q⟩
/-! == of flat things, of data -/
section
variable {b1 b2 b3 : Bool} {x y : Expr} {ma : Res α} {mb : Res β} {pos : Pos}
/-- equal by value: what == says of data -/
def eqD [Data α] [Data β] (x : α) (y : β) : Bool := (toD x).eqv (toD y)
def shp [Data α] (x : α) : Bool := SeqAt.shaped (toD x)
theorem rr_eqD [Data α] [Data β] (hK : X.K = F.K) : RR F L O b1 b2 b3 (rEqD X.K) fun (x : α) (y : β) => need (shp x = true ∧ shp y = true) (.ok (eqD x y)) := fun x y vx vy H σ Q g rx ry q => by
  rw [out_need] at q
  rw [hK]
  exact ⟨_, _, Data.dp (Rep.mono rgn_sub rx), Data.dp (Rep.mono rgn_sub ry), q.1.1, q.1.2, kp_flat g q.2⟩
theorem n_eqD [Data α] [Data β] (hx : PE X x (tP b1 F L O ma)) (hy : PE X y (tP b2 F L O mb)) (hu : X.A.units + 64 < cLine) (hK : X.K = F.K := by rfl) :
    PE X (.Compare x [.Eq] [y] pos) (tP b3 F L O (ma.bind fun x => mb.bind fun y => need (shp x = true ∧ shp y = true) (.ok (eqD x y)))) := nf2 (pe_cmpR (op_eqD hu) hx hy (nomark _)) (rr_eqD hK)
theorem n_neD [Data α] [Data β] (hx : PE X x (tP b1 F L O ma)) (hy : PE X y (tP b2 F L O mb)) (hu : X.A.units + 64 < cLine) (hK : X.K = F.K := by rfl) :
    PE X (.Compare x [.NotEq] [y] pos) (tP b3 F L O (ma.bind fun x => mb.bind fun y => need (shp x = true ∧ shp y = true) (.ok (!eqD x y)))) := nf2 (pe_cmpR (op_neD hu) hx hy (nomark _)) fun x y vx vy H σ Q g rx ry q => by
  rw [out_need] at q
  rw [hK]
  exact ⟨_, _, Data.dp (Rep.mono rgn_sub rx), Data.dp (Rep.mono rgn_sub ry), q.1.1, q.1.2, kp_flat g q.2⟩
end
section
variable {b1 b2 b3 : Bool} {x y : Expr} {pos : Pos} {ma mb : Res Int}
theorem n_eq (hx : PE X x (tP b1 F L O ma)) (hy : PE X y (tP b2 F L O mb)) : PE X (.Compare x [.Eq] [y] pos) (tP b3 F L O (ma.bind fun x => mb.bind fun y => .ok (decide (x = y)))) := nf2 (pe_cmpR op_eq hx hy (nomark _)) fun x y vx vy H σ Q g rx ry q => by
  cases rx; cases ry
  exact ⟨rfl, by rw [show decide (V.int x = V.int y) = decide (x = y) by simp]; exact kp_flat g q⟩
theorem n_ne (hx : PE X x (tP b1 F L O ma)) (hy : PE X y (tP b2 F L O mb)) : PE X (.Compare x [.NotEq] [y] pos) (tP b3 F L O (ma.bind fun x => mb.bind fun y => .ok (!decide (x = y)))) := nf2 (pe_cmpR op_ne hx hy (nomark _)) fun x y vx vy H σ Q g rx ry q => by
  cases rx; cases ry
  exact ⟨rfl, by rw [show decide (V.int x = V.int y) = decide (x = y) by simp]; exact kp_flat g q⟩
end
/-! and, or, not, if .. else -/
section
variable {b1 b2 b3 : Bool} {x y : Expr} {rest : List Expr} {ma mb : Res Bool} {pos : Pos}
theorem n_not (hx : PE X x (tP b1 F L O ma)) : PE X (.UnaryOp .Not x pos) (tP b3 F L O (ma.bind fun c => .ok (!c))) := pe_imp (pe_not hx) fun σ H Q ⟨g, q⟩ => by
  rw [out_bind] at q
  refine ⟨g, q.mono (fun c qc v1 H1 g1 s1 r1 => ?_) fun _ z => z⟩
  exact ⟨c, r1, qc _ H1 g1 s1 rfl⟩
theorem n_and (hx : PE X x (tP b1 F L O ma)) (hy : PE X (.BoolOp .And (y :: rest) pos) (tP b2 F L O mb)) : PE X (.BoolOp .And (x :: y :: rest) pos) (tP b3 F L O (ma.bind fun c => if c then mb else .ok false)) := pe_imp (pe_and hx hy) fun σ H Q ⟨g, q⟩ => by
  rw [out_bind] at q
  refine ⟨g, q.mono (fun c qc v1 H1 g1 s1 r1 => ?_) fun _ z => z⟩
  refine ⟨c, r1, ?_⟩
  cases c with
  | true => exact ⟨g1, qc.mono (fun d kd v H' g' s' r' => kd v H' g' (s1.trans s') r') fun H' ⟨a, b⟩ => ⟨a, s1.trans b⟩⟩
  | false => exact qc _ H1 g1 s1 rfl
theorem n_or (hx : PE X x (tP b1 F L O ma)) (hy : PE X (.BoolOp .Or (y :: rest) pos) (tP b2 F L O mb)) : PE X (.BoolOp .Or (x :: y :: rest) pos) (tP b3 F L O (ma.bind fun c => if c then .ok true else mb)) := pe_imp (pe_or hx hy) fun σ H Q ⟨g, q⟩ => by
  rw [out_bind] at q
  refine ⟨g, q.mono (fun c qc v1 H1 g1 s1 r1 => ?_) fun _ z => z⟩
  refine ⟨c, r1, ?_⟩
  cases c with
  | true => exact qc _ H1 g1 s1 rfl
  | false => exact ⟨g1, qc.mono (fun d kd v H' g' s' r' => kd v H' g' (s1.trans s') r') fun H' ⟨a, b⟩ => ⟨a, s1.trans b⟩⟩
theorem n_one {op} (hx : PE X x (tP b1 F L O ma)) : PE X (.BoolOp op [x] pos) (tP b1 F L O ma) := pe_one hx
/-! tests -/
theorem t_val (hx : PE X x (tP b1 F L O ma)) (he : ∀ whole, isTrue x X.env whole = (do let v ← whole; standAt x.pos; holding [v] (truthy v)) := by intro _; rfl) : PT X x (tB' F L O ma) := pt_imp (pt_val hx he) fun σ H Q ⟨g, q⟩ =>
  ⟨g, q.mono (fun c qc v1 H1 g1 s1 r1 => ⟨c, r1, qc H1 g1 s1⟩) fun _ z => z⟩
theorem nf2t {e : Expr} {r : R2} {ma : Res α} {mb : Res β} {mc : α → β → Res Bool} (h : PT X e (tTest (tOp r (tP b1 F L O ma) (tP b2 F L O mb)))) (hr : RR F L O b1 b2 true r mc) :
    PT X e (tB' F L O (ma.bind fun x => mb.bind fun y => mc x y)) := pt_imp h fun σ H Q ⟨g, q⟩ => by
  rw [out_bind] at q
  refine ⟨g, q.mono (fun x qx v1 H1 g1 s1 r1 => ?_) fun _ z => z⟩
  rw [out_bind] at qx
  refine ⟨g1, qx.mono (fun y qy v2 H2 g2 s2 r2 => ?_) fun H' ⟨a, b⟩ => ⟨a, s1.trans b⟩⟩
  exact hr x y v1 v2 H2 σ _ g2 (Rep.mono (rgn_grow s2) r1) r2 (qy.mono (fun z kz v H' g' s' r' => ⟨z, r', kz H' g' ((s1.trans s2).trans s')⟩) fun H' ⟨a, b⟩ => ⟨a, (s1.trans s2).trans b⟩)
theorem t_not (hx : PT X x (tB' F L O ma)) : PT X (.UnaryOp .Not x pos) (tB' F L O (ma.bind fun c => .ok (!c))) := pt_imp (pt_not hx) fun σ H Q ⟨g, q⟩ => by
  rw [out_bind] at q
  exact ⟨g, q.mono (fun c qc H1 g1 s1 => qc H1 g1 s1) fun _ z => z⟩
theorem w_and1 (hx : PT X x (tB' F L O ma)) : PW X (.BoolOp .And [x] pos) (tB' F L O ma) := pw_and1 hx
theorem w_or1 (hx : PT X x (tB' F L O ma)) : PW X (.BoolOp .Or [x] pos) (tB' F L O ma) := pw_or1 hx
theorem pw_imp {e : Expr} {t t' : TT} (h : PW X e t) (i : ∀ σ H Q, t' σ H Q → t σ H Q) : PW X e t' := ⟨fun wh pins s σ H Q I q => h.run wh pins s σ H Q I (i σ H Q q)⟩
theorem w_and (hx : PT X x (tB' F L O ma)) (hy : PW X (.BoolOp .And (y :: rest) pos) (tB' F L O mb)) : PW X (.BoolOp .And (x :: y :: rest) pos) (tB' F L O (ma.bind fun c => if c then mb else .ok false)) := pw_imp (pw_and hx hy) fun σ H Q ⟨g, q⟩ => by
  rw [out_bind] at q
  refine ⟨g, q.mono (fun c qc H1 g1 s1 => ?_) fun _ z => z⟩
  cases c with
  | true =>
    show tB' F L O mb σ H1 Q
    exact ⟨g1, qc.mono (fun d kd H' g' s' => kd H' g' (s1.trans s')) fun H' ⟨a, b⟩ => ⟨a, s1.trans b⟩⟩
  | false => exact qc H1 g1 s1
theorem w_or (hx : PT X x (tB' F L O ma)) (hy : PW X (.BoolOp .Or (y :: rest) pos) (tB' F L O mb)) : PW X (.BoolOp .Or (x :: y :: rest) pos) (tB' F L O (ma.bind fun c => if c then .ok true else mb)) := pw_imp (pw_or hx hy) fun σ H Q ⟨g, q⟩ => by
  rw [out_bind] at q
  refine ⟨g, q.mono (fun c qc H1 g1 s1 => ?_) fun _ z => z⟩
  cases c with
  | true => exact qc H1 g1 s1
  | false =>
    show tB' F L O mb σ H1 Q
    exact ⟨g1, qc.mono (fun d kd H' g' s' => kd H' g' (s1.trans s')) fun H' ⟨a, b⟩ => ⟨a, s1.trans b⟩⟩
theorem n_if {c a b : Expr} {mc : Res Bool} {ma mb : Res α} (hc : PT X c (tB' F L O mc)) (ha : PE X a (tP b1 F L O ma)) (hb : PE X b (tP b1 F L O mb)) : PE X (.IfExp c a b pos) (tP b1 F L O (mc.bind fun c => if c then ma else mb)) := pe_imp (pe_ifExp hc ha hb) fun σ H Q ⟨g, q⟩ => by
  rw [out_bind] at q
  refine ⟨g, q.mono (fun c qc H1 g1 s1 => ?_) fun _ z => z⟩
  cases c with
  | true => exact ⟨g1, qc.mono (fun d kd v H' g' s' r' => kd v H' g' (s1.trans s') r') fun H' ⟨a, b⟩ => ⟨a, s1.trans b⟩⟩
  | false => exact ⟨g1, qc.mono (fun d kd v H' g' s' r' => kd v H' g' (s1.trans s') r') fun H' ⟨a, b⟩ => ⟨a, s1.trans b⟩⟩
end
section
variable {b1 b2 : Bool} {x y : Expr} {pos : Pos} {ma mb : Res Int}
variable (hx : PE X x (tP b1 F L O ma)) (hy : PE X y (tP b2 F L O mb))
include hx hy
theorem t_lt : PT X (.Compare x [.Lt] [y] pos) (tB' F L O (ma.bind fun x => mb.bind fun y => .ok (decide (x < y)))) := nf2t (pt_cmpR op_lt hx hy (nomark _)) (rr_I0 (g := fun x y => decide (x < y)))
theorem t_le : PT X (.Compare x [.LtE] [y] pos) (tB' F L O (ma.bind fun x => mb.bind fun y => .ok (decide (x ≤ y)))) := nf2t (pt_cmpR op_le hx hy (nomark _)) (rr_I0 (g := fun x y => decide (x ≤ y)))
theorem t_gt : PT X (.Compare x [.Gt] [y] pos) (tB' F L O (ma.bind fun x => mb.bind fun y => .ok (decide (y < x)))) := nf2t (pt_cmpR op_gt hx hy (nomark _)) (rr_I0 (g := fun x y => decide (y < x)))
theorem t_ge : PT X (.Compare x [.GtE] [y] pos) (tB' F L O (ma.bind fun x => mb.bind fun y => .ok (decide (y ≤ x)))) := nf2t (pt_cmpR op_ge hx hy (nomark _)) (rr_I0 (g := fun x y => decide (y ≤ x)))
theorem t_eq : PT X (.Compare x [.Eq] [y] pos) (tB' F L O (ma.bind fun x => mb.bind fun y => .ok (decide (x = y)))) := nf2t (pt_cmpR op_eq hx hy (nomark _)) fun x y vx vy H σ Q g rx ry q => by
  cases rx; cases ry
  exact ⟨rfl, by rw [show decide (V.int x = V.int y) = decide (x = y) by simp]; exact kp_flat g q⟩
theorem t_ne : PT X (.Compare x [.NotEq] [y] pos) (tB' F L O (ma.bind fun x => mb.bind fun y => .ok (!decide (x = y)))) := nf2t (pt_cmpR op_ne hx hy (nomark _)) fun x y vx vy H σ Q g rx ry q => by
  cases rx; cases ry
  exact ⟨rfl, by rw [show decide (V.int x = V.int y) = decide (x = y) by simp]; exact kp_flat g q⟩
end
section
variable {b1 b2 : Bool} {x y : Expr} {pos : Pos} {ma : Res α} {mb : Res β} [Data α] [Data β]
theorem t_eqD (hx : PE X x (tP b1 F L O ma)) (hy : PE X y (tP b2 F L O mb)) (hu : X.A.units + 64 < cLine) (hK : X.K = F.K := by rfl) :
    PT X (.Compare x [.Eq] [y] pos) (tB' F L O (ma.bind fun x => mb.bind fun y => need (shp x = true ∧ shp y = true) (.ok (eqD x y)))) := nf2t (pt_cmpR (op_eqD hu) hx hy (nomark _)) (rr_eqD hK)
theorem t_neD (hx : PE X x (tP b1 F L O ma)) (hy : PE X y (tP b2 F L O mb)) (hu : X.A.units + 64 < cLine) (hK : X.K = F.K := by rfl) :
    PT X (.Compare x [.NotEq] [y] pos) (tB' F L O (ma.bind fun x => mb.bind fun y => need (shp x = true ∧ shp y = true) (.ok (!eqD x y)))) := nf2t (pt_cmpR (op_neD hu) hx hy (nomark _)) fun x y vx vy H σ Q g rx ry q => by
  rw [out_need] at q
  rw [hK]
  exact ⟨_, _, Data.dp (Rep.mono rgn_sub rx), Data.dp (Rep.mono rgn_sub ry), q.1.1, q.1.2, kp_flat g q.2⟩
end
end
end NF

set_option Elab.async false
set_option linter.all false
set_option maxRecDepth 100000
/-! Nf2: lists, tuples, built-ins. -/
namespace NF
open PySem PySem.Spec PyProof.Rows L2
open Data (toD)
section
variable {X : Cx} {F : Fr} {L : List (Option Asr)} {O : List Own} {α β γ s : Type} [Rep α] [Rep β] [Rep γ] [Rep s]
/-! new lists -/
abbrev KF (α : Type) [Rep α] (b : Bool) (F : Fr) (L : List (Option Asr)) (O : List Own) (σ : L2.St) (H : Hp) (Q : VK) : List α → Prop :=
  fun as => ∀ p vs H', G F L O σ H' → Same H H' → H p = none → H' p = some (.lst vs) → Reps F.K F.mg (less (rgn b F O H') [p]) vs as → Q (.ref p) H'
theorem less_new {R R' : Hp} {p : Addr} (e : Same R R') (h : R p = none) : Same R (less R' [p]) := fun b o q => by
  have hb : b ∉ [p] := fun z => by
    rw [List.mem_singleton.mp z, h] at q
    cases q
  rw [less_out hb]
  exact e b o q
theorem rgn_none {b : Bool} {H : Hp} {p : Addr} (h : H p = none) : rgn b F O H p = none := by
  cases b
  · exact h
  · show less H _ p = none
    unfold less
    split
    · rfl
    · exact h
theorem kf_new {b : Bool} {σ : L2.St} {H : Hp} {Q : VK} {as : List α} {vs : List V} (g : G F L O σ H) (k : KF α b F L O σ H Q as) (r : Reps F.K F.mg (rgn b F O H) vs as) : ∀ p, H p = none → Q (.ref p) (upd H p (.lst vs)) := fun p hp =>
  k p vs _ (g.grow (same_upd hp)) (same_upd hp) hp upd_same (r.mono (less_new (rgn_grow (same_upd hp)) (rgn_none hp)))
theorem KF.mono {b : Bool} {σ : L2.St} {H H1 : Hp} {Q : VK} {as : List α} (e : Same H H1) (k : KF α b F L O σ H Q as) : KF α b F L O σ H1 Q as := fun p vs H' g s h1 h2 r => k p vs H' g (e.trans s) (e.free h1) h2 r
theorem rgn_new {b : Bool} {σ : L2.St} {H H' : Hp} {p : Addr} {o : HO} (g : G F L O σ H) (e : Same H H') (h : H p = none) (h' : H' p = some o) : rgn b F O H' p = some o := by
  cases b
  · exact h'
  · exact (less_out (g.go.out h)).trans h'
/-- a new list as a value -/
theorem f_val {e : Expr} {b : Bool} {m : Res (List α)} (h : PE X e (tF b F L O m)) : PE X e (tP b F L O m) := pe_imp h fun σ H Q ⟨g, q⟩ =>
  ⟨g, q.mono (fun as k p vs H' g' s h1 h2 r => k _ H' g' s ⟨p, vs, rfl, rgn_new g s h1 h2, r.mono less_same⟩) fun _ z => z⟩
theorem f_strong [Flat α] {e : Expr} {b b' : Bool} {m : Res (List α)} (h : PE X e (tF b F L O m)) : PE X e (tF b' F L O m) := pe_imp h fun σ H Q ⟨g, q⟩ =>
  ⟨g, q.mono (fun as k p vs H' g' s h1 h2 r => k p vs H' g' s h1 h2 (reps_flat.mpr (reps_flat.mp r))) fun _ z => z⟩
/-- by values, to a new list -/
def RRF (F : Fr) (L : List (Option Asr)) (O : List Own) (b1 b2 b3 : Bool) (r : R2) (mc : α → β → Res (List γ)) : Prop :=
  ∀ x y vx vy H σ Q, G F L O σ H → rp F (rgn b1 F O H) vx x → rp F (rgn b2 F O H) vy y → Out F (mc x y) (KF γ b3 F L O σ H Q) (XP F L O σ H) → r vx vy H Q
theorem nf2f {e : Expr} {b1 b2 b3 : Bool} {r : R2} {ma : Res α} {mb : Res β} {mc : α → β → Res (List γ)} (h : PE X e (tOp r (tP b1 F L O ma) (tP b2 F L O mb))) (hr : RRF F L O b1 b2 b3 r mc) :
    PE X e (tF b3 F L O (ma.bind fun x => mb.bind fun y => mc x y)) := pe_imp h fun σ H Q ⟨g, q⟩ => by
  rw [out_bind] at q
  refine ⟨g, q.mono (fun x qx v1 H1 g1 s1 r1 => ?_) fun _ z => z⟩
  rw [out_bind] at qx
  refine ⟨g1, qx.mono (fun y qy v2 H2 g2 s2 r2 => ?_) fun H' ⟨a, b⟩ => ⟨a, s1.trans b⟩⟩
  exact hr x y v1 v2 H2 σ Q g2 (Rep.mono (rgn_grow s2) r1) r2 (qy.mono (fun z kz => KF.mono (s1.trans s2) kz) fun H' ⟨a, b⟩ => ⟨a, (s1.trans s2).trans b⟩)
/-! places -/
def idx (xs : List α) (i : Int) : Res α := match atI xs i with
  | some a => .ok a
  | none => .bad
theorem at_get {K : Fg} {mg : MG} {H : Hp} {vs : List V} {as : List α} {i : Int} {a : α} (r : Reps K mg H vs as) (h : atI as i = some a) : ∃ v, atI vs i = some v ∧ Rep.rep K mg H v a := by
  unfold atI at h ⊢
  rw [r.length]
  cases e : ixN as.length i with
  | none => rw [e] at h; cases h
  | some j =>
    rw [e] at h
    exact reps_get r h
theorem ix_or {r r' : R2} (h : IxR X r) (h' : IxR X r') : IxR X (fun x y H Q => r x y H Q ∨ r' x y H Q) := fun a b pins s σ H x y v u Q I rx ry q hs => by
  rcases q with q | q
  · exact h a b pins s σ H x y v u Q I rx ry q hs
  · exact h' a b pins s σ H x y v u Q I rx ry q hs
theorem n_idx [Lk s α] {x y : Expr} {b1 b2 : Bool} {ma : Res s} {mb : Res Int} {pos : Pos} (hx : PE X x (tP b1 F L O ma)) (hy : PE X y (tP b2 F L O mb)) (hp : PlainIx y := by exact fun _ _ => rfl) (hK : X.K = F.K := by rfl) :
    PE X (.Subscript x y pos) (tP b1 F L O (ma.bind fun x => mb.bind fun y => idx (Lk.its x) y)) := nf2 (pe_ix (ix_or ix_list ix_tup) hx hy hp) fun x y vx vy H σ Q g rx ry q => by
  unfold idx at q
  cases e : atI (Lk.its x) y with
  | none => rw [e] at q; exact q.elim
  | some a =>
    rw [e] at q
    obtain ⟨p, vs, h1, h2, h3⟩ := Lk.get rx
    obtain ⟨v, h4, h5⟩ := at_get h3 e
    subst h1
    cases ry
    rw [hK]
    rcases h2 with h2 | h2
    · exact .inl ⟨p, vs, y, v, rfl, rfl, rgn_sub.seq h2, h4, q v H g (Same.refl _) h5⟩
    · exact .inr ⟨p, vs, y, v, rfl, rfl, same_t rgn_sub h2, h4, q v H g (Same.refl _) h5⟩
/-- the places of a pair -/
theorem n_fst {x : Expr} {b1 : Bool} {ma : Res (α × β)} {pos : Pos} {j p'} (hx : PE X x (tP b1 F L O ma)) (hp : PlainIx (.Constant (.int 0) j p') := by exact fun _ _ => rfl) (hK : X.K = F.K := by rfl) :
    PE X (.Subscript x (.Constant (.int 0) j p') pos) (tP b1 F L O (ma.bind fun x => .ok x.1)) := pe_imp (pe_ix ix_tup hx pe_int hp) fun σ H Q ⟨g, q⟩ => by
  rw [out_bind] at q
  refine ⟨g, q.mono (fun x qx v1 H1 g1 s1 r1 => ?_) fun _ z => z⟩
  obtain ⟨p, a, b, h1, h2, h3, h4⟩ := r1
  subst h1
  rw [hK]
  exact ⟨p, _, 0, a, rfl, rfl, same_t rgn_sub h2, rfl, qx _ H1 g1 s1 h3⟩
theorem n_snd {x : Expr} {b1 : Bool} {ma : Res (α × β)} {pos : Pos} {j p'} (hx : PE X x (tP b1 F L O ma)) (hp : PlainIx (.Constant (.int 1) j p') := by exact fun _ _ => rfl) (hK : X.K = F.K := by rfl) :
    PE X (.Subscript x (.Constant (.int 1) j p') pos) (tP b1 F L O (ma.bind fun x => .ok x.2)) := pe_imp (pe_ix ix_tup hx pe_int hp) fun σ H Q ⟨g, q⟩ => by
  rw [out_bind] at q
  refine ⟨g, q.mono (fun x qx v1 H1 g1 s1 r1 => ?_) fun _ z => z⟩
  obtain ⟨p, a, b, h1, h2, h3, h4⟩ := r1
  subst h1
  rw [hK]
  exact ⟨p, _, 1, b, rfl, rfl, same_t rgn_sub h2, rfl, qx _ H1 g1 s1 h4⟩
/-! tuples -/
theorem n_tup2 {x y : Expr} {b : Bool} {ma : Res α} {mb : Res β} {k} {pos : Pos} (hx : PE X x (tP b F L O ma)) (hy : PE X y (tP b F L O mb)) (h1 : starEach [x, y] X.env = (false, eval x X.env) :: starEach [y] X.env := by rfl) (h2 : starEach [y] X.env = (false, eval y X.env) :: starEach [] X.env := by rfl) :
    PE X (.Tuple [x, y] k pos) (tP b F L O (ma.bind fun x => mb.bind fun y => .ok (x, y))) := pe_imp (pe_tup (pa_cons hx (pa_cons hy pa_nil h2) h1)) fun σ H Q ⟨g, q⟩ => by
  rw [out_bind] at q
  refine ⟨g, q.mono (fun x qx v1 H1 g1 s1 r1 => ?_) fun _ z => z⟩
  rw [out_bind] at qx
  refine ⟨g1, qx.mono (fun y qy v2 H2 g2 s2 r2 => ?_) fun H' ⟨a, b⟩ => ⟨a, s1.trans b⟩⟩
  refine ⟨by show 2 ≤ sizeLine; decide, fun p hp => qy _ _ (g2.grow (same_upd hp)) ((s1.trans s2).trans (same_upd hp)) ⟨p, v1, v2, rfl, .of (rgn_new g2 (same_upd hp) hp upd_same), Rep.mono (rgn_grow (s2.trans (same_upd hp))) r1, Rep.mono (rgn_grow (same_upd hp)) r2⟩⟩
/-! argument lists -/
def tL (b : Bool) (F : Fr) (L : List (Option Asr)) (O : List Own) (m : Res (List α)) : TA := fun σ H Q =>
  G F L O σ H ∧ Out F m (fun as => ∀ vs H', G F L O σ H' → Same H H' → Reps F.K F.mg (rgn b F O H') vs as → Q vs H') (XP F L O σ H)
theorem l_nil {b : Bool} : PA X [] (tL (α := α) b F L O (.ok [])) := pa_imp pa_nil fun σ H Q ⟨g, q⟩ => q [] H g (Same.refl _) .nil
theorem l_cons {b : Bool} {e : Expr} {es : List Expr} {ma : Res α} {mr : Res (List α)} (he : PE X e (tP b F L O ma)) (hr : PA X es (tL b F L O mr)) (hs : starEach (e :: es) X.env = (false, eval e X.env) :: starEach es X.env := by rfl) :
    PA X (e :: es) (tL b F L O (ma.bind fun x => mr.bind fun xs => .ok (x :: xs))) := pa_imp (pa_cons he hr hs) fun σ H Q ⟨g, q⟩ => by
  rw [out_bind] at q
  refine ⟨g, q.mono (fun x qx v1 H1 g1 s1 r1 => ?_) fun _ z => z⟩
  rw [out_bind] at qx
  refine ⟨g1, qx.mono (fun y qy v2 H2 g2 s2 r2 => ?_) fun H' ⟨a, b⟩ => ⟨a, s1.trans b⟩⟩
  exact qy _ H2 g2 (s1.trans s2) (.cons (Rep.mono (rgn_grow s2) r1) r2)
theorem l_star [Lk s α] {b : Bool} {e : Expr} {es : List Expr} {p : Pos} {ma : Res s} {mr : Res (List α)} (he : PE X e (tP b F L O ma)) (hr : PA X es (tL b F L O mr)) (hs : starEach (.Starred e p :: es) X.env = (true, eval e X.env) :: starEach es X.env := by rfl) (hK : X.K = F.K := by rfl) :
    PA X (.Starred e p :: es) (tL b F L O (ma.bind fun x => mr.bind fun xs => .ok (Lk.its x ++ xs))) := pa_imp (StX.pa_star he hr hs) fun σ H Q ⟨g, q⟩ => by
  rw [out_bind] at q
  refine ⟨g, q.mono (fun x qx v1 H1 g1 s1 r1 => ?_) fun _ z => z⟩
  rw [out_bind] at qx
  obtain ⟨a, vs, h1, h2, h3⟩ := Lk.get r1
  rw [hK]
  refine ⟨a, vs, h1, h2.elim (fun z => .inr (rgn_sub.seq z)) (fun z => .inl (same_t rgn_sub z)), g1, qx.mono (fun y qy v2 H2 g2 s2 r2 => ?_) fun H' ⟨a, b⟩ => ⟨a, s1.trans b⟩⟩
  exact qy _ H2 g2 (s1.trans s2) (reps_append (h3.mono (rgn_grow s2)) r2)
theorem f_lst {b : Bool} {es : List Expr} {m : Res (List α)} {pos : Pos} (h : PA X es (tL b F L O m)) : PE X (.List es pos) (tF b F L O (m.bind fun as => need (as.length ≤ sizeLine) (.ok as))) := pe_imp (pe_lst h) fun σ H Q ⟨g, q⟩ => by
  rw [out_bind] at q
  refine ⟨g, q.mono (fun as qx vs H1 g1 s1 r1 => ?_) fun _ z => z⟩
  rw [out_need] at qx
  exact ⟨by rw [r1.length]; exact qx.1, kf_new g1 (KF.mono s1 qx.2) r1⟩
theorem n_tupN {b : Bool} {es : List Expr} {m : Res (List α)} {x1} {pos : Pos} (h : PA X es (tL b F L O m)) : PE X (.Tuple es x1 pos) (tP b F L O (m.bind fun as => need (as.length ≤ sizeLine) (.ok (Tp.mk as)))) := pe_imp (pe_tup h) fun σ H Q ⟨g, q⟩ => by
  rw [out_bind] at q
  refine ⟨g, q.mono (fun as qx vs H1 g1 s1 r1 => ?_) fun _ z => z⟩
  rw [out_need] at qx
  exact ⟨by rw [r1.length]; exact qx.1, fun p hp => qx.2 _ _ (g1.grow (same_upd hp)) (s1.trans (same_upd hp)) ⟨p, vs, rfl, .of (rgn_new g1 (same_upd hp) hp upd_same), r1.mono (rgn_grow (same_upd hp))⟩⟩
/-! xs + ys, xs * n, slices -/
theorem f_cat {x y : Expr} {b : Bool} {ma mb : Res (List α)} {pos : Pos} (hx : PE X x (tP b F L O ma)) (hy : PE X y (tP b F L O mb)) :
    PE X (.BinOp x .Add y pos) (tF b F L O (ma.bind fun x => mb.bind fun y => need (x.length + y.length ≤ sizeLine) (.ok (x ++ y)))) := nf2f (pe_op op_cat hx hy) fun x y vx vy H σ Q g rx ry q => by
  rw [out_need] at q
  obtain ⟨p, vs, rfl, h2, h3⟩ := rx
  obtain ⟨p', vs', rfl, h2', h3'⟩ := ry
  exact ⟨p, p', vs, vs', rfl, rfl, rgn_sub _ _ h2, rgn_sub _ _ h2', by rw [h3.length, h3'.length]; exact q.1, kf_new g q.2 (reps_append h3 h3')⟩
theorem reps_rep {K : Fg} {mg : MG} {H : Hp} {vs : List V} {as : List α} (r : Reps K mg H vs as) : ∀ n : Nat, Reps K mg H (List.replicate n vs).flatten (List.replicate n as).flatten
  | 0 => .nil
  | n + 1 => by
    rw [List.replicate_succ, List.replicate_succ, List.flatten_cons, List.flatten_cons]
    exact reps_append r (reps_rep r n)
theorem f_rep {x y : Expr} {b b2 : Bool} {ma : Res (List α)} {mb : Res Int} {pos : Pos} (hx : PE X x (tP b F L O ma)) (hy : PE X y (tP b2 F L O mb)) :
    PE X (.BinOp x .Mult y pos) (tF b F L O (ma.bind fun x => mb.bind fun n => need (Rg63 n ∧ x.length * n.toNat ≤ sizeLine) (.ok (List.replicate n.toNat x).flatten))) := nf2f (pe_op op_rep hx hy) fun x y vx vy H σ Q g rx ry q => by
  rw [out_need] at q
  obtain ⟨p, vs, rfl, h2, h3⟩ := rx
  cases ry
  exact ⟨p, y, vs, rfl, rfl, rgn_sub _ _ h2, q.1.1.1, q.1.1.2, by rw [h3.length]; exact q.1.2, kf_new g q.2 (reps_rep h3 _)⟩
def cut (xs : List α) (lo hi : Option Int) : List α := List.take (HT.sIx xs.length xs.length hi - HT.sIx xs.length 0 lo) (List.drop (HT.sIx xs.length 0 lo) xs)
def tO (F : Fr) (L : List (Option Asr)) (O : List Own) (m : Res (Option Int)) : TO := fun σ H Q =>
  G F L O σ H ∧ Out F m (fun a => ∀ H', G F L O σ H' → Same H H' → Q a H') (XP F L O σ H)
theorem po_imp {e : Option Expr} {t t' : TO} (h : PO X e t) (i : ∀ σ H Q, t' σ H Q → t σ H Q) : PO X e t' := ⟨fun pins s σ H Q I q => h.run pins s σ H Q I (i σ H Q q)⟩
theorem o_none : PO X none (tO F L O (.ok none)) := po_imp po_none fun σ H Q ⟨g, q⟩ => q H g (Same.refl _)
theorem o_some {e : Expr} {b : Bool} {m : Res Int} (h : PE X e (tP b F L O m)) : PO X (some e) (tO F L O (m.bind fun i => .ok (some i))) := po_imp (po_some h) fun σ H Q ⟨g, q⟩ => by
  rw [out_bind] at q
  exact ⟨g, q.mono (fun i k v H' g' s r => ⟨i, r, k H' g' s⟩) fun _ z => z⟩
theorem f_slice {x : Expr} {b : Bool} {ma : Res (List α)} {lo hi : Option Expr} {ml mh : Res (Option Int)} {p1 p2 : Pos} (hx : PE X x (tP b F L O ma)) (hl : PO X lo (tO F L O ml)) (hh : PO X hi (tO F L O mh)) :
    PE X (.Subscript x (.Slice lo hi none p2) p1) (tF b F L O (ma.bind fun x => ml.bind fun l => mh.bind fun h => .ok (cut x l h))) := pe_imp (pe_slice sl_list hx hl hh) fun σ H Q ⟨g, q⟩ => by
  rw [out_bind] at q
  refine ⟨g, q.mono (fun x qx v1 H1 g1 s1 r1 => ?_) fun _ z => z⟩
  rw [out_bind] at qx
  refine ⟨g1, qx.mono (fun l ql H2 g2 s2 => ?_) fun H' ⟨a, b⟩ => ⟨a, s1.trans b⟩⟩
  rw [out_bind] at ql
  refine ⟨g2, ql.mono (fun h qh H3 g3 s3 => ?_) fun H' ⟨a, b⟩ => ⟨a, (s1.trans s2).trans b⟩⟩
  obtain ⟨p, vs, rfl, h2, h3⟩ := r1
  refine ⟨p, vs, rfl, .of ((s2.trans s3) _ _ (rgn_sub _ _ h2)), kf_new g3 (KF.mono ((s1.trans s2).trans s3) qh) ?_⟩
  have e : vs.length = x.length := h3.length
  unfold cutV cut
  rw [e]
  exact reps_take _ (reps_drop _ (h3.mono (rgn_grow (s2.trans s3))))
/-! built-ins of one and of two arguments -/
def RC1 (F : Fr) (L : List (Option Asr)) (O : List Own) (b1 b3 : Bool) (r : List V → Hp → VK → Prop) (mc : α → Res γ) : Prop :=
  ∀ x vx H σ Q, G F L O σ H → rp F (rgn b1 F O H) vx x → Out F (mc x) (KP γ b3 F L O σ H Q) (XP F L O σ H) → r [vx] H Q
theorem nc1 {e : Expr} {b1 b3 : Bool} {r : List V → Hp → VK → Prop} {ma : Res α} {mc : α → Res γ} (h : PE X e (tCB r (tCons (tP b1 F L O ma) tNil))) (hr : RC1 F L O b1 b3 r mc) :
    PE X e (tP b3 F L O (ma.bind mc)) := pe_imp h fun σ H Q ⟨g, q⟩ => by
  rw [out_bind] at q
  refine ⟨g, q.mono (fun x qx v1 H1 g1 s1 r1 => ?_) fun _ z => z⟩
  exact hr x v1 H1 σ Q g1 r1 (qx.mono (fun z kz v H' g' s' r' => kz v H' g' (s1.trans s') r') fun H' ⟨a, b⟩ => ⟨a, s1.trans b⟩)
def RC1F (F : Fr) (L : List (Option Asr)) (O : List Own) (b1 b3 : Bool) (r : List V → Hp → VK → Prop) (mc : α → Res (List γ)) : Prop :=
  ∀ x vx H σ Q, G F L O σ H → rp F (rgn b1 F O H) vx x → Out F (mc x) (KF γ b3 F L O σ H Q) (XP F L O σ H) → r [vx] H Q
theorem nc1f {e : Expr} {b1 b3 : Bool} {r : List V → Hp → VK → Prop} {ma : Res α} {mc : α → Res (List γ)} (h : PE X e (tCB r (tCons (tP b1 F L O ma) tNil))) (hr : RC1F F L O b1 b3 r mc) :
    PE X e (tF b3 F L O (ma.bind mc)) := pe_imp h fun σ H Q ⟨g, q⟩ => by
  rw [out_bind] at q
  refine ⟨g, q.mono (fun x qx v1 H1 g1 s1 r1 => ?_) fun _ z => z⟩
  exact hr x v1 H1 σ Q g1 r1 (qx.mono (fun z kz => KF.mono s1 kz) fun H' ⟨a, b⟩ => ⟨a, s1.trans b⟩)
theorem nc2 {e : Expr} {b1 b2 b3 : Bool} {r : List V → Hp → VK → Prop} {ma : Res α} {mb : Res β} {mc : α → β → Res γ} (h : PE X e (tCB r (tCons (tP b1 F L O ma) (tCons (tP b2 F L O mb) tNil))))
    (hr : ∀ x y vx vy H σ Q, G F L O σ H → rp F (rgn b1 F O H) vx x → rp F (rgn b2 F O H) vy y → Out F (mc x y) (KP γ b3 F L O σ H Q) (XP F L O σ H) → r [vx, vy] H Q) :
    PE X e (tP b3 F L O (ma.bind fun x => mb.bind fun y => mc x y)) := pe_imp h fun σ H Q ⟨g, q⟩ => by
  rw [out_bind] at q
  refine ⟨g, q.mono (fun x qx v1 H1 g1 s1 r1 => ?_) fun _ z => z⟩
  rw [out_bind] at qx
  refine ⟨g1, qx.mono (fun y qy v2 H2 g2 s2 r2 => ?_) fun H' ⟨a, b⟩ => ⟨a, s1.trans b⟩⟩
  exact hr x y v1 v2 H2 σ Q g2 (Rep.mono (rgn_grow s2) r1) r2 (qy.mono (fun z kz v H' g' s' r' => kz v H' g' ((s1.trans s2).trans s') r') fun H' ⟨a, b⟩ => ⟨a, (s1.trans s2).trans b⟩)
theorem n_len [Lk s α] {e : Expr} {b1 b3 : Bool} {ma : Res s} {r} (h : PE X e (tCB r (tCons (tP b1 F L O ma) tNil))) (er : r = fun xs H Q => ∃ p ys, xs = [V.ref p] ∧ (SqL X.K H p ys ∨ SqT X.K H p ys) ∧ Q (V.int ys.length) H) (hK : X.K = F.K := by rfl) : PE X e (tP b3 F L O (ma.bind fun x => .ok ((Lk.its x).length : Int))) := nc1 h fun x vx H σ Q g rx q => by
  subst er
  obtain ⟨p, vs, rfl, h2, h3⟩ := Lk.get rx
  rw [hK]
  refine ⟨p, vs, rfl, h2.elim (fun z => .inl (rgn_sub.seq z)) (fun z => .inr (same_t rgn_sub z)), ?_⟩
  rw [h3.length]
  exact kp_flat g q
end
end NF

set_option Elab.async false
set_option linter.all false
set_option maxRecDepth 100000
/-! Nf3: statements, defs, calls. -/
namespace NF
open PySem PySem.Spec PyProof.Rows L2
open Data (toD)
section
variable {X : Cx} {F : Fr} {L : List (Option Asr)} {O : List Own} {α β γ s ι : Type} [Rep α] [Rep β] [Rep γ] [Rep s] [Rep ι]

/-! owned objects may be let go -/
theorem GO.sub {O' : List Own} {H : Hp} (g : GO F O H) (h : List.Sublist O' O) : GO F O' H where
  objs := fun w hw => let ⟨o, ho, p⟩ := g.objs w (h.subset hw); ⟨o, ho, w.mono (less_sub fun a ha => by
    rcases List.mem_append.mp ha with z | z
    · exact List.mem_append_left _ ((h.map Own.a).subset z)
    · exact List.mem_append_right _ z) p⟩
  nd := g.nd.sublist (h.map Own.a)
  own := fun w hw => g.own w (h.subset hw)
  keep := g.keep
  live := g.live
  hid := g.hid
  apart := fun w hw => g.apart w (h.subset hw)
  facts := fun z hz => z.mono (less_sub fun a ha => by
    rcases List.mem_append.mp ha with z | z
    · exact List.mem_append_left _ ((h.map Own.a).subset z)
    · exact List.mem_append_right _ z) (g.facts z hz)
theorem rg_sub {O' : List Own} {H : Hp} (h : List.Sublist O' O) : Same (rg F O H) (rg F O' H) := less_sub fun a ha => by
  rcases List.mem_append.mp ha with z | z
  · exact List.mem_append_left _ ((h.map Own.a).subset z)
  · exact List.mem_append_right _ z

/-! ### statements -/
abbrev XPS (F : Fr) : Hp → Prop := fun H' => GO F F.O0 H'
/-- goes on -/
def tN {β : Type} (F : Fr) (L : List (Option Asr)) (O : List Own) (m : Res β) (L' : β → List (Option Asr)) (O' : β → List Own) : TS := fun D σ H =>
  G F L O σ H ∧ Out F m (fun b => ∀ σ' H', G F (L' b) (O' b) σ' H' → D.nx σ' H') (XPS F)
/-- hands back -/
def tT {β : Type} (F : Fr) (L : List (Option Asr)) (O : List Own) (m : Res β) (Ret : β → V → Hp → Prop) : TS := fun D σ H =>
  G F L O σ H ∧ Out F m (fun b => ∀ v H', Ret b v H' → D.rt v H') (XPS F)
/-- goes on or hands back -/
def tM {β δ : Type} (F : Fr) (L : List (Option Asr)) (O : List Own) (m : Res (Sum β δ)) (L' : β → List (Option Asr)) (O' : β → List Own) (Ret : δ → V → Hp → Prop) : TS := fun D σ H =>
  G F L O σ H ∧ Out F m (fun r => match r with
    | .inl b => ∀ σ' H', G F (L' b) (O' b) σ' H' → D.nx σ' H'
    | .inr d => ∀ v H', Ret d v H' → D.rt v H') (XPS F)
theorem pss_ex {ι : Type} {st : List Stmt} {t : ι → TS} (h : ∀ b, PSs X st (t b)) : PSs X st (fun D σ H => ∃ b, t b D σ H) := ⟨fun pins s σ H D I ⟨b, q⟩ => (h b).run pins s σ H D I q⟩
variable {st : Stmt} {rest : List Stmt} {B B' D' : Type} {Ret : D' → V → Hp → Prop} {L' : B → List (Option Asr)} {O' : B → List Own} {L2' : B' → List (Option Asr)} {O2' : B' → List Own}
theorem b_N {m1 : Res B} {m2 : B → Res D'} (h1 : PS X st (tN F L O m1 L' O')) (h2 : ∀ b, PSs X rest (tT F (L' b) (O' b) (m2 b) Ret)) : PSs X (st :: rest) (tT F L O (m1.bind m2) Ret) := pss_imp (pss_cons h1 (pss_ex h2)) fun D σ H ⟨g, q⟩ => by
  rw [out_bind] at q
  exact ⟨g, q.mono (fun b k σ' H' g' => ⟨b, g', k⟩) fun _ z => z⟩
theorem n_N {m1 : Res B} {m2 : B → Res B'} (h1 : PS X st (tN F L O m1 L' O')) (h2 : ∀ b, PSs X rest (tN F (L' b) (O' b) (m2 b) L2' O2')) : PSs X (st :: rest) (tN F L O (m1.bind m2) L2' O2') := pss_imp (pss_cons h1 (pss_ex h2)) fun D σ H ⟨g, q⟩ => by
  rw [out_bind] at q
  exact ⟨g, q.mono (fun b k σ' H' g' => ⟨b, g', k⟩) fun _ z => z⟩
theorem m_N {m1 : Res B} {m2 : B → Res (Sum B' D')} (h1 : PS X st (tN F L O m1 L' O')) (h2 : ∀ b, PSs X rest (tM F (L' b) (O' b) (m2 b) L2' O2' Ret)) : PSs X (st :: rest) (tM F L O (m1.bind m2) L2' O2' Ret) := pss_imp (pss_cons h1 (pss_ex h2)) fun D σ H ⟨g, q⟩ => by
  rw [out_bind] at q
  exact ⟨g, q.mono (fun b k σ' H' g' => ⟨b, g', k⟩) fun _ z => z⟩
/-- the end of a block that goes on; slots and owned objects may be forgotten -/
def wk : List (Option Asr) → List (Option Asr) → Prop
  | [], [] => True
  | x :: xs, y :: ys => (y = none ∨ y = x) ∧ wk xs ys
  | _, _ => False
theorem wk_ok {R : Hp} : ∀ {l l' : List (Option Asr)} {σ : L2.St}, wk l l' → Paired (SlotOk R) l σ → Paired (SlotOk R) l' σ
  | [], [], _, _, h => h
  | _ :: _, _ :: _, _, ⟨w, ws⟩, .cons h hs => .cons (by
      rcases w with rfl | rfl
      · trivial
      · exact h) (wk_ok ws hs)
  | [], _ :: _, _, w, _ => w.elim
  | _ :: _, [], _, w, _ => w.elim
theorem G.to {L'' : List (Option Asr)} {O'' : List Own} {σ : L2.St} {H : Hp} (g : G F L O σ H) (h : wk L L'') (ho : List.Sublist O'' O) : G F L'' O'' σ H :=
  ⟨L2.Paired.mapP (wk_ok h g.slots) fun _ _ q => q.mono (rg_sub ho), g.go.sub ho⟩
theorem n_end (b : B) (h : wk L (L' b)) (ho : List.Sublist (O' b) O) : PSs X [] (tN F L O (.ok b) L' O') := pss_imp pss_nil fun D σ H ⟨g, q⟩ => q σ H (g.to h ho)
theorem m_end (b : B) (h : wk L (L' b)) (ho : List.Sublist (O' b) O) : PSs X [] (tM F L O (.ok (.inl b)) L' O' Ret) := pss_imp pss_nil fun D σ H ⟨g, q⟩ => q σ H (g.to h ho)
theorem m_T {m : Res D'} {st : List Stmt} (h : PSs X st (tT F L O m Ret)) : PSs X st (tM F L O (m.bind fun d => .ok (.inr d)) L' O' Ret) := pss_imp h fun D σ H ⟨g, q⟩ => by
  rw [out_bind] at q
  exact ⟨g, q⟩
theorem b_s {m : Res D'} (h : PS X st (tT F L O m Ret)) : PSs X [st] (tT F L O m Ret) := pss_one h
/-! names -/
def tNx (i : Nat) (te : TE) : TS := tAsg te (gName i)
theorem set_ok {R : Hp} {v : V} {p : Option Asr} (h : SlotOk R p (some v)) : ∀ {l : List (Option Asr)} {σ : L2.St} (i : Nat), Paired (SlotOk R) l σ → Paired (SlotOk R) (l.set i p) (σ.set i (some v))
  | _, _, _, .nil => .nil
  | _, _, 0, .cons _ t => .cons h t
  | _, _, n + 1, .cons q t => .cons q (set_ok h n t)
theorem go_s {H' : Hp} {O₀ : List Own} (g : GO F O H') (h : List.Sublist O₀ O) : GO F O₀ H' := g.sub h
/-- goes on, with a new owned object at p -/
def tNp {β : Type} (F : Fr) (L : List (Option Asr)) (O : List Own) (m : Res β) (L' : Addr → β → List (Option Asr)) (O' : Addr → β → List Own) : TS := fun D σ H =>
  G F L O σ H ∧ Out F m (fun b => ∀ p σ' H', G F (L' p b) (O' p b) σ' H' → D.nx σ' H') (XPS F)
section
variable {L' : Addr → B → List (Option Asr)} {O' : Addr → B → List Own}
theorem b_Np {m1 : Res B} {m2 : B → Res D'} (h1 : PS X st (tNp F L O m1 L' O')) (h2 : ∀ b p, PSs X rest (tT F (L' p b) (O' p b) (m2 b) Ret)) : PSs X (st :: rest) (tT F L O (m1.bind m2) Ret) := pss_imp (pss_cons h1 (pss_ex fun b => pss_ex (h2 b))) fun D σ H ⟨g, q⟩ => by
  rw [out_bind] at q
  exact ⟨g, q.mono (fun b k p σ' H' g' => ⟨b, p, g', k⟩) fun _ z => z⟩
theorem n_Np {m1 : Res B} {m2 : B → Res B'} (h1 : PS X st (tNp F L O m1 L' O')) (h2 : ∀ b p, PSs X rest (tN F (L' p b) (O' p b) (m2 b) L2' O2')) : PSs X (st :: rest) (tN F L O (m1.bind m2) L2' O2') := pss_imp (pss_cons h1 (pss_ex fun b => pss_ex (h2 b))) fun D σ H ⟨g, q⟩ => by
  rw [out_bind] at q
  exact ⟨g, q.mono (fun b k p σ' H' g' => ⟨b, p, g', k⟩) fun _ z => z⟩
theorem m_Np {m1 : Res B} {m2 : B → Res (Sum B' D')} (h1 : PS X st (tNp F L O m1 L' O')) (h2 : ∀ b p, PSs X rest (tM F (L' p b) (O' p b) (m2 b) L2' O2' Ret)) : PSs X (st :: rest) (tM F L O (m1.bind m2) L2' O2' Ret) := pss_imp (pss_cons h1 (pss_ex fun b => pss_ex (h2 b))) fun D σ H ⟨g, q⟩ => by
  rw [out_bind] at q
  exact ⟨g, q.mono (fun b k p σ' H' g' => ⟨b, p, g', k⟩) fun _ z => z⟩
end
section
variable {x : Str} {e : Expr} {pos pos' : Pos} (i : Nat)
/-- x = e -/
theorem s_set (hN : X.N.Nodup) (hO : List.Sublist F.O0 O) {m : Res α} (he : PE X e (tP true F L O m)) (hi : X.N[i]? = some x := by rfl) (hx : L2.Loc X.env.scope x := by first | exact .inl rfl | exact .inr rfl) (hs : swapsWith e (some (.Name x pos')) pos.line X.env = pure false := by rfl) (hf : X.fn x = true ∨ X.env.scope.names.lookup x = some .local := by first | exact .inl rfl | exact .inr rfl) :
    PS X (.Assign [.Name x pos'] e pos) (tN F L O m (fun a => L.set i (vl F.K F.mg a)) (fun _ => O)) := ps_imp (ps_set (i := i) hN hi hx he hs hf) fun D σ H ⟨g, q⟩ =>
  ⟨g, q.mono (fun a k v H1 g1 s1 r1 => k _ _ ⟨set_ok (p := vl F.K F.mg a) r1 i g1.slots, g1.go⟩) fun H' ⟨a, _⟩ => a.go.sub hO⟩
theorem rg_new {H H1 : Hp} {p : Addr} {w : Own} (hw : w.a = p) (e : Same H H1) (h1 : H p = none) : Same (rg F O H) (rg F (w :: O) H1) := fun b o q => by
  unfold rg at q ⊢
  by_cases hb : b ∈ addrs O ++ F.A
  · rw [less_in hb] at q; cases q
  · rw [less_out hb] at q
    rw [less_out (by
      intro z
      rcases List.mem_append.mp z with z | z
      · rcases List.mem_cons.mp z with z | z
        · rw [z, hw, h1] at q; cases q
        · exact hb (List.mem_append_left _ z)
      · exact hb (List.mem_append_right _ z))]
    exact e b o q
theorem go_new {σ : L2.St} {H H1 : Hp} {p : Addr} {vs : List V} {as : List α} (g : G F L O σ H) (g1 : GO F O H1) (e : Same H H1) (h1 : H p = none) (h2 : H1 p = some (.lst vs)) (r : Reps F.K F.mg (less (rg F O H1) [p]) vs as) : GO F (ow F.K F.mg p as :: O) H1 where
  objs := fun w hw => by
    rcases List.mem_cons.mp hw with rfl | hw
    · refine ⟨_, h2, vs, rfl, r.mono fun b o q => ?_⟩
      unfold rg
      by_cases hb : b ∈ [p]
      · rw [less_in hb] at q; cases q
      · rw [less_out hb] at q
        unfold rg at q
        by_cases hc : b ∈ addrs O ++ F.A
        · rw [less_in hc] at q; cases q
        · rw [less_out hc] at q
          rw [less_out]
          · exact q
          · intro z
            rcases List.mem_cons.mp (show b ∈ p :: (addrs O ++ F.A) from z) with z | z
            · exact hb (List.mem_singleton.mpr z)
            · exact hc z
    · obtain ⟨o, ho, hp⟩ := g.go.objs w hw
      exact ⟨o, e _ _ ho, w.mono (rg_new rfl e h1) hp⟩
  nd := by
    refine List.nodup_cons.mpr ⟨fun z => ?_, g1.nd⟩
    exact g.go.out h1 (List.mem_append_left _ z)
  own := fun w hw => by
    rcases List.mem_cons.mp hw with rfl | hw
    · refine .inr ?_
      cases q : F.H0 p with
      | none => exact q
      | some o => exact (g.go.live p (by rw [q]; simp) h1).elim
    · exact g1.own w hw
  keep := g1.keep
  live := g1.live
  hid := g1.hid
  apart := fun w hw => by
    rcases List.mem_cons.mp hw with rfl | hw
    · exact fun z => g.go.out h1 (List.mem_append_right _ z)
    · exact g1.apart w hw
  facts := fun z hz => z.mono (rg_new rfl e h1) (g.go.facts z hz)
/-- x = a new list, owned from now on -/
theorem s_own (hN : X.N.Nodup) (hO : List.Sublist F.O0 O) {m : Res (List α)} (he : PE X e (tF true F L O m)) (hi : X.N[i]? = some x := by rfl) (hx : L2.Loc X.env.scope x := by first | exact .inl rfl | exact .inr rfl) (hs : swapsWith e (some (.Name x pos')) pos.line X.env = pure false := by rfl) (hf : X.fn x = true ∨ X.env.scope.names.lookup x = some .local := by first | exact .inl rfl | exact .inr rfl) :
    PS X (.Assign [.Name x pos'] e pos) (tNp F L O m (fun p _ => L.set i (rf p)) (fun p as => ow F.K F.mg p as :: O)) := ps_imp (ps_set (i := i) hN hi hx he hs hf) fun D σ H ⟨g, q⟩ =>
  ⟨g, q.mono (fun as k p vs H1 g1 s1 h1 h2 r1 => k p _ _ ⟨set_ok (p := rf p) rfl i (L2.Paired.mapP g.slots fun _ _ z => z.mono (rg_new rfl s1 h1)), go_new g g1.go s1 h1 h2 r1⟩) fun H' ⟨a, _⟩ => a.go.sub hO⟩
end
/-! if -/
section
variable {c : Expr} {mc : Res Bool} {body orelse : List Stmt} {pos : Pos}
theorem b_if {m1 m2 : Res D'} (hc : PT X c (tB' F L O mc)) (hb : PSs X body (tT F L O m1 Ret)) (hr : PSs X rest (tT F L O m2 Ret)) (hO : List.Sublist F.O0 O) : PSs X (.If c body [] pos :: rest) (tT F L O (mc.bind fun c => if c then m1 else m2) Ret) := pss_imp (pss_cons (ps_if hc hb pss_nil) hr) fun D σ H ⟨g, q⟩ => by
  rw [out_bind] at q
  refine ⟨g, q.mono (fun c k H1 g1 s1 => ?_) fun H' ⟨a, _⟩ => a.go.sub hO⟩
  cases c with
  | true => exact ⟨g1, k⟩
  | false => exact ⟨g1, k⟩
theorem b_ife {m1 m2 : Res D'} (hc : PT X c (tB' F L O mc)) (hb : PSs X body (tT F L O m1 Ret)) (hr : PSs X orelse (tT F L O m2 Ret)) (hO : List.Sublist F.O0 O) : PS X (.If c body orelse pos) (tT F L O (mc.bind fun c => if c then m1 else m2) Ret) := ps_imp (ps_if hc hb hr) fun D σ H ⟨g, q⟩ => by
  rw [out_bind] at q
  refine ⟨g, q.mono (fun c k H1 g1 s1 => ?_) fun H' ⟨a, _⟩ => a.go.sub hO⟩
  cases c with
  | true => exact ⟨g1, k⟩
  | false => exact ⟨g1, k⟩
theorem s_if {m1 m2 : Res B} (hc : PT X c (tB' F L O mc)) (hb : PSs X body (tN F L O m1 L' O')) (hr : PSs X orelse (tN F L O m2 L' O')) (hO : List.Sublist F.O0 O) : PS X (.If c body orelse pos) (tN F L O (mc.bind fun c => if c then m1 else m2) L' O') := ps_imp (ps_if hc hb hr) fun D σ H ⟨g, q⟩ => by
  rw [out_bind] at q
  refine ⟨g, q.mono (fun c k H1 g1 s1 => ?_) fun H' ⟨a, _⟩ => a.go.sub hO⟩
  cases c with
  | true => exact ⟨g1, k⟩
  | false => exact ⟨g1, k⟩
theorem m_if {m1 : Res D'} {m2 : Res (Sum B D')} (hc : PT X c (tB' F L O mc)) (hb : PSs X body (tT F L O m1 Ret)) (hr : PSs X rest (tM F L O m2 L' O' Ret)) (hO : List.Sublist F.O0 O) : PSs X (.If c body [] pos :: rest) (tM F L O (mc.bind fun c => if c then (m1.bind fun d => .ok (.inr d)) else m2) L' O' Ret) := pss_imp (pss_cons (ps_if hc hb pss_nil) hr) fun D σ H ⟨g, q⟩ => by
  rw [out_bind] at q
  refine ⟨g, q.mono (fun c k H1 g1 s1 => ?_) fun H' ⟨a, _⟩ => a.go.sub hO⟩
  cases c with
  | true =>
    simp only [if_true] at k
    rw [out_bind] at k
    exact ⟨g1, k⟩
  | false => exact ⟨g1, k⟩
end
/-! return -/
def rV {ρ : Type} [Rep ρ] (F : Fr) (b : ρ) (v : V) (H : Hp) : Prop := GO F [] H ∧ rp F (rg F [] H) v b
def rF (F : Fr) (as : List α) (v : V) (H : Hp) : Prop := ∃ p vs, v = .ref p ∧ GO F [] H ∧ F.H0 p = none ∧ p ∉ F.A ∧ H p = some (.lst vs) ∧ Reps F.K F.mg (less (rg F [] H) [p]) vs as
theorem b_ret {m : Res α} {e : Expr} {pos : Pos} (he : PE X e (tP true F L O m)) (hO : List.Sublist F.O0 O) : PSs X [.Return (some e) pos] (tT F L O m (rV F)) := pss_one (ps_imp (ps_ret he) fun D σ H ⟨g, q⟩ =>
  ⟨g, q.mono (fun a k v H1 g1 s1 r1 => k v H1 ⟨g1.go.sub (List.nil_sublist _), Rep.mono (rg_sub (List.nil_sublist _)) r1⟩) fun H' ⟨a, _⟩ => a.go.sub hO⟩)
theorem b_retF {m : Res (List α)} {e : Expr} {pos : Pos} (he : PE X e (tF true F L O m)) (hO : List.Sublist F.O0 O) : PSs X [.Return (some e) pos] (tT F L O m (rF F)) := pss_one (ps_imp (ps_ret he) fun D σ H ⟨g, q⟩ =>
  ⟨g, q.mono (fun a k p vs H1 g1 s1 h1 h2 r1 => k _ H1 ⟨p, vs, rfl, g1.go.sub (List.nil_sublist _), by
    cases q : F.H0 p with
    | none => rfl
    | some o => exact (g.go.live p (by rw [q]; simp) h1).elim, fun z => g.go.out h1 (List.mem_append_right _ z), h2, r1.mono (less_mono fun b o _ q => rg_sub (List.nil_sublist _) b o q)⟩) fun H' ⟨a, _⟩ => a.go.sub hO⟩)
/-- return of an owned list -/
theorem b_retO {as : List α} {O1 : List Own} {p : Addr} {x : Str} {pos' pos : Pos} (i : Nat) (hL : L[i]? = some (rf p) := by rfl) (hO1 : (ow F.K F.mg p as :: O1).Perm O) (hW : F.W = []) (hO : List.Sublist F.O0 O) (hN : X.N[i]? = some x := by rfl) (hv : Vis X.env.scope x := by first | exact Or.inl rfl | exact Or.inr (Or.inl rfl) | exact Or.inr (Or.inr rfl)) (hd : (x == ("__debug__" : Str)) = false := by decide)
    (hcd : (x == ("__classdict__" : Str)) = false := by decide) : PSs X [.Return (some (.Name x pos')) pos] (tT F L O (.ok as) (rF F)) := pss_one (ps_imp (ps_ret (pe_var hN hv hd hcd)) fun D σ H ⟨g, q⟩ => by
  obtain ⟨v, h1, h2⟩ := g.slot hL
  have hm : ow F.K F.mg p as ∈ O := hO1.subset List.mem_cons_self
  obtain ⟨o, h3, vs, h4, h5⟩ := g.go.objs _ hm
  subst h4
  refine ⟨v, h1, q v H ⟨p, vs, h2, g.go.sub (List.nil_sublist _), ?_, g.go.apart _ hm, h3, h5.mono fun b o z => ?_⟩⟩
  · rcases g.go.own _ hm with z | z
    · rw [hW] at z; cases z
    · exact z
  · have hb : b ∉ addrs O ++ F.A := fun y => by unfold rg at z; rw [less_in y] at z; cases z
    unfold rg at z ⊢
    rw [less_out hb] at z
    rw [less_out (fun y => hb (List.mem_append_left _ (by
      rw [List.mem_singleton.mp y]
      exact List.mem_map.mpr ⟨_, hm, rfl⟩))), show addrs ([] : List Own) ++ F.A = F.A from rfl, less_out (fun y => hb (List.mem_append_right _ y))]
    exact z)
end
end NF

set_option Elab.async false
set_option linter.all false
set_option maxRecDepth 100000
/-! Nf4: promises, defs, calls. -/
namespace NF
open PySem PySem.Spec PyProof.Rows L2
open Data (toD)
/-- the frame of a def that changes nothing -/
abbrev F0 (K : Fg) (mg : MG) (H : Hp) (A : List Addr) (E : XK) : Fr := ⟨K, mg, H, [], A, [], E, []⟩
/-- the frame of a def that changes a list -/
abbrev F1 {α : Type} [Rep α] (K : Fg) (mg : MG) (H : Hp) (A : List Addr) (E : XK) (p : Addr) (xs : List α) : Fr := ⟨K, mg, H, [p], A, [ow K mg p xs], E, []⟩
section
variable (K : Fg) (mg : MG) {τ ρ α : Type} [RepA τ] [Rep ρ] [Rep α]
/-- hands back what mir says; nothing that stood changes; nothing is raised -/
def spP (mir : τ → Res ρ) : Sp := fun vs H Q _ => ∃ (a : τ) (A : List Addr), (∀ x ∈ A, H x ≠ none) ∧ RepA.rep K mg (less H A) vs a ∧
  Out (F0 K mg H A E0) (mir a) (fun r => ∀ v H', Same H H' → Rep.rep K mg (less H' A) v r → Q v H') (fun H' => Same H H')
/-- .. a new list -/
def spF (mir : τ → Res (List α)) : Sp := fun vs H Q _ => ∃ (a : τ) (A : List Addr), (∀ x ∈ A, H x ≠ none) ∧ RepA.rep K mg (less H A) vs a ∧
  Out (F0 K mg H A E0) (mir a) (fun as => ∀ p ws H', Same H H' → H p = none → H' p = some (.lst ws) → Reps K mg (less (less H' A) [p]) ws as → Q (.ref p) H') (fun H' => Same H H')
/-- .. or raises -/
def spX (mir : τ → Res ρ) : Sp := fun vs H Q E => ∃ (a : τ) (A : List Addr), (∀ x ∈ A, H x ≠ none) ∧ RepA.rep K mg (less H A) vs a ∧
  Out (F0 K mg H A E) (mir a) (fun r => ∀ v H', Same H H' → Rep.rep K mg (less H' A) v r → Q v H') (fun H' => Same H H')
end
theorem go_start {K : Fg} {mg : MG} {H : Hp} {A : List Addr} {E : XK} (hA : ∀ x ∈ A, H x ≠ none) : GO (F0 K mg H A E) [] H :=
  ⟨fun _ h => (nomatch h), List.nodup_nil, fun _ h => (nomatch h), fun _ _ h _ => h, fun _ h => h, hA, fun _ h => (nomatch h), fun _ h => (nomatch h)⟩
theorem go_same {K : Fg} {mg : MG} {H H' : Hp} {A : List Addr} {E : XK} (g : GO (F0 K mg H A E) [] H') : Same H H' := fun a o h => g.keep a o h (fun z => nomatch z)
theorem go_of_same {K : Fg} {mg : MG} {H H' : Hp} {A : List Addr} {E : XK} (hA : ∀ x ∈ A, H x ≠ none) (e : Same H H') : GO (F0 K mg H A E) [] H' := (go_start hA).grow e
theorem out_xp {α : Type} {F : Fr} {m : Res α} {k : α → Prop} {xp xp' : Hp → Prop} (h : Out F m k xp) (hx : ∀ H', xp' H' → xp H') : Out F m k xp' := h.mono (fun _ z => z) hx
section
variable {P : Program} {w : World} {K : PySem.W.Frag} {mg : Str → Option Value} {base : Heap} {τ ρ α : Type} [RepA τ] [Rep ρ] [Rep α]
variable {x qual : Str} {st : Stmt} {f : Addr} {fd : FuncData} {N ps : List Str} {k : Nat}
theorem def_P {mir : τ → Res ρ} (Fu : Fun K x qual st f fd) (S : FnScope N ps (defScope st)) (L0 : τ → List (Option Asr)) (hl : ∀ (vs : List V) (R : Hp) (a : τ), RepA.rep K mg R vs a → vs.length = ps.length ∧ Paired (SlotOk R) (L0 a) (start N vs))
    (body : ∀ (cdv : Value) (A : Around) (outer : List Env) (s : Shared) (H : Hp) (Av : List Addr) (E : XK) (a : τ), Room k (A.deeper (envOfC qual (defScope st) s.heap.objs.size f cdv)) →
      PSs (cxOf CX0 P w K mg base N qual (defScope st) f cdv A outer s H E).nox (defBody st) (tT (F0 K mg H Av E0) (L0 a) [] (mir a) (rV (F0 K mg H Av E0)))) :
    FnOk P w K mg base CX0 (k + 1) f fd ps (spP K mg mir) := by
  refine Fu.ok S (fun vs H Q E ⟨a, A, _, h, _⟩ => (hl vs _ a h).1) (fun cdv A outer s H vs Q E hr ⟨a, Av, hA, h, q⟩ => ⟨_, body cdv A outer s H Av E a hr, ⟨(hl vs _ a h).2, go_start hA⟩, ?_⟩)
  exact q.mono (fun r k v H' ⟨g, r'⟩ => k v H' (go_same g) r') fun H' g => go_same g
/-- .. that may fall off its end (None) -/
theorem def_F {mir : τ → Res (List α)} (Fu : Fun K x qual st f fd) (S : FnScope N ps (defScope st)) (L0 : τ → List (Option Asr)) (hl : ∀ (vs : List V) (R : Hp) (a : τ), RepA.rep K mg R vs a → vs.length = ps.length ∧ Paired (SlotOk R) (L0 a) (start N vs))
    (body : ∀ (cdv : Value) (A : Around) (outer : List Env) (s : Shared) (H : Hp) (Av : List Addr) (E : XK) (a : τ), Room k (A.deeper (envOfC qual (defScope st) s.heap.objs.size f cdv)) →
      PSs (cxOf CX0 P w K mg base N qual (defScope st) f cdv A outer s H E).nox (defBody st) (tT (F0 K mg H Av E0) (L0 a) [] (mir a) (rF (F0 K mg H Av E0)))) :
    FnOk P w K mg base CX0 (k + 1) f fd ps (spF K mg mir) := by
  refine Fu.ok S (fun vs H Q E ⟨a, A, _, h, _⟩ => (hl vs _ a h).1) (fun cdv A outer s H vs Q E hr ⟨a, Av, hA, h, q⟩ => ⟨_, body cdv A outer s H Av E a hr, ⟨(hl vs _ a h).2, go_start hA⟩, ?_⟩)
  exact q.mono (fun r k v H' ⟨p, ws, e, g, h1, h2, h3, h4⟩ => by subst e; exact k p ws H' (go_same g) h1 h3 h4) fun H' g => go_same g
theorem def_X {mir : τ → Res ρ} (Fu : Fun K x qual st f fd) (S : FnScope N ps (defScope st)) (L0 : τ → List (Option Asr)) (hl : ∀ (vs : List V) (R : Hp) (a : τ), RepA.rep K mg R vs a → vs.length = ps.length ∧ Paired (SlotOk R) (L0 a) (start N vs))
    (body : ∀ (cdv : Value) (A : Around) (outer : List Env) (s : Shared) (H : Hp) (Av : List Addr) (E : XK) (a : τ), Room k (A.deeper (envOfC qual (defScope st) s.heap.objs.size f cdv)) →
      PSs (cxOf (CX P w) P w K mg base N qual (defScope st) f cdv A outer s H E) (defBody st) (tT (F0 K mg H Av E) (L0 a) [] (mir a) (rV (F0 K mg H Av E)))) :
    FnOk P w K mg base (CX P w) (k + 1) f fd ps (spX K mg mir) := by
  refine Fu.okX S (fun vs H Q E ⟨a, A, _, h, _⟩ => (hl vs _ a h).1) (fun cdv A outer s H vs Q E hr ⟨a, Av, hA, h, q⟩ => ⟨_, body cdv A outer s H Av E a hr, ⟨(hl vs _ a h).2, go_start hA⟩, ?_⟩)
  exact q.mono (fun r k v H' ⟨g, r'⟩ => k v H' (go_same g) r') fun H' g => go_same g
end
/-! ### calls -/
section
variable {X : Cx} {F : Fr} {L : List (Option Asr)} {O : List Own} {τ ρ α : Type} [RepA τ] [Rep ρ] [Rep α]
theorem a_nil {b : Bool} : PA X [] (tA b F L O (.ok ())) := pa_imp pa_nil fun σ H Q ⟨g, q⟩ => q [] H g (Same.refl _) rfl
theorem a_cons {b : Bool} {e : Expr} {es : List Expr} {ma : Res α} {mr : Res τ} (he : PE X e (tP b F L O ma)) (hr : PA X es (tA b F L O mr)) (hs : starEach (e :: es) X.env = (false, eval e X.env) :: starEach es X.env := by rfl) :
    PA X (e :: es) (tA b F L O (ma.bind fun x => mr.bind fun r => .ok (Ar.mk x r))) := pa_imp (pa_cons he hr hs) fun σ H Q ⟨g, q⟩ => by
  rw [out_bind] at q
  refine ⟨g, q.mono (fun x qx v1 H1 g1 s1 r1 => ?_) fun _ z => z⟩
  rw [out_bind] at qx
  refine ⟨g1, qx.mono (fun y qy v2 H2 g2 s2 r2 => ?_) fun H' ⟨a, b⟩ => ⟨a, s1.trans b⟩⟩
  exact qy _ H2 g2 (s1.trans s2) ⟨v1, v2, rfl, Rep.mono (rgn_grow s2) r1, r2⟩
def avoid (b : Bool) (F : Fr) (O : List Own) : List Addr := if b then addrs O ++ F.A else []
theorem rgn_avoid {b : Bool} {H : Hp} : rgn b F O H = less H (avoid b F O) := by
  cases b
  · funext a
    show H a = less H [] a
    rw [less_out List.not_mem_nil]
  · rfl
theorem GO.avoided {b : Bool} {H : Hp} (g : GO F O H) : ∀ x ∈ avoid b F O, H x ≠ none := fun x hx => by
  cases b with
  | false => exact (List.not_mem_nil (show x ∈ ([] : List Addr) from hx)).elim
  | true => exact fun z => g.out z hx
variable {k : Nat} {f : Addr} {fd : FuncData} {ps : List Str} {x : Str} {p pos : Pos} {e : Expr} {es : List Expr} {b : Bool}
theorem call_core {mir : τ → Res ρ} {m : Res τ} {e : Expr} {E : XK} {sp : Sp} (hE : F.E = E) (hsp : ∀ vs H Q, (∃ (a : τ) (A : List Addr), (∀ x ∈ A, H x ≠ none) ∧ RepA.rep F.K F.mg (less H A) vs a ∧
    Out (F0 F.K F.mg H A E) (mir a) (fun r => ∀ v H', Same H H' → Rep.rep F.K F.mg (less H' A) v r → Q v H') (fun H' => Same H H')) → sp vs H Q E) (h : PE X e (tCall sp [] E (tA b F L O m))) : PE X e (tP b F L O (m.bind mir)) := pe_imp h fun σ H Q ⟨g, q⟩ => by
  rw [out_bind] at q
  refine ⟨g, q.mono (fun a qa vs H1 g1 s1 r1 => ?_) fun _ z => z⟩
  show sp (vs ++ []) H1 Q E
  rw [List.append_nil]
  refine hsp _ _ _ ⟨a, avoid b F O, g1.go.avoided, by rw [← rgn_avoid]; exact r1, ?_⟩
  subst hE
  cases e : mir a with
  | ok r =>
    rw [e] at qa
    exact fun v H' s2 r2 => qa v H' (g1.grow s2) (s1.trans s2) (by rw [rgn_avoid]; exact r2)
  | err c fs =>
    rw [e] at qa
    exact fun C d H' h1 h2 h4 => qa C d H' h1 (h2.older g1.go.live) ⟨g1.grow h4, s1.trans h4⟩
  | bad =>
    rw [e] at qa
    exact qa.elim
theorem callF_core {mir : τ → Res (List α)} {m : Res τ} {e : Expr} {E : XK} {sp : Sp} (hE : F.E = E) (hsp : ∀ vs H Q, (∃ (a : τ) (A : List Addr), (∀ x ∈ A, H x ≠ none) ∧ RepA.rep F.K F.mg (less H A) vs a ∧
    Out (F0 F.K F.mg H A E) (mir a) (fun as => ∀ p ws H', Same H H' → H p = none → H' p = some (.lst ws) → Reps F.K F.mg (less (less H' A) [p]) ws as → Q (.ref p) H') (fun H' => Same H H')) → sp vs H Q E) (h : PE X e (tCall sp [] E (tA b F L O m))) : PE X e (tF b F L O (m.bind mir)) := pe_imp h fun σ H Q ⟨g, q⟩ => by
  rw [out_bind] at q
  refine ⟨g, q.mono (fun a qa vs H1 g1 s1 r1 => ?_) fun _ z => z⟩
  show sp (vs ++ []) H1 Q E
  rw [List.append_nil]
  refine hsp _ _ _ ⟨a, avoid b F O, g1.go.avoided, by rw [← rgn_avoid]; exact r1, ?_⟩
  subst hE
  cases e : mir a with
  | ok r =>
    rw [e] at qa
    exact fun p ws H' s2 h1 h2 r2 => qa p ws H' (g1.grow s2) (s1.trans s2) (s1.free h1) h2 (by rw [rgn_avoid]; exact r2)
  | err c fs =>
    rw [e] at qa
    exact fun C d H' h1 h2 h4 => qa C d H' h1 (h2.older g1.go.live) ⟨g1.grow h4, s1.trans h4⟩
  | bad =>
    rw [e] at qa
    exact qa.elim
/-- f(..), f of nothing raised, from a def that raises nothing -/
theorem n_call {mir : τ → Res ρ} {m : Res τ} (Gf : FnOk X.prog X.w X.K X.mg X.base CX0 k f fd ps (spP X.K X.mg mir)) (hr : Room k X.A) (hm : X.mg x = some (.ref f)) (hk : PySem.W.keepIn X.K (.ref f) = true) (hb : Binds X.K fd ps [])
    (ha : PA X (e :: es) (tA b F L O m)) (hg : Gl X x := by rfl) (hE : F.E = E0 := by rfl) (hK : X.K = F.K := by rfl) (hM : X.mg = F.mg := by rfl) (hd : (x == ("__debug__" : Str)) = false := by decide)
    (hs : starEach (e :: es) X.env = (false, eval e X.env) :: starEach es X.env := by rfl) (hs2 : ((backTo pos (starEach es X.env)).any fun x => x.fst) = false := by rfl) : PE X (.Call (.Name x p) (e :: es) [] pos) (tP b F L O (m.bind mir)) :=
  call_core (sp := spP X.K X.mg mir) hE (fun vs H Q q => by rw [← hK, ← hM] at q; exact q) (pe_call Gf hr hg hm hk hb .nil pass0 ha hd hs hs2)
theorem f_call {mir : τ → Res (List α)} {m : Res τ} (Gf : FnOk X.prog X.w X.K X.mg X.base CX0 k f fd ps (spF X.K X.mg mir)) (hr : Room k X.A) (hm : X.mg x = some (.ref f)) (hk : PySem.W.keepIn X.K (.ref f) = true) (hb : Binds X.K fd ps [])
    (ha : PA X (e :: es) (tA b F L O m)) (hg : Gl X x := by rfl) (hE : F.E = E0 := by rfl) (hK : X.K = F.K := by rfl) (hM : X.mg = F.mg := by rfl) (hd : (x == ("__debug__" : Str)) = false := by decide)
    (hs : starEach (e :: es) X.env = (false, eval e X.env) :: starEach es X.env := by rfl) (hs2 : ((backTo pos (starEach es X.env)).any fun x => x.fst) = false := by rfl) : PE X (.Call (.Name x p) (e :: es) [] pos) (tF b F L O (m.bind mir)) :=
  callF_core (sp := spF X.K X.mg mir) hE (fun vs H Q q => by rw [← hK, ← hM] at q; exact q) (pe_call Gf hr hg hm hk hb .nil pass0 ha hd hs hs2)
end
end NF

set_option Elab.async false
set_option linter.all false
set_option maxRecDepth 100000
/-! Nf5: what is walked; loops; comprehensions. -/
namespace NF
open PySem PySem.Spec PyProof.Rows L2
open Data (toD)
section
variable {X : Cx} {F : Fr} {L : List (Option Asr)} {O : List Own} {α β γ s : Type} [Rep α] [Rep β] [Rep γ] [Rep s]
theorem pi_seq {tg l : Expr} {tl : TE} (hl : PE X l tl) : PI X tg l (fun σ H R => tl σ H fun x H1 => ∃ a xs, x = .ref a ∧ ((SqL X.K H1 a xs ∧ R (Itl X.K a) H1) ∨ (SqT X.K H1 a xs ∧ R (Itt X.K a) H1))) := by
  refine ⟨fun pins s σ H R I h => ?_⟩
  refine thn (hl.run pins s σ H _ I h) fun v s1 ⟨x, H1, I1, r1, q1⟩ => ?_
  obtain ⟨a, xs, e, q⟩ := q1
  subst e
  cases r1
  rcases q with ⟨hq, q⟩ | ⟨hq, q⟩
  · obtain ⟨its, rv, p, hz⟩ := I1.list hq
    refine wpAny_pyIter_list p.isList ?_
    refine ⟨s1.heap.objs.size, [s1.heap.objs.size], _, _, H1, rfl, I1.kept (t' := s1.toks) fun b o e => Heap.get?_push_of_some _ e, turn_list a _, ⟨_, Heap.get?_push_size _ rfl, rfl, rfl⟩, fun b hb => ?_, q⟩
    have e : b = s1.heap.objs.size := by simpa using hb
    subst e
    exact I1.fpOk (Nat.le_refl _) (I1.hok.fresh (Nat.le_refl _))
  · obtain ⟨its, rv, p, hz⟩ := I1.tuple hq
    refine wpAny_pyIter_tuple (show s1.heap.IsTuple a its.toArray from p) ?_
    refine ⟨s1.heap.objs.size, [s1.heap.objs.size], _, _, H1, rfl, I1.kept (t' := s1.toks) fun b o e => Heap.get?_push_of_some _ e, turn_tuple a _, ⟨_, Heap.get?_push_size _ rfl, rfl, rfl⟩, fun b hb => ?_, q⟩
    have e : b = s1.heap.objs.size := by simpa using hb
    subst e
    exact I1.fpOk (Nat.le_refl _) (I1.hok.fresh (Nat.le_refl _))
/-- a walk over things that stand for as -/
structure Src (K : Fg) (mg : MG) (J : It) (as : List α) where
  src : Hp → Prop
  mono : ∀ {H H' : Hp}, Same H H' → src H → src H'
  Y : Nat → Hp → V → Hp → Prop
  walk : Walk J as.length src Y
  ylds : ∀ i H x H', Y i H x H' → Same H H' ∧ ∀ Av : List Addr, (∀ a ∈ Av, H a ≠ none) → src (less H Av) → ∀ a, as[i]? = some a → Rep.rep K mg (less H' Av) x a
def tI (b : Bool) (F : Fr) (L : List (Option Asr)) (O : List Own) (m : Res (List α)) : TI := fun σ H R =>
  G F L O σ H ∧ Out F m (fun as => ∀ J H' (S : Src F.K F.mg J as), G F L O σ H' → Same H H' → S.src (rgn b F O H') → R J H') (XP F L O σ H)
theorem pi_imp {tg e : Expr} {t t' : TI} (h : PI X tg e t) (i : ∀ σ H Q, t' σ H Q → t σ H Q) : PI X tg e t' := ⟨fun pins s σ H Q I q => h.run pins s σ H Q I (i σ H Q q)⟩
def srcL {K : Fg} {mg : MG} {a : Addr} {vs : List V} {as : List α} (hl : vs.length = as.length) : Src K mg (Itl K a) as where
  src H := SqL K H a vs ∧ Reps K mg H vs as
  mono e h := ⟨e.seq h.1, h.2.mono e⟩
  Y := YAt vs
  walk := by rw [← hl]; exact (walk_list (K := K) (a := a) (xs := vs)).mono (fun H h => h.1) (fun i H x H' _ _ y => y)
  ylds i H x H' y := by
    obtain ⟨rfl, y⟩ := y
    refine ⟨Same.refl _, fun Av _ h a ha => ?_⟩
    obtain ⟨v, h1, h2⟩ := reps_get h.2 ha
    rw [y] at h1
    cases h1
    exact h2
def srcT {K : Fg} {mg : MG} {a : Addr} {vs : List V} {as : List α} (hl : vs.length = as.length) : Src K mg (Itt K a) as where
  src H := SqT K H a vs ∧ Reps K mg H vs as
  mono e h := ⟨same_t e h.1, h.2.mono e⟩
  Y := YAt vs
  walk := by rw [← hl]; exact (walk_tup (K := K) (a := a) (xs := vs)).mono (fun H h => h.1) (fun i H x H' _ _ y => y)
  ylds i H x H' y := by
    obtain ⟨rfl, y⟩ := y
    refine ⟨Same.refl _, fun Av _ h a ha => ?_⟩
    obtain ⟨v, h1, h2⟩ := reps_get h.2 ha
    rw [y] at h1
    cases h1
    exact h2
theorem i_lk [Lk s α] {tg e : Expr} {b : Bool} {m : Res s} (h : PE X e (tP b F L O m)) (hK : X.K = F.K := by rfl) : PI X tg e (tI b F L O (m.bind fun x => .ok (Lk.its x))) := pi_imp (pi_seq h) fun σ H R ⟨g, q⟩ => by
  rw [out_bind] at q
  refine ⟨g, q.mono (fun x k v H1 g1 s1 r1 => ?_) fun _ z => z⟩
  obtain ⟨p, vs, h1, h2, h3⟩ := Lk.get r1
  refine ⟨p, vs, h1, ?_⟩
  rw [hK]
  rcases h2 with h2 | h2
  · exact .inl ⟨rgn_sub.seq h2, k _ H1 (srcL h3.length) g1 s1 ⟨h2, h3⟩⟩
  · exact .inr ⟨same_t rgn_sub h2, k _ H1 (srcT h3.length) g1 s1 ⟨h2, h3⟩⟩
def irange (lo hi : Int) : List Int := (List.range (hi - lo).toNat).map fun i : Nat => lo + i
theorem irange_len (lo hi : Int) : (irange lo hi).length = (hi - lo).toNat := by unfold irange; simp
def srcR {K : Fg} {mg : MG} {lo hi : Int} : Src K mg (Itr lo (hi - lo).toNat) (irange lo hi) where
  src H := True
  mono e h := h
  Y := YFn fun i => .int (lo + i)
  walk := by rw [irange_len]; exact walk_range
  ylds i H x H' y := by
    obtain ⟨rfl, y⟩ := y
    refine ⟨Same.refl _, fun Av _ h a ha => ?_⟩
    subst y
    unfold irange at ha
    rw [List.getElem?_map] at ha
    cases e : (List.range (hi - lo).toNat)[i]? with
    | none => rw [e] at ha; cases ha
    | some j =>
      rw [e] at ha
      have : j = i := by
        have := List.getElem?_eq_some_iff.mp e
        obtain ⟨h1, h2⟩ := this
        rw [List.getElem_range] at h2
        exact h2.symm
      subst this
      cases ha
      rfl
theorem i_range1 {tg e : Expr} {b b' : Bool} {m : Res Int} {p pos : Pos} (h : PE X e (tP b F L O m)) (hm : X.mg "range" = none) (hg : Gl X "range" := by rfl) (h1 : starEach [e] X.env = (false, eval e X.env) :: starEach [] X.env := by rfl) (hs : starEach [e] X.env = [(false, eval e X.env)] := by rfl) :
    PI X tg (.Call (.Name "range" p) [e] [] pos) (tI b' F L O (m.bind fun n => need (Rg62 n) (.ok (irange 0 n)))) := pi_imp (pi_range1 hg hm (pa_cons h pa_nil h1) hs) fun σ H R ⟨g, q⟩ => by
  rw [out_bind] at q
  refine ⟨g, q.mono (fun n k v H1 g1 s1 r1 => ?_) fun _ z => z⟩
  rw [out_need] at k
  cases r1
  refine ⟨n, rfl, k.1.1, k.1.2, ?_⟩
  have S : Src F.K F.mg (Itr 0 (n - 0).toNat) (irange 0 n) := srcR
  have e : (n - 0).toNat = n.toNat := by rw [Int.sub_zero]
  have kk := k.2 (Itr 0 (n - 0).toNat) H1 srcR g1 s1 trivial
  rw [e] at kk
  exact kk
theorem i_range2 {tg e e2 : Expr} {b b1 b' : Bool} {m m2 : Res Int} {p pos : Pos} (h : PE X e (tP b F L O m)) (h2 : PE X e2 (tP b1 F L O m2)) (hm : X.mg "range" = none) (hg : Gl X "range" := by rfl)
    (hs1 : starEach [e, e2] X.env = (false, eval e X.env) :: starEach [e2] X.env := by rfl) (hs2 : starEach [e2] X.env = (false, eval e2 X.env) :: starEach [] X.env := by rfl) (hs : starEach [e, e2] X.env = [(false, eval e X.env), (false, eval e2 X.env)] := by rfl) (hs3 : starEach [e2] X.env = [(false, eval e2 X.env)] := by rfl) :
    PI X tg (.Call (.Name "range" p) [e, e2] [] pos) (tI b' F L O (m.bind fun lo => m2.bind fun hi => need (Rg62 lo ∧ Rg62 hi) (.ok (irange lo hi)))) := pi_imp (pi_range2 hg hm (pa_cons h (pa_cons h2 pa_nil hs2) hs1) hs hs3) fun σ H R ⟨g, q⟩ => by
  rw [out_bind] at q
  refine ⟨g, q.mono (fun n k v H1 g1 s1 r1 => ?_) fun _ z => z⟩
  rw [out_bind] at k
  refine ⟨g1, k.mono (fun n2 k v H2 g2 s2 r2 => ?_) fun H' ⟨a, b⟩ => ⟨a, s1.trans b⟩⟩
  rw [out_need] at k
  cases r1
  cases r2
  exact ⟨n, n2, rfl, ⟨k.1.1.1, k.1.1.2, k.1.2.1, k.1.2.2⟩, k.2 _ H2 srcR g2 (s1.trans s2) trivial⟩
/-! ### targets -/
theorem wipe_get (σ : L2.St) : ∀ (vs : List Nat) (k : Nat), (wipe σ vs)[k]? = if k ∈ vs then σ[k]?.map (fun _ => none) else σ[k]?
  | [], k => by simp [wipe]
  | v :: vs, k => by
    show ((wipe σ vs).set v none)[k]? = _
    rw [List.getElem?_set]
    by_cases h : v = k
    · subst h
      rw [if_pos rfl, if_pos List.mem_cons_self]
      have hl : (wipe σ vs).length = σ.length := wipe_length σ vs
      by_cases h2 : v < σ.length
      · rw [if_pos (by rw [hl]; exact h2)]
        simp [h2]
      · rw [if_neg (by rw [hl]; exact h2)]
        simp [h2]
    · rw [if_neg h, wipe_get σ vs k]
      by_cases h2 : k ∈ vs
      · rw [if_pos h2, if_pos (List.mem_cons_of_mem _ h2)]
      · rw [if_neg h2, if_neg (fun z => (List.mem_cons.mp z).elim (fun z => h z.symm) h2)]
theorem wipe_wipe (σ : L2.St) (vs : List Nat) : wipe (wipe σ vs) vs = wipe σ vs := by
  apply List.ext_getElem?
  intro k
  rw [wipe_get, wipe_get]
  by_cases h : k ∈ vs
  · rw [if_pos h, if_pos h]
    cases σ[k]? <;> rfl
  · rw [if_neg h, if_neg h]
def wipeL (L : List (Option Asr)) : List Nat → List (Option Asr)
  | [] => L
  | v :: vs => (wipeL L vs).set v none
theorem set_none {R : Hp} {o : Option V} : ∀ {l : List (Option Asr)} {σ : L2.St} (i : Nat), Paired (SlotOk R) l σ → Paired (SlotOk R) (l.set i none) (σ.set i o)
  | _, _, _, .nil => .nil
  | _, _, 0, .cons _ t => .cons trivial t
  | _, _, n + 1, .cons q t => .cons q (set_none n t)
theorem wipe_ok {R : Hp} {L : List (Option Asr)} {σ : L2.St} (h : Paired (SlotOk R) L σ) : ∀ vs : List Nat, Paired (SlotOk R) (wipeL L vs) (wipe σ vs)
  | [] => h
  | v :: vs => set_none v (wipe_ok h vs)
def TgOk (K : Fg) (mg : MG) (g : TG) (vs : List Nat) (bd : α → List (Option Asr) → List (Option Asr)) : Prop :=
  ∀ v a σ H R L Q, Same R H → Rep.rep K mg R v a → Paired (SlotOk R) L σ → (∀ σ', wipe σ' vs = wipe σ vs → Paired (SlotOk R) (bd a L) σ' → Q σ' H) → g v σ H Q
structure Tg (X : Cx) (K : Fg) (mg : MG) (tg : Expr) (g : TG) (vs : List Nat) (bd : α → List (Option Asr) → List (Option Asr)) : Prop where
  pg : PG X tg g
  ok : TgOk K mg g vs bd
variable {K : Fg} {mg : MG}
theorem tgok_name (i : Nat) : TgOk K mg (gName i) [i] (fun (a : α) L => L.set i (vl K mg a)) := fun v a σ H R L Q _ r h k => k _ (by show (σ.set i (some v)).set i none = σ.set i none; rw [List.set_set]) (set_ok (p := vl K mg a) r i h)
theorem tgok_pair (i j : Nat) (hij : i ≠ j) : TgOk K mg (gTup K 2 (gCons (gName i) (gCons (gName j) gNil))) [i, j] (fun (a : α × β) L => (L.set i (vl K mg a.1)).set j (vl K mg a.2)) := fun v a σ H R L Q e r h k => by
  obtain ⟨p, v1, v2, rfl, h2, h3, h4⟩ := r
  refine ⟨p, _, rfl, same_t e h2, rfl, v1, _, rfl, v2, _, rfl, rfl, ?_⟩
  refine k _ ?_ (set_ok (p := vl K mg a.2) h4 j (set_ok (p := vl K mg a.1) h3 i h))
  show ((((σ.set i (some v1)).set j (some v2)).set j none).set i none) = (σ.set j none).set i none
  rw [List.set_set, List.set_comm _ _ hij, List.set_set]
theorem tg_name (i : Nat) {x : Str} {pos : Pos} (hN : X.N.Nodup) (hi : X.N[i]? = some x := by rfl) (hx : L2.Loc X.env.scope x := by first | exact .inl rfl | exact .inr rfl) (hf : X.fn x = true ∨ X.env.scope.names.lookup x = some .local := by first | exact .inl rfl | exact .inr rfl) :
    Tg X K mg (.Name x pos) (gName i) [i] (fun (a : α) L => L.set i (vl K mg a)) := ⟨pg_name hN hi hx hf, tgok_name i⟩
theorem tg_pair (i j : Nat) {x y : Str} {p1 p2 pos : Pos} {kk : Nat} (hij : i ≠ j) (hc : X.calm = true) (hN : X.N.Nodup) (hi : X.N[i]? = some x := by rfl) (hj : X.N[j]? = some y := by rfl) (hx : L2.Loc X.env.scope x := by first | exact .inl rfl | exact .inr rfl) (hy : L2.Loc X.env.scope y := by first | exact .inl rfl | exact .inr rfl)
    (hf : X.fn x = true ∨ X.env.scope.names.lookup x = some .local := by first | exact .inl rfl | exact .inr rfl) (hf2 : X.fn y = true ∨ X.env.scope.names.lookup y = some .local := by first | exact .inl rfl | exact .inr rfl) (hK : X.K = K := by rfl)
    (h1 : (assignEach [.Name x p1, .Name y p2] X.env).map (·.2) = assign (.Name x p1) X.env :: (assignEach [.Name y p2] X.env).map (·.2) := by rfl) (h2 : (assignEach [.Name y p2] X.env).map (·.2) = assign (.Name y p2) X.env :: (assignEach [] X.env).map (·.2) := by rfl)
    (hn : (assignEach [.Name x p1, .Name y p2] X.env).length = 2 := by rfl) (hst : (assignEach [.Name x p1, .Name y p2] X.env).findIdx? (·.1) = none := by rfl) :
    Tg X K mg (.Tuple [.Name x p1, .Name y p2] kk pos) (gTup K 2 (gCons (gName i) (gCons (gName j) gNil))) [i, j] (fun (a : α × β) L => (L.set i (vl K mg a.1)).set j (vl K mg a.2)) :=
  ⟨by rw [← hK]; exact pg_tup hc (pgs_cons (pg_name hN hi hx hf) (pgs_cons (pg_name hN hj hy hf2) pgs_nil h2) h1) hn hst, tgok_pair i j hij⟩
/-! ### loops -/
def foldR {β : Type} (f : α → β → Res β) : List α → β → Res β
  | [], b => .ok b
  | a :: as, b => (f a b).bind fun b => foldR f as b
def foldM {β δ : Type} (f : α → β → Res (Sum β δ)) : List α → β → Res (Sum β δ)
  | [], b => .ok (.inl b)
  | a :: as, b => (f a b).bind fun r => match r with
    | .inl b => foldM f as b
    | .inr d => .ok (.inr d)
/-- what a loop hands on, said ahead -/
inductive Sp3 {B : Type} (L' : B → List (Option Asr)) (O' : B → List Own) (b0 : B) : Prop where | mk
inductive Sp2 {B : Type} (L' : B → List (Option Asr)) (O' : B → List Own) : Prop where | mk
inductive Sp1 (i : Nat) : Prop where | mk
def Fr.add (F : Fr) (z : Fact) : Fr := { F with Z := z :: F.Z }
theorem GO.add {H : Hp} (g : GO F O H) (z : Fact) (h : z.P (rg F O H)) : GO (F.add z) O H := ⟨g.objs, g.nd, g.own, g.keep, g.live, g.hid, g.apart, fun y hy => by
  rcases List.mem_cons.mp hy with rfl | hy
  · exact h
  · exact g.facts y hy⟩
theorem GO.unadd {H : Hp} {z : Fact} (g : GO (F.add z) O H) : GO F O H := ⟨g.objs, g.nd, g.own, g.keep, g.live, g.hid, g.apart, fun y hy => g.facts y (List.mem_cons_of_mem _ hy)⟩
theorem GO.fact {H : Hp} {z : Fact} (g : GO (F.add z) O H) : z.P (rg F O H) := g.facts z List.mem_cons_self
theorem out_add {β : Type} {z : Fact} {m : Res β} {k : β → Prop} {xp : Hp → Prop} : Out (F.add z) m k xp ↔ Out F m k xp := by cases m <;> exact Iff.rfl
theorem s_for {B : Type} {tg iter : Expr} {g : TG} {vs : List Nat} {bd : α → List (Option Asr) → List (Option Asr)} {m : Res (List α)} {f : α → B → Res B} {body : List Stmt} {pos : Pos} {L' : B → List (Option Asr)} {O' : B → List Own} {b0 : B} (sp : Sp3 L' O' b0)
    (hp : PassesOwn (model X.prog X.w) X.A X.env X.xe) (hc : X.calm = true) (hi : PI X tg iter (tI true F L O m)) (ht : Tg X F.K F.mg tg g vs bd) (hO : List.Sublist F.O0 O) (hw : wk L (L' b0)) (ho : List.Sublist (O' b0) O)
    (hb : ∀ z a b, PSs X body (tN (F.add z) (bd a (L' b)) (O' b) (f a b) L' O')) (hs : ∀ x, foldedSetIterable iter X.env x = pure x := by intro _; rfl) : PS X (.For tg iter body [] pos) (tN F L O (m.bind fun as => foldR f as b0) L' O') := by
  have hb' : PSs X body (fun D σ H => ∃ z a b, tN (F.add z) (bd a (L' b)) (O' b) (f a b) L' O' D σ H) := pss_ex fun z => pss_ex fun a => pss_ex fun b => hb z a b
  have hg : PG X tg g := ht.pg
  refine ps_imp (ps_for hp hc hi hg hb' hs) fun D σ H ⟨g0, q⟩ => ?_
  rw [out_bind] at q
  refine ⟨g0, q.mono (fun as k J H1 S g1 s1 hS => ?_) fun H' ⟨a, _⟩ => a.go.sub hO⟩
  have zf : ∃ z : Fact, z = ⟨S.src, fun e h => S.mono e h⟩ := ⟨_, rfl⟩
  obtain ⟨z, hz⟩ := zf
  refine for_it S.walk (g := g) (tb := fun D σ H => ∃ z a b, tN (F.add z) (bd a (L' b)) (O' b) (f a b) L' O' D σ H) (D := D) (σ := σ) (H := H1) (fun i σ H => ∃ b, G (F.add z) (L' b) (O' b) σ H ∧ Out F (foldR f (as.drop i) b) (fun b => ∀ σ' H', G F (L' b) (O' b) σ' H' → D.nx σ' H') (XPS F)) ⟨b0, ?_, k⟩ ?_ ?_ ?_
  · have g2 := g1.to hw ho
    refine ⟨g2.slots, g2.go.add z ?_⟩
    subst hz
    exact S.mono (rg_sub ho) hS
  · rintro i σ H _ ⟨b, g2, _⟩
    have h := g2.go.fact
    subst hz
    exact S.mono less_same h
  · rintro i x σ H H' hi ⟨b, g2, q2⟩ y
    have ha : as[i]? = some as[i] := List.getElem?_eq_getElem hi
    rw [List.drop_eq_getElem_cons hi] at q2
    rw [show foldR f (as[i] :: List.drop (i + 1) as) b = (f as[i] b).bind fun b => foldR f (List.drop (i + 1) as) b from rfl, out_bind] at q2
    obtain ⟨s2, yy⟩ := S.ylds i H x H' y
    have hsrc : S.src (rg F (O' b) H) := by
      have h := g2.go.fact
      subst hz
      exact h
    have r2 : rp (F.add z) (rg F (O' b) H') x as[i] := yy _ (fun a ha z => g2.go.out z ha) hsrc _ ha
    have g3 := g2.grow s2
    refine ht.ok x as[i] σ H' (rg F (O' b) H') (L' b) _ less_same r2 g3.slots fun σ2 _ hs2 => ?_
    exact ⟨z, as[i], b, ⟨hs2, g3.go⟩, out_add.mpr (q2.mono (fun b' kb σ' H'' g' => ⟨b', g', kb⟩) fun H'' (x : GO (F.add z) F.O0 H'') => x.unadd)⟩
  · rintro σ H ⟨b, g2, q2⟩
    rw [List.drop_length] at q2
    exact q2 σ H ⟨g2.slots, g2.go.unadd⟩
theorem s_forM {B D' : Type} {tg iter : Expr} {g : TG} {vs : List Nat} {bd : α → List (Option Asr) → List (Option Asr)} {m : Res (List α)} {f : α → B → Res (Sum B D')} {body : List Stmt} {pos : Pos} {Ret : D' → V → Hp → Prop} {L' : B → List (Option Asr)} {O' : B → List Own} {b0 : B} (sp : Sp3 L' O' b0)
    (hp : PassesOwn (model X.prog X.w) X.A X.env X.xe) (hc : X.calm = true) (hi : PI X tg iter (tI true F L O m)) (ht : Tg X F.K F.mg tg g vs bd) (hO : List.Sublist F.O0 O) (hw : wk L (L' b0)) (ho : List.Sublist (O' b0) O)
    (hb : ∀ z a b, PSs X body (tM (F.add z) (bd a (L' b)) (O' b) (f a b) L' O' Ret)) (hs : ∀ x, foldedSetIterable iter X.env x = pure x := by intro _; rfl) : PS X (.For tg iter body [] pos) (tM F L O (m.bind fun as => foldM f as b0) L' O' Ret) := by
  have hb' : PSs X body (fun D σ H => ∃ z a b, tM (F.add z) (bd a (L' b)) (O' b) (f a b) L' O' Ret D σ H) := pss_ex fun z => pss_ex fun a => pss_ex fun b => hb z a b
  have hg : PG X tg g := ht.pg
  refine ps_imp (ps_for hp hc hi hg hb' hs) fun D σ H ⟨g0, q⟩ => ?_
  rw [out_bind] at q
  refine ⟨g0, q.mono (fun as k J H1 S g1 s1 hS => ?_) fun H' ⟨a, _⟩ => a.go.sub hO⟩
  have zf : ∃ z : Fact, z = ⟨S.src, fun e h => S.mono e h⟩ := ⟨_, rfl⟩
  obtain ⟨z, hz⟩ := zf
  refine for_it S.walk (g := g) (tb := fun D σ H => ∃ z a b, tM (F.add z) (bd a (L' b)) (O' b) (f a b) L' O' Ret D σ H) (D := D) (σ := σ) (H := H1) (fun i σ H => ∃ b, G (F.add z) (L' b) (O' b) σ H ∧ Out F (foldM f (as.drop i) b) (fun r => match r with
    | .inl b => ∀ σ' H', G F (L' b) (O' b) σ' H' → D.nx σ' H'
    | .inr d => ∀ v H', Ret d v H' → D.rt v H') (XPS F)) ⟨b0, ?_, k⟩ ?_ ?_ ?_
  · have g2 := g1.to hw ho
    refine ⟨g2.slots, g2.go.add z ?_⟩
    subst hz
    exact S.mono (rg_sub ho) hS
  · rintro i σ H _ ⟨b, g2, _⟩
    have h := g2.go.fact
    subst hz
    exact S.mono less_same h
  · rintro i x σ H H' hi ⟨b, g2, q2⟩ y
    have ha : as[i]? = some as[i] := List.getElem?_eq_getElem hi
    rw [List.drop_eq_getElem_cons hi] at q2
    rw [show foldM f (as[i] :: List.drop (i + 1) as) b = (f as[i] b).bind fun r => match r with
      | .inl b => foldM f (List.drop (i + 1) as) b
      | .inr d => .ok (.inr d) from rfl, out_bind] at q2
    obtain ⟨s2, yy⟩ := S.ylds i H x H' y
    have hsrc : S.src (rg F (O' b) H) := by
      have h := g2.go.fact
      subst hz
      exact h
    have r2 : rp (F.add z) (rg F (O' b) H') x as[i] := yy _ (fun a ha z => g2.go.out z ha) hsrc _ ha
    have g3 := g2.grow s2
    refine ht.ok x as[i] σ H' (rg F (O' b) H') (L' b) _ less_same r2 g3.slots fun σ2 _ hs2 => ?_
    refine ⟨z, as[i], b, ⟨hs2, g3.go⟩, out_add.mpr (q2.mono (fun r kb => ?_) fun H'' (x : GO (F.add z) F.O0 H'') => x.unadd)⟩
    cases r with
    | inl b' => exact fun σ' H'' g' => ⟨b', g', kb⟩
    | inr d => exact fun v H'' hr => kb v H'' hr
  · rintro σ H ⟨b, g2, q2⟩
    rw [List.drop_length] at q2
    exact q2 σ H ⟨g2.slots, g2.go.unadd⟩
/-- .. and what follows, which hands back -/
def goOn {B D' : Type} (m : Res (Sum B D')) (f : B → Res D') : Res D' := m.bind fun r => match r with
  | .inl b => f b
  | .inr d => .ok d
theorem b_M {B D' : Type} {st : Stmt} {rest : List Stmt} {m1 : Res (Sum B D')} {m2 : B → Res D'} {L' : B → List (Option Asr)} {O' : B → List Own} {Ret : D' → V → Hp → Prop} (h1 : PS X st (tM F L O m1 L' O' Ret)) (h2 : ∀ b, PSs X rest (tT F (L' b) (O' b) (m2 b) Ret)) :
    PSs X (st :: rest) (tT F L O (goOn m1 m2) Ret) := pss_imp (pss_cons h1 (pss_ex h2)) fun D σ H ⟨g, q⟩ => by
  unfold goOn at q
  rw [out_bind] at q
  refine ⟨g, q.mono (fun r k => ?_) fun _ z => z⟩
  cases r with
  | inl b => exact fun σ' H' g' => ⟨b, g', k⟩
  | inr d => exact k
end
end NF

set_option Elab.async false
set_option linter.all false
set_option maxRecDepth 100000
/-! Nf6: comprehensions, zip, enumerate. -/
namespace NF
open PySem PySem.Spec PyProof.Rows L2
open Data (toD)
/-- nothing is raised -/
def Res.quiet {α : Type} : Res α → Res α
  | .ok a => .ok a
  | _ => .bad
def mapR {α β : Type} (f : α → Res β) : List α → Res (List β)
  | [] => .ok []
  | a :: as => (f a).bind fun y => (mapR f as).bind fun ys => .ok (y :: ys)
def filtR {α β : Type} (p : α → Res Bool) (f : α → Res β) : List α → Res (List β)
  | [] => .ok []
  | a :: as => (p a).bind fun c => if c then (f a).bind fun y => (filtR p f as).bind fun ys => .ok (y :: ys) else filtR p f as
theorem filtR_yes {α β : Type} (f : α → Res β) : ∀ as : List α, filtR (fun _ => .ok true) f as = mapR f as
  | [] => rfl
  | a :: as => by
    show ((f a).bind fun y => (filtR (fun _ => .ok true) f as).bind fun ys => .ok (y :: ys)) = _
    rw [filtR_yes f as]
    rfl
section
variable {X : Cx} {F : Fr} {L : List (Option Asr)} {O : List Own} {α β γ s : Type} [Rep α] [Rep β] [Rep γ] [Rep s]
def Fr.nox (F : Fr) : Fr := { F with E := E0 }
theorem GO.nox {H : Hp} (g : GO F O H) : GO F.nox O H := ⟨g.objs, g.nd, g.own, g.keep, g.live, g.hid, g.apart, g.facts⟩
/-- in a comprehension an error is nothing we know -/
theorem out_quiet {δ : Type} {m : Res δ} {k : δ → Prop} {xp xp' : Hp → Prop} (h : Out F m.quiet k xp) : Out F.nox m k xp' := by
  cases m with
  | ok a => exact h
  | err c fs => exact h.elim
  | bad => exact h.elim
def tYes' (F : Fr) (L : List (Option Asr)) (O : List Own) : TT := tB' F L O (.ok true)
theorem pts_imp {ifs : List Expr} {t t' : TT} (h : PTs X ifs t) (i : ∀ σ H Q, t' σ H Q → t σ H Q) : PTs X ifs t' := ⟨fun pins s σ H Q I q => h.run pins s σ H Q I (i σ H Q q)⟩
theorem ts_nil : PTs X [] (tB' F L O (.ok true)) := pts_imp pts_nil fun σ H Q ⟨g, q⟩ => q H g (Same.refl _)
theorem ts_one {c : Expr} {m : Res Bool} (h : PT X c (tB' F L O m)) : PTs X [c] (tB' F L O m) := pts_one h
theorem sz_min {n k : Nat} (h : n + k ≤ sizeLine) (hk : 0 < k) : n < sizeLine := by omega
def FlatP (α : Type) [Rep α] : Prop := ∀ {K : Fg} {mg : MG} {H H' : Hp} {v : V} {a : α}, Rep.rep K mg H v a → Rep.rep K mg H' v a
theorem flatP [Flat α] : FlatP α := fun h => Flat.iff.mpr (Flat.iff.mp h)
theorem comp_core {b : Bool} {g : TG} {vs : List Nat} {bd : α → List (Option Asr) → List (Option Asr)} {m : Res (List α)} {p : α → Res Bool} {f : α → Res β} {wi : TI} (tt : TT) (te : TE)
    (hi : wi = tI b F L O m) (hfl : b = true ∨ FlatP α) (ht : TgOk F.K F.mg g vs bd) (htt : tt = fun σ H Q => ∃ a D ds, tB' F.nox (bd a (wipeL L vs)) (ow (α := β) F.K F.mg D ds :: O) (p a) σ H Q) (hte : te = fun σ H Q => ∃ a D ds, tP true F.nox (bd a (wipeL L vs)) (ow (α := β) F.K F.mg D ds :: O) (f a) σ H Q) (σ : L2.St) (H : Hp) (Q : VK)
    (h : tF true F L O (m.bind fun as => need (as.length ≤ sizeLine) (filtR (fun a => (p a).quiet) (fun a => (f a).quiet) as)) σ H Q) : tLc wi g tt te vs σ H Q := by
  subst hi
  obtain ⟨g0, q⟩ := h
  rw [out_bind] at q
  refine ⟨g0, q.mono (fun as k J H1 S g1 s1 hS => ?_) fun _ z => z⟩
  rw [out_need] at k
  obtain ⟨hsz, k⟩ := k
  intro D hD
  refine lc_it S.walk (g := g) (tt := tt) (te := te) (vs := vs) (σ := σ) (H1 := H1) (D := D) (Qd := fun H => Q (.ref D) H)
    (fun i H => ∃ (ds : List β) (vd : List V), H D = some (.lst vd) ∧ ds.length + (as.length - i) ≤ sizeLine ∧ Reps F.K F.mg (less (rg F O H) [D]) vd ds ∧ Same H1 (less H [D]) ∧ Out F (filtR (fun a => (p a).quiet) (fun a => (f a).quiet) (as.drop i)) (fun rest => KF β true F L O σ H1 Q (ds ++ rest)) (fun _ => False))
    ⟨[], [], upd_same, ?_, .nil, ?_, ?_⟩ ?_ ?_ ?_
  · show 0 + (as.length - 0) ≤ sizeLine
    omega
  · intro a o ha
    have hne : a ≠ D := ne_of_none ha hD
    rw [less_out (fun z => hne (List.mem_singleton.mp z)), upd_ne hne]
    exact ha
  · exact k.mono (fun ds kk => (KF.mono s1 kk)) fun _ z => z.elim
  · rintro i H _ ⟨ds, vd, h1, _, h2, h3, _⟩
    exact S.mono (h3.trans less_same) (S.mono rgn_sub hS)
  · rintro i x H H' hi ⟨ds, vd, h1, hl, h2, h3, q2⟩ y
    have ha : as[i]? = some as[i] := List.getElem?_eq_getElem hi
    have sH : Same H1 H := h3.trans less_same
    have gH : G F L O σ H := g1.grow sH
    have go2 : GO F (ow F.K F.mg D ds :: O) H := go_new g1 gH.go sH hD h1 h2
    obtain ⟨s2, yy⟩ := S.ylds i H x H' y
    have g2 : G F L (ow F.K F.mg D ds :: O) σ H := ⟨L2.Paired.mapP g1.slots fun _ _ z => z.mono (rg_new rfl sH hD), go2⟩
    have g3 : G F L (ow F.K F.mg D ds :: O) σ H' := g2.grow s2
    have rx : rp F (rg F (ow F.K F.mg D ds :: O) H') x as[i] := by
      rcases hfl with e | e
      · subst e
        exact yy _ (fun a ha z => go2.out z ha) (S.mono (rg_new rfl sH hD) hS) _ ha
      · exact e (yy [] (fun _ z => (List.not_mem_nil z).elim) (S.mono (sH.trans (fun a o z => by rw [less_out List.not_mem_nil]; exact z)) (S.mono rgn_sub hS)) _ ha)
    have gn : G F.nox (wipeL L vs) (ow F.K F.mg D ds :: O) (wipe σ vs) H' := ⟨wipe_ok g3.slots vs, g3.go.nox⟩
    refine ht x as[i] (wipe σ vs) H' (rg F (ow F.K F.mg D ds :: O) H') (wipeL L vs) _ less_same rx gn.slots fun σ2 e2 hs2 => ?_
    refine ⟨e2.trans (wipe_wipe σ vs), ?_⟩
    rw [List.drop_eq_getElem_cons hi] at q2
    rw [show filtR (fun a => (p a).quiet) (fun a => (f a).quiet) (as[i] :: List.drop (i + 1) as) = ((p as[i]).quiet).bind fun c => if c then ((f as[i]).quiet).bind fun y => (filtR (fun a => (p a).quiet) (fun a => (f a).quiet) (List.drop (i + 1) as)).bind fun ys => .ok (y :: ys) else filtR (fun a => (p a).quiet) (fun a => (f a).quiet) (List.drop (i + 1) as) from rfl, out_bind] at q2
    have gb : G F.nox (bd as[i] (wipeL L vs)) (ow F.K F.mg D ds :: O) σ2 H' := ⟨hs2, gn.go⟩
    have lss : ∀ {H'' : Hp}, Same H' H'' → Same H1 (less H'' [D]) := fun {H''} e a o z => by
      have z1 := h3 a o z
      by_cases hb : a ∈ [D]
      · rw [less_in hb] at z1; cases z1
      · rw [less_out hb] at z1 ⊢
        exact e _ _ (s2 _ _ z1)
    have regD : ∀ {H'' : Hp} {ds' : List β}, Same (rg F (ow F.K F.mg D ds' :: O) H'') (less (rg F O H'') [D]) := fun {H'' ds'} a o z => by
      unfold rg at z ⊢
      by_cases hb : a ∈ addrs (ow F.K F.mg D ds' :: O) ++ F.A
      · rw [less_in hb] at z; cases z
      · rw [less_out hb] at z
        rw [less_out (fun y => hb (by rw [List.mem_singleton.mp y]; exact List.mem_append_left _ List.mem_cons_self)), less_out (A := addrs O ++ F.A) (fun y => hb (List.mem_cons_of_mem _ y))]
        exact z
    have keepR : ∀ {H'' : Hp}, Same H' H'' → Reps F.K F.mg (less (rg F O H'') [D]) vd ds := fun {H''} e => h2.mono (less_mono fun a o _ z => rg_grow (s2.trans e) a o z)
    subst htt hte
    refine ⟨as[i], D, ds, gb, out_quiet (q2.mono (fun c qc H3 g4 s3 => ?_) fun _ z => z)⟩
    cases c with
    | false =>
      refine ⟨ds, vd, ?_, by omega, keepR s3, lss s3, qc⟩
      exact s3 _ _ (s2 _ _ h1)
    | true =>
      simp only [if_true] at qc
      rw [out_bind] at qc
      refine ⟨as[i], D, ds, g4, out_quiet (qc.mono (fun y qy v H4 g5 s4 r5 => ?_) fun _ z => z)⟩
      have s34 : Same H' H4 := s3.trans s4
      have e4 : H4 D = some (.lst vd) := s34 _ _ (s2 _ _ h1)
      have lenv : vd.length = ds.length := h2.length
      refine ⟨vd, e4, by rw [lenv]; omega, ds ++ [y], vd ++ [v], upd_same, ?_, ?_, ?_, ?_⟩
      · rw [List.length_append, List.length_singleton]; omega
      · have eqr : ∀ {a o}, less (rg F O H4) [D] a = some o → less (rg F O (upd H4 D (.lst (vd ++ [v])))) [D] a = some o := fun {a o} z => by
          by_cases hb : a ∈ [D]
          · rw [less_in hb] at z; cases z
          · have hne : a ≠ D := fun y => hb (List.mem_singleton.mpr y)
            rw [less_out hb] at z ⊢
            unfold rg at z ⊢
            by_cases hc : a ∈ addrs O ++ F.A
            · rw [less_in hc] at z; cases z
            · rw [less_out hc] at z ⊢
              rw [upd_ne hne]
              exact z
        exact (reps_append (keepR s34) (.cons (Rep.mono regD r5) .nil)).mono fun a o z => eqr z
      · intro a o z
        have z1 := lss s34 a o z
        by_cases hb : a ∈ [D]
        · rw [less_in hb] at z1; cases z1
        · rw [less_out hb] at z1 ⊢
          rw [upd_ne (fun y => hb (List.mem_singleton.mpr y))]
          exact z1
      · rw [out_bind] at qy
        exact qy.mono (fun ys kk => by rw [List.append_assoc]; exact kk) fun _ z => z
  · rintro H ⟨ds, vd, h1, hl, h2, h3, q2⟩
    rw [List.drop_length] at q2
    have q3 : KF β true F L O σ H1 Q (ds ++ []) := q2
    rw [List.append_nil] at q3
    exact q3 D vd H (g1.grow (h3.trans less_same)) (h3.trans less_same) hD h1 h2
theorem pts_ex {ι : Type} {ifs : List Expr} {t : ι → TT} (h : ∀ b, PTs X ifs (t b)) : PTs X ifs (fun σ H Q => ∃ b, t b σ H Q) := ⟨fun pins s σ H Q I ⟨b, q⟩ => (h b).run pins s σ H Q I q⟩
theorem pe_ex {ι : Type} {e : Expr} {t : ι → TE} (h : ∀ b, PE X e (t b)) : PE X e (fun σ H Q => ∃ b, t b σ H Q) := ⟨fun pins s σ H Q I ⟨b, q⟩ => (h b).run pins s σ H Q I q⟩
/-- [elt for tg in iter if ..] -/
theorem f_lcf {tg iter elt : Expr} {ifs : List Expr} {scope : Scope} {own : List (Str × Nat)} {pos : Pos} {b : Bool} {g : TG} {bd : α → List (Option Asr) → List (Option Asr)} {m : Res (List α)} {p : α → Res Bool} {f : α → Res β}
    (hc : X.calm = true) (hN : X.N.Nodup) (hi : PI X tg iter (tI b F L O m)) (hfl : b = true ∨ FlatP α) (hb : BlkOk X.N X.env.scope scope own)
    (hok : TgOk F.K F.mg g (own.map (·.2)) bd) (ht : ∀ (s : Shared) (H : Hp) (C : Addr) (cl : List (Str × Addr)) (fp : List Addr), Tg (X.blk s H scope (compEnvC scope cl C X.env) fp) F.K F.mg tg g (own.map (·.2)) bd)
    (hp : ∀ (s : Shared) (H : Hp) (C : Addr) (cl : List (Str × Addr)) (fp : List Addr) (a : α) (D : Addr) (ds : List β), PTs (X.blk s H scope (compEnvC scope cl C X.env) fp) ifs (tB' F.nox (bd a (wipeL L (own.map (·.2)))) (ow F.K F.mg D ds :: O) (p a)))
    (he : ∀ (s : Shared) (H : Hp) (C : Addr) (cl : List (Str × Addr)) (fp : List Addr) (a : α) (D : Addr) (ds : List β), PE (X.blk s H scope (compEnvC scope cl C X.env) fp) elt (tP true F.nox (bd a (wipeL L (own.map (·.2)))) (ow F.K F.mg D ds :: O) (f a)))
    (hf : ∀ x, foldedSetIterable iter X.env x = pure x := by intro _; rfl) :
    PE X (.ListComp elt [{ target := tg, iter := iter, ifs := ifs, is_async := 0 }] scope pos) (tF true F L O (m.bind fun as => need (as.length ≤ sizeLine) (filtR (fun a => (p a).quiet) (fun a => (f a).quiet) as))) := by
  refine pe_imp (pe_lc hc hN hi hb (fun s H C cl fp => (ht s H C cl fp).pg) (fun s H C cl fp => pts_ex fun a => pts_ex fun D => pts_ex fun ds => hp s H C cl fp a D ds) (fun s H C cl fp => pe_ex fun a => pe_ex fun D => pe_ex fun ds => he s H C cl fp a D ds) hf) fun σ H Q h => ?_
  exact comp_core _ _ rfl hfl hok rfl rfl σ H Q h
end
end NF

set_option Elab.async false
set_option linter.all false
set_option maxRecDepth 100000
/-! Nf7: zip, enumerate; expressions that change an owned list; defs that do. -/
namespace NF
open PySem PySem.Spec PyProof.Rows L2
open Data (toD)
section
variable {X : Cx} {F : Fr} {L : List (Option Asr)} {O : List Own} {α β γ s : Type} [Rep α] [Rep β] [Rep γ] [Rep s]
theorem less_upd {H : Hp} {Av : List Addr} {T : Addr} {o : HO} (hA : ∀ a ∈ Av, H a ≠ none) (hT : H T = none) : less (upd H T o) Av T = some o := by
  rw [less_out (fun z => hA T z hT), upd_same]
theorem less_upd_same {H : Hp} {Av : List Addr} {T : Addr} {o : HO} (hT : H T = none) : Same (less H Av) (less (upd H T o) Av) := less_mono fun b q _ h => same_upd hT b q h
def srcZ {K : Fg} {mg : MG} {a b : Addr} {vs ws : List V} {xs : List α} {ys : List β} (h1 : vs.length = xs.length) (h2 : ws.length = ys.length) : Src K mg (Itz K a b) (xs.zip ys) where
  src H := (SqL K H a vs ∧ Reps K mg H vs xs) ∧ (SqL K H b ws ∧ Reps K mg H ws ys)
  mono e h := ⟨⟨e.seq h.1.1, h.1.2.mono e⟩, ⟨e.seq h.2.1, h.2.2.mono e⟩⟩
  Y := YPair (fun i => vs[i]?) (fun i => ws[i]?)
  walk := (walk_zip (n := (xs.zip ys).length) (by rw [List.length_zip, h1, h2])).mono (fun H h => ⟨h.1.1, h.2.1⟩) (fun i H x H' _ _ y => y)
  ylds i H x H' y := by
    obtain ⟨T, v1, v2, rfl, hT, rfl, e1, e2⟩ := y
    refine ⟨same_upd hT, fun Av hA h p hp => ?_⟩
    rw [List.getElem?_zip_eq_some] at hp
    obtain ⟨v, a1, a2⟩ := reps_get h.1.2 hp.1
    obtain ⟨w, b1, b2⟩ := reps_get h.2.2 hp.2
    rw [show vs[i]? = some v1 from e1] at a1
    rw [show ws[i]? = some v2 from e2] at b1
    cases a1
    cases b1
    exact ⟨T, v1, v2, rfl, .of (less_upd hA hT), Rep.mono (less_upd_same hT) a2, Rep.mono (less_upd_same hT) b2⟩
def enumF (n : Nat) : List α → List (Int × α)
  | [] => []
  | x :: xs => ((n : Int), x) :: enumF (n + 1) xs
theorem enumF_len : ∀ (n : Nat) (xs : List α), (enumF n xs).length = xs.length
  | _, [] => rfl
  | n, _ :: xs => by show (enumF (n + 1) xs).length + 1 = xs.length + 1; rw [enumF_len]
theorem enumF_get : ∀ (n : Nat) (xs : List α) (i : Nat), (enumF n xs)[i]? = xs[i]?.map fun x => (((n + i : Nat) : Int), x)
  | _, [], i => by simp [enumF]
  | n, x :: xs, 0 => by simp [enumF]
  | n, x :: xs, i + 1 => by
    show (enumF (n + 1) xs)[i]? = _
    rw [enumF_get (n + 1) xs i, show (x :: xs)[i + 1]? = xs[i]? from rfl, show n + 1 + i = n + (i + 1) by omega]
def srcE {K : Fg} {mg : MG} {a : Addr} {vs : List V} {xs : List α} (h1 : vs.length = xs.length) : Src K mg (Ite K a) (enumF 0 xs) where
  src H := SqL K H a vs ∧ Reps K mg H vs xs
  mono e h := ⟨e.seq h.1, h.2.mono e⟩
  Y := YPair (fun i => some (.int (i : Nat))) (fun i => vs[i]?)
  walk := by rw [enumF_len, ← h1]; exact walk_enum.mono (fun H h => h.1) (fun i H x H' _ _ y => y)
  ylds i H x H' y := by
    obtain ⟨T, v1, v2, rfl, hT, rfl, e1, e2⟩ := y
    refine ⟨same_upd hT, fun Av hA h p hp => ?_⟩
    rw [enumF_get] at hp
    cases e : xs[i]? with
    | none => rw [e] at hp; cases hp
    | some x =>
      rw [e] at hp
      cases hp
      obtain ⟨v, a1, a2⟩ := reps_get h.2 e
      rw [show vs[i]? = some v2 from e2] at a1
      cases a1
      cases e1
      refine ⟨T, _, v2, rfl, .of (less_upd hA hT), ?_, Rep.mono (less_upd_same hT) a2⟩
      show V.int (i : Nat) = V.int (((0 + i : Nat) : Int))
      rw [Nat.zero_add]
theorem i_zip {elts : List Expr} {kk : Nat} {tpos : Pos} {e e2 : Expr} {b : Bool} {m : Res (List α)} {m2 : Res (List β)} {p pos : Pos} (h : PE X e (tP b F L O m)) (h2 : PE X e2 (tP b F L O m2)) (hm : X.mg "zip" = none) (hg : Gl X "zip" := by rfl) (hK : X.K = F.K := by rfl)
    (hs1 : starEach [e, e2] X.env = (false, eval e X.env) :: starEach [e2] X.env := by rfl) (hs2 : starEach [e2] X.env = (false, eval e2 X.env) :: starEach [] X.env := by rfl) (hs3 : ((backTo pos (starEach [e2] X.env)).any fun x => x.fst) = false := by rfl) :
    PI X (.Tuple elts kk tpos) (.Call (.Name "zip" p) [e, e2] [] pos) (tI b F L O (m.bind fun xs => m2.bind fun ys => .ok (xs.zip ys))) := pi_imp (pi_zip hg hm (pa_cons h (pa_cons h2 pa_nil hs2) hs1) hs1 hs3) fun σ H R ⟨g, q⟩ => by
  rw [out_bind] at q
  refine ⟨g, q.mono (fun xs k v H1 g1 s1 r1 => ?_) fun _ z => z⟩
  rw [out_bind] at k
  refine ⟨g1, k.mono (fun ys k v H2 g2 s2 r2 => ?_) fun H' ⟨a, b⟩ => ⟨a, s1.trans b⟩⟩
  obtain ⟨a, vs, rfl, h3, h4⟩ := r1
  obtain ⟨c, ws, rfl, h5, h6⟩ := r2
  rw [hK]
  have h3' := rgn_grow s2 _ _ h3
  exact ⟨a, c, vs, ws, rfl, .of (rgn_sub _ _ h3'), .of (rgn_sub _ _ h5), k _ H2 (srcZ h4.length h6.length) g2 (s1.trans s2) ⟨⟨.of h3', h4.mono (rgn_grow s2)⟩, ⟨.of h5, h6⟩⟩⟩
theorem i_enum {elts : List Expr} {kk : Nat} {tpos : Pos} {e : Expr} {b : Bool} {m : Res (List α)} {p pos : Pos} (h : PE X e (tP b F L O m)) (hm : X.mg "enumerate" = none) (hg : Gl X "enumerate" := by rfl) (hK : X.K = F.K := by rfl)
    (hs1 : starEach [e] X.env = (false, eval e X.env) :: starEach [] X.env := by rfl) (hs : starEach [e] X.env = [(false, eval e X.env)] := by rfl) :
    PI X (.Tuple elts kk tpos) (.Call (.Name "enumerate" p) [e] [] pos) (tI b F L O (m.bind fun xs => .ok (enumF 0 xs))) := pi_imp (pi_enum hg hm (pa_cons h pa_nil hs1) hs) fun σ H R ⟨g, q⟩ => by
  rw [out_bind] at q
  refine ⟨g, q.mono (fun xs k v H1 g1 s1 r1 => ?_) fun _ z => z⟩
  obtain ⟨a, vs, rfl, h3, h4⟩ := r1
  rw [hK]
  exact ⟨a, vs, rfl, .of (rgn_sub _ _ h3), k _ H1 (srcE h4.length) g1 s1 ⟨.of h3, h4⟩⟩
end
/-! ### what changes the list at p -/
def KeepBut (p : Addr) (H H' : Hp) : Prop := ∀ x o, H x = some o → x ≠ p → H' x = some o
section
variable {X : Cx} {F : Fr} {L : List (Option Asr)} {p : Addr} {O : List Own} {α β γ ι : Type} [Rep α] [Rep β] [Rep γ] [Rep ι]
theorem KeepBut.trans {H H1 H2 : Hp} (a : KeepBut p H H1) (b : KeepBut p H1 H2) : KeepBut p H H2 := fun x o h hx => b x o (a x o h hx) hx
theorem KeepBut.of {H H' : Hp} (e : Same H H') : KeepBut p H H' := fun x o h _ => e x o h
def tE {γ : Type} [Rep γ] (b : Bool) (F : Fr) (L : List (Option Asr)) (p : Addr) (xs : List ι) (O : List Own) (m : Res (γ × List ι)) : TE := fun σ H Q =>
  G F L (ow F.K F.mg p xs :: O) σ H ∧ Out F m (fun r => ∀ v H', G F L (ow F.K F.mg p r.2 :: O) σ H' → KeepBut p H H' → rp F (rgn b F (ow F.K F.mg p r.2 :: O) H') v r.1 → Q v H') (XPS F)
def tEB (F : Fr) (L : List (Option Asr)) (p : Addr) (xs : List ι) (O : List Own) (m : Res (Bool × List ι)) : TT := fun σ H Q =>
  G F L (ow F.K F.mg p xs :: O) σ H ∧ Out F m (fun r => ∀ H', G F L (ow F.K F.mg p r.2 :: O) σ H' → KeepBut p H H' → Q r.1 H') (XPS F)
def tEA {τ : Type} [RepA τ] (b : Bool) (F : Fr) (L : List (Option Asr)) (p : Addr) (xs : List ι) (O : List Own) (m : Res (τ × List ι)) : TA := fun σ H Q =>
  G F L (ow F.K F.mg p xs :: O) σ H ∧ Out F m (fun r => ∀ vs H', G F L (ow F.K F.mg p r.2 :: O) σ H' → KeepBut p H H' → RepA.rep F.K F.mg (rgn b F (ow F.K F.mg p r.2 :: O) H') vs r.1 → Q vs H') (XPS F)
variable {xs : List ι}
theorem e_p {e : Expr} {b : Bool} {m : Res γ} (hO : List.Sublist F.O0 (ow F.K F.mg p xs :: O)) (h : PE X e (tP b F L (ow F.K F.mg p xs :: O) m)) : PE X e (tE b F L p xs O (m.bind fun a => .ok (a, xs))) := pe_imp h fun σ H Q ⟨g, q⟩ => by
  rw [out_bind] at q
  exact ⟨g, q.mono (fun a k v H' g' s r => k v H' g' (.of s) r) fun H' ⟨a, _⟩ => a.go.sub hO⟩
theorem eb_p {e : Expr} {m : Res Bool} (hO : List.Sublist F.O0 (ow F.K F.mg p xs :: O)) (h : PT X e (tB' F L (ow F.K F.mg p xs :: O) m)) : PT X e (tEB F L p xs O (m.bind fun a => .ok (a, xs))) := pt_imp h fun σ H Q ⟨g, q⟩ => by
  rw [out_bind] at q
  exact ⟨g, q.mono (fun a k H' g' s => k H' g' (.of s)) fun H' ⟨a, _⟩ => a.go.sub hO⟩
theorem ne2 [Flat α] [Flat β] {x y e : Expr} {b1 b2 b3 : Bool} {r : R2} {ma : Res (α × List ι)} {mb : List ι → Res (β × List ι)} {mc : α → β → Res γ} (c : ∀ {ta tb : TE}, PE X x ta → PE X y tb → PE X e (tOp r ta tb))
    (hx : PE X x (tE b1 F L p xs O ma)) (hy : ∀ xs', PE X y (tE b2 F L p xs' O (mb xs'))) (hr : ∀ xs' : List ι, RR F L (ow F.K F.mg p xs' :: O) true true b3 r mc) (hO : ∀ xs' : List ι, List.Sublist F.O0 (ow F.K F.mg p xs' :: O)) :
    PE X e (tE b3 F L p xs O (ma.bind fun u => (mb u.2).bind fun w => (mc u.1 w.1).bind fun z => .ok (z, w.2))) := pe_imp (c hx (pe_ex hy)) fun σ H Q ⟨g, q⟩ => by
  rw [out_bind] at q
  refine ⟨g, q.mono (fun u qx v1 H1 g1 s1 r1 => ?_) fun _ z => z⟩
  rw [out_bind] at qx
  refine ⟨u.2, g1, qx.mono (fun w qy v2 H2 g2 s2 r2 => ?_) fun _ z => z⟩
  rw [out_bind] at qy
  exact hr w.2 u.1 w.1 v1 v2 H2 σ Q g2 (Flat.iff.mpr (Flat.iff.mp r1)) (Flat.iff.mpr (Flat.iff.mp r2)) (qy.mono (fun z kz v H' g' s' r' => kz v H' g' ((s1.trans s2).trans (.of s')) r') fun H' ⟨a, b⟩ => a.go.sub (hO _))
theorem ne2t [Flat α] [Flat β] {x y e : Expr} {b1 b2 : Bool} {r : R2} {ma : Res (α × List ι)} {mb : List ι → Res (β × List ι)} {mc : α → β → Res Bool} (c : ∀ {ta tb : TE}, PE X x ta → PE X y tb → PT X e (tTest (tOp r ta tb)))
    (hx : PE X x (tE b1 F L p xs O ma)) (hy : ∀ xs', PE X y (tE b2 F L p xs' O (mb xs'))) (hr : ∀ xs' : List ι, RR F L (ow F.K F.mg p xs' :: O) true true true r mc) (hO : ∀ xs' : List ι, List.Sublist F.O0 (ow F.K F.mg p xs' :: O)) :
    PT X e (tEB F L p xs O (ma.bind fun u => (mb u.2).bind fun w => (mc u.1 w.1).bind fun z => .ok (z, w.2))) := pt_imp (c hx (pe_ex hy)) fun σ H Q ⟨g, q⟩ => by
  rw [out_bind] at q
  refine ⟨g, q.mono (fun u qx v1 H1 g1 s1 r1 => ?_) fun _ z => z⟩
  rw [out_bind] at qx
  refine ⟨u.2, g1, qx.mono (fun w qy v2 H2 g2 s2 r2 => ?_) fun _ z => z⟩
  rw [out_bind] at qy
  exact hr w.2 u.1 w.1 v1 v2 H2 σ _ g2 (Flat.iff.mpr (Flat.iff.mp r1)) (Flat.iff.mpr (Flat.iff.mp r2)) (qy.mono (fun z kz v H' g' s' r' => ⟨z, r', kz H' g' ((s1.trans s2).trans (.of s'))⟩) fun H' ⟨a, b⟩ => a.go.sub (hO _))
/-- one argument -/
theorem ec1 [Flat α] {e : Expr} {b1 b3 : Bool} {r : List V → Hp → VK → Prop} {ma : Res (α × List ι)} {mc : α → Res γ} (h : PE X e (tCB r (tCons (tE b1 F L p xs O ma) tNil))) (hr : ∀ xs' : List ι, RC1 F L (ow F.K F.mg p xs' :: O) true b3 r mc) (hO : ∀ xs' : List ι, List.Sublist F.O0 (ow F.K F.mg p xs' :: O)) :
    PE X e (tE b3 F L p xs O (ma.bind fun u => (mc u.1).bind fun z => .ok (z, u.2))) := pe_imp h fun σ H Q ⟨g, q⟩ => by
  rw [out_bind] at q
  refine ⟨g, q.mono (fun u qx v1 H1 g1 s1 r1 => ?_) fun _ z => z⟩
  rw [out_bind] at qx
  exact hr u.2 u.1 v1 H1 σ Q g1 (Flat.iff.mpr (Flat.iff.mp r1)) (qx.mono (fun z kz v H' g' s' r' => kz v H' g' (s1.trans (.of s')) r') fun H' ⟨a, b⟩ => a.go.sub (hO _))
/-- if .. else, and, or -/
theorem e_if {c a e : Expr} {pos : Pos} {b : Bool} {mc : Res (Bool × List ι)} {ma mb : List ι → Res (γ × List ι)} (hc : PT X c (tEB F L p xs O mc)) (ha : ∀ xs', PE X a (tE b F L p xs' O (ma xs'))) (hb : ∀ xs', PE X e (tE b F L p xs' O (mb xs'))) :
    PE X (.IfExp c a e pos) (tE b F L p xs O (mc.bind fun u => if u.1 then ma u.2 else mb u.2)) := pe_imp (pe_ifExp hc (pe_ex ha) (pe_ex hb)) fun σ H Q ⟨g, q⟩ => by
  rw [out_bind] at q
  refine ⟨g, q.mono (fun u qc H1 g1 s1 => ?_) fun _ z => z⟩
  cases hu : u.1 with
  | true =>
    rw [hu] at qc
    exact ⟨u.2, g1, qc.mono (fun d kd v H' g' s' r' => kd v H' g' (s1.trans s') r') fun _ z => z⟩
  | false =>
    rw [hu] at qc
    exact ⟨u.2, g1, qc.mono (fun d kd v H' g' s' r' => kd v H' g' (s1.trans s') r') fun _ z => z⟩
theorem pw_ex {δ : Type} {e : Expr} {t : δ → TT} (h : ∀ b, PW X e (t b)) : PW X e (fun σ H Q => ∃ b, t b σ H Q) := ⟨fun wh pins s σ H Q I ⟨b, q⟩ => (h b).run wh pins s σ H Q I q⟩
theorem ew_and {x y : Expr} {rest : List Expr} {pos : Pos} {ma : Res (Bool × List ι)} {mb : List ι → Res (Bool × List ι)} (hx : PT X x (tEB F L p xs O ma)) (hy : ∀ xs', PW X (.BoolOp .And (y :: rest) pos) (tEB F L p xs' O (mb xs'))) :
    PW X (.BoolOp .And (x :: y :: rest) pos) (tEB F L p xs O (ma.bind fun u => if u.1 then mb u.2 else .ok (false, u.2))) := pw_imp (pw_and hx (pw_ex hy)) fun σ H Q ⟨g, q⟩ => by
  rw [out_bind] at q
  refine ⟨g, q.mono (fun u qc H1 g1 s1 => ?_) fun _ z => z⟩
  cases hu : u.1 with
  | true =>
    rw [hu] at qc
    show ∃ b, tEB F L p b O (mb b) σ H1 Q
    exact ⟨u.2, g1, qc.mono (fun d kd H' g' s' => kd H' g' (s1.trans s')) fun _ z => z⟩
  | false =>
    rw [hu] at qc
    exact qc H1 g1 s1
theorem ew_or {x y : Expr} {rest : List Expr} {pos : Pos} {ma : Res (Bool × List ι)} {mb : List ι → Res (Bool × List ι)} (hx : PT X x (tEB F L p xs O ma)) (hy : ∀ xs', PW X (.BoolOp .Or (y :: rest) pos) (tEB F L p xs' O (mb xs'))) :
    PW X (.BoolOp .Or (x :: y :: rest) pos) (tEB F L p xs O (ma.bind fun u => if u.1 then .ok (true, u.2) else mb u.2)) := pw_imp (pw_or hx (pw_ex hy)) fun σ H Q ⟨g, q⟩ => by
  rw [out_bind] at q
  refine ⟨g, q.mono (fun u qc H1 g1 s1 => ?_) fun _ z => z⟩
  cases hu : u.1 with
  | true =>
    rw [hu] at qc
    exact qc H1 g1 s1
  | false =>
    rw [hu] at qc
    show ∃ b, tEB F L p b O (mb b) σ H1 Q
    exact ⟨u.2, g1, qc.mono (fun d kd H' g' s' => kd H' g' (s1.trans s')) fun _ z => z⟩
end
end NF

set_option Elab.async false
set_option linter.all false
set_option maxRecDepth 100000
/-! Nf8: statements that change an owned list; defs that do. -/
namespace NF
open PySem PySem.Spec PyProof.Rows L2
open Data (toD)
section
variable {X : Cx} {F : Fr} {L : List (Option Asr)} {p : Addr} {O : List Own} {α β γ ι : Type} [Rep α] [Rep β] [Rep γ] [Rep ι]
/-! the owned objects in another order -/
theorem GO.perm {O2 : List Own} {H : Hp} (g : GO F O H) (h : O.Perm O2) : GO F O2 H where
  objs := fun w hw => let ⟨o, ho, q⟩ := g.objs w (h.symm.subset hw); ⟨o, ho, w.mono (less_sub fun a ha => by
    rcases List.mem_append.mp ha with z | z
    · exact List.mem_append_left _ ((h.map Own.a).symm.subset z)
    · exact List.mem_append_right _ z) q⟩
  nd := (h.map Own.a).nodup_iff.mp g.nd
  own := fun w hw => g.own w (h.symm.subset hw)
  keep := g.keep
  live := g.live
  hid := g.hid
  apart := fun w hw => g.apart w (h.symm.subset hw)
  facts := fun z hz => z.mono (less_sub fun a ha => by
    rcases List.mem_append.mp ha with z | z
    · exact List.mem_append_left _ ((h.map Own.a).symm.subset z)
    · exact List.mem_append_right _ z) (g.facts z hz)
theorem G.perm {O2 : List Own} {σ : L2.St} {H : Hp} (g : G F L O σ H) (h : O.Perm O2) : G F L O2 σ H := ⟨L2.Paired.mapP g.slots fun _ _ q => q.mono (less_sub fun a ha => by
    rcases List.mem_append.mp ha with z | z
    · exact List.mem_append_left _ ((h.map Own.a).symm.subset z)
    · exact List.mem_append_right _ z), g.go.perm h⟩
theorem s_perm {B : Type} {st : Stmt} {m : Res B} {L' : B → List (Option Asr)} {O2 : List Own} {O' O2' : B → List Own} (h : O.Perm O2) (h' : ∀ b, (O2' b).Perm (O' b)) (hs : PS X st (tN F L O2 m L' O2')) : PS X st (tN F L O m L' O') := ps_imp hs fun D σ H ⟨g, q⟩ =>
  ⟨g.perm h, q.mono (fun b k σ' H' g' => k σ' H' (g'.perm (h' b))) fun _ z => z⟩
theorem b_perm {D' : Type} {st : List Stmt} {m : Res D'} {Ret : D' → V → Hp → Prop} {O2 : List Own} (h : O.Perm O2) (hs : PSs X st (tT F L O2 m Ret)) : PSs X st (tT F L O m Ret) := pss_imp hs fun D σ H ⟨g, q⟩ => ⟨g.perm h, q⟩
theorem m_perm {B D' : Type} {st : List Stmt} {m : Res (Sum B D')} {L' : B → List (Option Asr)} {O' : B → List Own} {Ret : D' → V → Hp → Prop} {O2 : List Own} (h : O.Perm O2) (hs : PSs X st (tM F L O2 m L' O' Ret)) : PSs X st (tM F L O m L' O' Ret) := pss_imp hs fun D σ H ⟨g, q⟩ => ⟨g.perm h, q⟩
theorem n_perm {B : Type} {st : List Stmt} {m : Res B} {L' : B → List (Option Asr)} {O' : B → List Own} {O2 : List Own} (h : O.Perm O2) (hs : PSs X st (tN F L O2 m L' O')) : PSs X st (tN F L O m L' O') := pss_imp hs fun D σ H ⟨g, q⟩ => ⟨g.perm h, q⟩
/-! the list at p becomes another one -/
theorem g_upd {xs xs' : List ι} {vs' : List V} {σ : L2.St} {H : Hp} (g : G F L (ow F.K F.mg p xs :: O) σ H) (r : Reps F.K F.mg (rg F (ow F.K F.mg p xs :: O) H) vs' xs') :
    G F L (ow F.K F.mg p xs' :: O) σ (upd H p (.lst vs')) ∧ KeepBut p H (upd H p (.lst vs')) := by
  have hp : p ∈ addrs (ow F.K F.mg p xs :: O) ++ F.A := List.mem_append_left _ List.mem_cons_self
  have er : Same (rg F (ow F.K F.mg p xs :: O) H) (rg F (ow F.K F.mg p xs' :: O) (upd H p (.lst vs'))) := fun a o z => by
    unfold rg at z ⊢
    by_cases hb : a ∈ addrs (ow F.K F.mg p xs :: O) ++ F.A
    · rw [less_in hb] at z; cases z
    · rw [less_out hb] at z
      rw [less_out (show a ∉ addrs (ow F.K F.mg p xs' :: O) ++ F.A from hb), upd_ne (fun y => hb (by rw [y]; exact hp))]
      exact z
  have nd := List.nodup_cons.mp (show (p :: addrs O).Nodup from g.go.nd)
  refine ⟨⟨L2.Paired.mapP g.slots fun _ _ q => q.mono er, ?_⟩, fun x o h hx => by rw [upd_ne hx]; exact h⟩
  exact {
    objs := fun w hw => by
      rcases List.mem_cons.mp hw with rfl | hw
      · exact ⟨_, upd_same, vs', rfl, r.mono er⟩
      · obtain ⟨o, ho, q⟩ := g.go.objs w (List.mem_cons_of_mem _ hw)
        have hne : w.a ≠ p := fun y => nd.1 (by rw [← y]; exact List.mem_map.mpr ⟨w, hw, rfl⟩)
        exact ⟨o, by rw [upd_ne hne]; exact ho, w.mono er q⟩
    nd := g.go.nd
    own := fun w hw => by
      rcases List.mem_cons.mp hw with rfl | hw
      · exact g.go.own (ow F.K F.mg p xs) List.mem_cons_self
      · exact g.go.own w (List.mem_cons_of_mem _ hw)
    keep := fun a o h hw => by
      have hne : a ≠ p := fun y => by
        subst y
        rcases g.go.own _ List.mem_cons_self with z | z
        · exact hw z
        · have z' : F.H0 a = none := z
          rw [z'] at h; cases h
      rw [upd_ne hne]
      exact g.go.keep a o h hw
    live := fun a h => by
      by_cases hne : a = p
      · subst hne; rw [upd_same]; simp
      · rw [upd_ne hne]; exact g.go.live a h
    hid := g.go.hid
    apart := fun w hw => by
      rcases List.mem_cons.mp hw with rfl | hw
      · exact g.go.apart (ow F.K F.mg p xs) List.mem_cons_self
      · exact g.go.apart w (List.mem_cons_of_mem _ hw)
    facts := fun z hz => z.mono er (g.go.facts z hz) }
variable {xs : List ι}
theorem G.head {σ : L2.St} {H : Hp} (g : G F L (ow F.K F.mg p xs :: O) σ H) : ∃ vs, H p = some (.lst vs) ∧ Reps F.K F.mg (rg F (ow F.K F.mg p xs :: O) H) vs xs := by
  obtain ⟨o, h3, vs, h4, h5⟩ := g.go.objs _ List.mem_cons_self
  exact ⟨vs, h4 ▸ h3, h5⟩
/-- x = what changes the list -/
theorem s_setE {x : Str} {e : Expr} {pos pos' : Pos} (i : Nat) (hN : X.N.Nodup) {m : Res (α × List ι)} (he : PE X e (tE true F L p xs O m)) (hi : X.N[i]? = some x := by rfl) (hx : L2.Loc X.env.scope x := by first | exact .inl rfl | exact .inr rfl) (hs : swapsWith e (some (.Name x pos')) pos.line X.env = pure false := by rfl) (hf : X.fn x = true ∨ X.env.scope.names.lookup x = some .local := by first | exact .inl rfl | exact .inr rfl) :
    PS X (.Assign [.Name x pos'] e pos) (tN F L (ow F.K F.mg p xs :: O) m (fun r => L.set i (vl F.K F.mg r.1)) (fun r => ow F.K F.mg p r.2 :: O)) := ps_imp (ps_set (i := i) hN hi hx he hs hf) fun D σ H ⟨g, q⟩ =>
  ⟨g, q.mono (fun a k v H1 g1 s1 r1 => k _ _ ⟨set_ok (p := vl F.K F.mg a.1) r1 i g1.slots, g1.go⟩) fun _ z => z⟩
/-- e, for what it changes -/
theorem s_exprE {e : Expr} {pos : Pos} {m : Res (α × List ι)} (he : PE X e (tE true F L p xs O m)) (hs : swapsWith e none pos.line X.env = pure false := by rfl) :
    PS X (.Expr e pos) (tN F L (ow F.K F.mg p xs :: O) m (fun _ => L) (fun r => ow F.K F.mg p r.2 :: O)) := ps_imp (ps_expr he hs) fun D σ H ⟨g, q⟩ =>
  ⟨g, q.mono (fun a k v H1 g1 s1 r1 => k _ _ g1) fun _ z => z⟩
/-- x[i] = e -/
def setR (xs : List ι) (i : Int) (a : ι) : Res (List ι) := match ixN xs.length i with
  | some j => .ok (xs.set j a)
  | none => .bad
theorem s_sub {x : Str} {e ie : Expr} {pos pos1 pos2 : Pos} (i : Nat) (hL : L[i]? = some (rf p)) {m : Res (ι × List ι)} {mi : List ι → Res Int} (hO : ∀ xs' : List ι, List.Sublist F.O0 (ow F.K F.mg p xs' :: O)) (he : PE X e (tE true F L p xs O m)) (hie : ∀ xs' : List ι, PE X ie (tP true F L (ow F.K F.mg p xs' :: O) (mi xs')))
    (hN : X.N[i]? = some x := by rfl) (hv : Vis X.env.scope x := by first | exact Or.inl rfl | exact Or.inr (Or.inl rfl) | exact Or.inr (Or.inr rfl)) (hd : (x == ("__debug__" : Str)) = false := by decide) (hcd : (x == ("__classdict__" : Str)) = false := by decide)
    (ha : ∀ v, assign (.Subscript (.Name x pos1) ie pos2) X.env v = (do
      let ov ← holding [v] (eval (.Name x pos1) X.env)
      let iv ← holding [v, ov] (eval ie X.env)
      standAt pos2
      holding [v, ov, iv] (setItem ov iv v)
      release [v, ov, iv] []) := by intro _; rfl) (h1 : swapsWithSole [.Subscript (.Name x pos1) ie pos2] e pos.line X.env = pure false := by rfl) (h2 : swappedStores [.Subscript (.Name x pos1) ie pos2] e X.env = pure none := by rfl)
    (h3 : (assignEach [.Subscript (.Name x pos1) ie pos2] X.env).map (·.2) = [assign (.Subscript (.Name x pos1) ie pos2) X.env] := by rfl) :
    PS X (.Assign [.Subscript (.Name x pos1) ie pos2] e pos) (tN F L (ow F.K F.mg p xs :: O) (m.bind fun r => (mi r.2).bind fun j => setR r.2 j r.1) (fun _ => L) (fun ys => ow F.K F.mg p ys :: O)) := ps_imp (ps_asg he (pg_sub (pe_var hN hv hd hcd) (pe_ex hie) set_list ha) h1 h2 h3) fun D σ H ⟨g, q⟩ => by
  rw [out_bind] at q
  refine ⟨g, q.mono (fun r k v H1 g1 s1 r1 => ?_) fun _ z => z⟩
  obtain ⟨w, h4, h5⟩ := g1.slot hL
  rw [out_bind] at k
  refine ⟨w, h4, r.2, g1, k.mono (fun j k v2 H2 g2 s2 r2 => ?_) fun H' ⟨a, _⟩ => a.go.sub (hO _)⟩
  unfold setR at k
  obtain ⟨vs, h6, h7⟩ := g2.head
  cases e : ixN r.2.length j with
  | none => rw [e] at k; exact k.elim
  | some n =>
    rw [e] at k
    refine ⟨p, vs, j, n, h5, r2, h6, by rw [h7.length]; exact e, ?_⟩
    exact k σ _ (g_upd g2 (reps_set (Rep.mono (rg_grow s2) r1) n h7)).1
/-- x.append(e) -/
theorem s_app {x : Str} {e : Expr} {pos pos1 pos2 cpos : Pos} (i : Nat) (hL : L[i]? = some (rf p)) {m : Res ι} (hO : ∀ xs' : List ι, List.Sublist F.O0 (ow F.K F.mg p xs' :: O)) (he : PE X e (tP true F L (ow F.K F.mg p xs :: O) m))
    (h : ∀ {to : TE} {t : TA}, PE X (.Name x pos1) to → PA X [e] t → PE X (.Call (.Attribute (.Name x pos1) "append" pos2) [e] [] cpos) (tBM X.K "list" rAppend to t)) (hs1 : starEach [e] X.env = (false, eval e X.env) :: starEach [] X.env := by rfl)
    (hN : X.N[i]? = some x := by rfl) (hv : Vis X.env.scope x := by first | exact Or.inl rfl | exact Or.inr (Or.inl rfl) | exact Or.inr (Or.inr rfl)) (hd : (x == ("__debug__" : Str)) = false := by decide) (hcd : (x == ("__classdict__" : Str)) = false := by decide)
    (hs : swapsWith (.Call (.Attribute (.Name x pos1) "append" pos2) [e] [] cpos) none pos.line X.env = pure false := by rfl) :
    PS X (.Expr (.Call (.Attribute (.Name x pos1) "append" pos2) [e] [] cpos) pos) (tN F L (ow F.K F.mg p xs :: O) (m.bind fun a => need (xs.length < sizeLine) (.ok (xs ++ [a]))) (fun _ => L) (fun ys => ow F.K F.mg p ys :: O)) := ps_imp (ps_expr (h (pe_var hN hv hd hcd) (pa_cons he pa_nil hs1)) hs) fun D σ H ⟨g, q⟩ => by
  obtain ⟨w, h4, h5⟩ := g.slot hL
  obtain ⟨vs, h6, h7⟩ := g.head
  rw [out_bind] at q
  refine ⟨w, h4, ?_, g, q.mono (fun a k v H1 g1 s1 r1 => ?_) fun H' ⟨a, _⟩ => a.go.sub (hO _)⟩
  · rw [show w = V.ref p from h5]
    exact .inl ⟨rfl, _, .of h6⟩
  · rw [out_need] at k
    obtain ⟨vs', h8, h9⟩ := g1.head
    refine ⟨p, vs', v, h5, rfl, h8, by rw [h9.length]; exact k.1, ?_⟩
    exact k.2 σ _ (g_upd g1 (reps_append h9 (.cons r1 .nil))).1
/-- x.pop(i) -/
def popAtR (xs : List ι) (i : Int) : Res (ι × List ι) := match seqIndex? i xs.length with
  | some k => match xs[k]? with
    | some a => need (Rg63 i) (.ok (a, xs.eraseIdx k))
    | none => .bad
  | none => .bad
theorem reps_erase {K : Fg} {mg : MG} {H : Hp} : ∀ {vs : List V} {as : List ι} (n : Nat), Reps K mg H vs as → Reps K mg H (vs.eraseIdx n) (as.eraseIdx n)
  | _, _, _, .nil => .nil
  | _, _, 0, .cons _ t => t
  | _, _, n + 1, .cons q t => .cons q (reps_erase n t)
theorem e_popAt {x : Str} {ie : Expr} {pos1 pos2 cpos : Pos} (i : Nat) (hL : L[i]? = some (rf p)) {mi : Res Int} (hO : ∀ xs' : List ι, List.Sublist F.O0 (ow F.K F.mg p xs' :: O)) (hie : PE X ie (tP true F L (ow F.K F.mg p xs :: O) mi))
    (h : ∀ {to : TE} {t : TA}, PE X (.Name x pos1) to → PA X [ie] t → PE X (.Call (.Attribute (.Name x pos1) "pop" pos2) [ie] [] cpos) (tBM X.K "list" rPopAt to t)) (hs1 : starEach [ie] X.env = (false, eval ie X.env) :: starEach [] X.env := by rfl)
    (hN : X.N[i]? = some x := by rfl) (hv : Vis X.env.scope x := by first | exact Or.inl rfl | exact Or.inr (Or.inl rfl) | exact Or.inr (Or.inr rfl)) (hd : (x == ("__debug__" : Str)) = false := by decide) (hcd : (x == ("__classdict__" : Str)) = false := by decide) :
    PE X (.Call (.Attribute (.Name x pos1) "pop" pos2) [ie] [] cpos) (tE true F L p xs O (mi.bind fun j => popAtR xs j)) := pe_imp (h (pe_var hN hv hd hcd) (pa_cons hie pa_nil hs1)) fun σ H Q ⟨g, q⟩ => by
  obtain ⟨w, h4, h5⟩ := g.slot hL
  obtain ⟨vs, h6, h7⟩ := g.head
  rw [out_bind] at q
  refine ⟨w, h4, ?_, g, q.mono (fun j k v H1 g1 s1 r1 => ?_) fun H' ⟨a, _⟩ => a.go.sub (hO _)⟩
  · rw [show w = V.ref p from h5]
    exact .inl ⟨rfl, _, .of h6⟩
  · obtain ⟨vs', h8, h9⟩ := g1.head
    unfold popAtR at k
    cases e : seqIndex? j xs.length with
    | none => rw [e] at k; exact k.elim
    | some n =>
      rw [e] at k
      cases e2 : xs[n]? with
      | none => simp only [e2] at k; exact k.elim
      | some a =>
        simp only [e2] at k
        rw [out_need] at k
        obtain ⟨y, h10, h11⟩ := reps_get h9 e2
        have r1' : v = V.int j := r1
        refine ⟨p, vs', j, n, y, h5, by rw [r1'], h8, k.1.1, k.1.2, by rw [h9.length]; exact e, h10, ?_⟩
        have gu := g_upd g1 (reps_erase n h9)
        refine k.2 y _ gu.1 ((KeepBut.of s1).trans gu.2) ?_
        exact Rep.mono (fun a o z => by
          unfold rg at z
          show rgn true F (ow F.K F.mg p (xs.eraseIdx n) :: O) _ a = some o
          show less _ _ a = some o
          by_cases hb : a ∈ addrs (ow F.K F.mg p xs :: O) ++ F.A
          · rw [less_in hb] at z; cases z
          · rw [less_out hb] at z
            rw [less_out (show a ∉ addrs (ow F.K F.mg p (xs.eraseIdx n) :: O) ++ F.A from hb), upd_ne (fun y => hb (by rw [y]; exact List.mem_append_left _ List.mem_cons_self))]
            exact z) h11
end
end NF

set_option Elab.async false
set_option linter.all false
set_option maxRecDepth 100000
/-! Nf9: built-ins. -/
namespace NF
open PySem PySem.Spec PyProof.Rows L2
open Data (toD)
/-- the name of a value's type -/
class Ty (α : Type) [Rep α] where
  tyN : α → String
  ok : ∀ {K : Fg} {mg : MG} {H : Hp} {v : V} {a : α}, Rep.rep K mg H v a → TyX K H v (.type (tyN a))
theorem tyx_tup {K : Fg} {H : Hp} {p : Addr} {vs : List V} (h : SqT K H p vs) : TyX K H (.ref p) (.type "tuple") := by
  rcases h with (h | ⟨o, h⟩) | ⟨o, its, n, h1, h2, _⟩
  · exact .base (.tup h)
  · exact .fTuple h
  · exact .kTuple h1 h2
theorem tyx_lst {K : Fg} {H : Hp} {p : Addr} {vs : List V} (h : SqL K H p vs) : TyX K H (.ref p) (.type "list") := by
  rcases h with (h | ⟨o, h⟩) | ⟨o, its, n, h1, h2, _⟩
  · exact .base (.lst h)
  · exact .base (.frz h)
  · exact .kList h1 h2
instance : Ty Int := ⟨fun _ => "int", fun {K mg H v a} h => by subst h; exact .base (.int a)⟩
instance : Ty Bool := ⟨fun _ => "bool", fun {K mg H v a} h => by subst h; exact .base (.bl a)⟩
instance : Ty Str := ⟨fun _ => "str", fun {K mg H v a} h => by subst h; exact .base (.str a)⟩
instance : Ty Unit := ⟨fun _ => "NoneType", fun {K mg H v a} h => by subst h; exact .base .non⟩
instance {α : Type} [Rep α] : Ty (List α) := ⟨fun _ => "list", fun ⟨p, vs, h1, h2, h3⟩ => by subst h1; exact tyx_lst (.of h2)⟩
instance {α : Type} [Rep α] : Ty (Tp α) := ⟨fun _ => "tuple", fun ⟨p, vs, h1, h2, h3⟩ => by subst h1; exact tyx_tup h2⟩
instance {α β : Type} [Rep α] [Rep β] : Ty (α × β) := ⟨fun _ => "tuple", fun ⟨p, a, b, h1, h2, _⟩ => by subst h1; exact tyx_tup h2⟩
def dName : PyData → String
  | .none => "NoneType"
  | .bool _ => "bool"
  | .int _ => "int"
  | .str _ => "str"
  | .list _ => "list"
  | .tuple _ => "tuple"
  | .dict _ => "dict"
instance : Ty PyData := ⟨dName, fun {K mg H v a} h => by
  cases (show Dp K H v a from h) with
  | non => exact .base .non
  | bl b => exact .base (.bl b)
  | int i => exact .base (.int i)
  | str x => exact .base (.str x)
  | lst h2 hs => exact tyx_lst h2
  | tup h2 hs => exact tyx_tup h2⟩
/-- isinstance by the names -/
def isT (T n : String) : Res Bool := match kitB n T with
  | some b => .ok b
  | none => .bad
section
variable {X : Cx} {F : Fr} {L : List (Option Asr)} {O : List Own} {α β γ s : Type} [Rep α] [Rep β] [Rep γ] [Rep s] {b1 b2 b3 : Bool} {pos p1 p2 : Pos}
theorem ty_grow [Ty α] {K : Fg} {H H' : Hp} {t : Value} {v : V} (h : TyX K H v t) : True := trivial
theorem n_isi [Ty α] {e : Expr} {T : Str} {n : String} {m : Res α} (h : PE X e (tP b1 F L O m)) (hT : bootBuiltins T = some (.type n)) (hm : X.mg T = none) (hi : X.mg "isinstance" = none) (hg : Gl X "isinstance" := by rfl) (hgT : Gl X T := by rfl) (hK : X.K = F.K := by rfl) (hM : X.mg = F.mg := by rfl)
    (hn : T ≠ "__name__" := by decide) (hd : (T == ("__debug__" : Str)) = false := by decide)
    (h1 : starEach [e, .Name T p2] X.env = (false, eval e X.env) :: starEach [.Name T p2] X.env := by rfl) (h2 : starEach [.Name T p2] X.env = (false, eval (.Name T p2) X.env) :: starEach [] X.env := by rfl)
    (c : ∀ {r : List V → Hp → VK → Prop} {t : TA}, CallR X (.builtin "isinstance") r → PA X [e, .Name T p2] t → PE X (.Call (.Name "isinstance" p1) [e, .Name T p2] [] pos) (tCB r t)) :
    PE X (.Call (.Name "isinstance" p1) [e, .Name T p2] [] pos) (tP b3 F L O (m.bind fun a => isT n (Ty.tyN a))) := pe_imp (c call_isi (pa_cons h (pa_cons (pe_bltn (v := .ty n) hgT hm hT rfl hn hd) pa_nil h2) h1)) fun σ H Q ⟨g, q⟩ => by
  rw [out_bind] at q
  refine ⟨g, q.mono (fun a k v H1 g1 s1 r1 => ?_) fun _ z => z⟩
  unfold isT at k
  cases e : kitB (Ty.tyN a) n with
  | none => rw [e] at k; exact k.elim
  | some b =>
    rw [e] at k
    have ht : TyX F.K (rgn b1 F O H1) v (.type (Ty.tyN a)) := Ty.ok r1
    have ht' : TyX X.K H1 v (.type (Ty.tyN a)) := by rw [hK]; exact Ty.ok (α := α) (mg := F.mg) (Rep.mono rgn_sub r1)
    exact ⟨v, .ty n, _, _, b, rfl, .ty n, ht', kit_ty e, k _ H1 g1 s1 rfl⟩
/-- abs, int, bool, max, min -/
theorem n_abs {e : Expr} {m : Res Int} {es} (h : PE X e (tCB es (tCons (tP b1 F L O m) tNil))) (er : es = fun xs H Q => ∃ i, xs = [V.int i] ∧ Q (.int (if i < 0 then -i else i)) H) : PE X e (tP b3 F L O (m.bind fun i => .ok (if i < 0 then -i else i))) := nc1 h fun x vx H σ Q g rx q => by
  subst er; cases rx; exact ⟨x, rfl, kp_flat (α := Int) g q⟩
theorem n_int1 {e : Expr} {m : Res Int} {es} (h : PE X e (tCB es (tCons (tP b1 F L O m) tNil))) (er : es = fun xs H Q => (∃ i, xs = [V.int i] ∧ Q (.int i) H) ∨ ∃ k, xs = [V.bl k] ∧ Q (.int (if k then 1 else 0)) H) : PE X e (tP b3 F L O (m.bind fun i => .ok i)) := nc1 h fun x vx H σ Q g rx q => by
  subst er; cases rx; exact .inl ⟨x, rfl, kp_flat (α := Int) g q⟩
theorem n_intB {e : Expr} {m : Res Bool} {es} (h : PE X e (tCB es (tCons (tP b1 F L O m) tNil))) (er : es = fun xs H Q => (∃ i, xs = [V.int i] ∧ Q (.int i) H) ∨ ∃ k, xs = [V.bl k] ∧ Q (.int (if k then 1 else 0)) H) : PE X e (tP b3 F L O (m.bind fun k => .ok (if k then (1 : Int) else 0))) := nc1 h fun x vx H σ Q g rx q => by
  subst er; cases rx; exact .inr ⟨x, rfl, kp_flat (α := Int) g q⟩
theorem n_max2 {e : Expr} {ma mb : Res Int} {es} (h : PE X e (tCB es (tCons (tP b1 F L O ma) (tCons (tP b2 F L O mb) tNil)))) (er : es = fun xs H Q => ∃ i j, xs = [V.int i, V.int j] ∧ Q (.int (if j > i then j else i)) H) : PE X e (tP b3 F L O (ma.bind fun i => mb.bind fun j => .ok (if j > i then j else i))) := nc2 h fun x y vx vy H σ Q g rx ry q => by
  subst er; cases rx; cases ry; exact ⟨x, y, rfl, kp_flat (α := Int) g q⟩
theorem n_min2 {e : Expr} {ma mb : Res Int} {es} (h : PE X e (tCB es (tCons (tP b1 F L O ma) (tCons (tP b2 F L O mb) tNil)))) (er : es = fun xs H Q => ∃ i j, xs = [V.int i, V.int j] ∧ Q (.int (if j < i then j else i)) H) : PE X e (tP b3 F L O (ma.bind fun i => mb.bind fun j => .ok (if j < i then j else i))) := nc2 h fun x y vx vy H σ Q g rx ry q => by
  subst er; cases rx; cases ry; exact ⟨x, y, rfl, kp_flat (α := Int) g q⟩
/-- the least, the greatest of a list of ints -/
def minR (xs : List Int) : Res Int := match xs with
  | [] => .bad
  | x :: r => .ok (r.foldl min x)
def maxR (xs : List Int) : Res Int := match xs with
  | [] => .bad
  | x :: r => .ok (r.foldl max x)
theorem foldl_min_le : ∀ (r : List Int) (x : Int), r.foldl min x ≤ x ∧ (∀ y ∈ r, r.foldl min x ≤ y) ∧ (r.foldl min x = x ∨ r.foldl min x ∈ r)
  | [], x => ⟨Int.le_refl _, fun _ h => (List.not_mem_nil h).elim, .inl rfl⟩
  | y :: r, x => by
    obtain ⟨h1, h2, h3⟩ := foldl_min_le r (min x y)
    refine ⟨by show r.foldl min (min x y) ≤ x; omega, fun z hz => ?_, ?_⟩
    · rcases List.mem_cons.mp hz with rfl | hz
      · show r.foldl min (min x z) ≤ z; omega
      · exact h2 z hz
    · show r.foldl min (min x y) = x ∨ r.foldl min (min x y) ∈ y :: r
      rcases h3 with h3 | h3
      · by_cases h : x ≤ y
        · left; omega
        · right; rw [h3, show min x y = y by omega]; exact List.mem_cons_self
      · right; exact List.mem_cons_of_mem _ h3
theorem foldl_max_le : ∀ (r : List Int) (x : Int), x ≤ r.foldl max x ∧ (∀ y ∈ r, y ≤ r.foldl max x) ∧ (r.foldl max x = x ∨ r.foldl max x ∈ r)
  | [], x => ⟨Int.le_refl _, fun _ h => (List.not_mem_nil h).elim, .inl rfl⟩
  | y :: r, x => by
    obtain ⟨h1, h2, h3⟩ := foldl_max_le r (max x y)
    refine ⟨by show x ≤ r.foldl max (max x y); omega, fun z hz => ?_, ?_⟩
    · rcases List.mem_cons.mp hz with rfl | hz
      · show z ≤ r.foldl max (max x z); omega
      · exact h2 z hz
    · show r.foldl max (max x y) = x ∨ r.foldl max (max x y) ∈ y :: r
      rcases h3 with h3 | h3
      · by_cases h : y ≤ x
        · left; omega
        · right; rw [h3, show max x y = y by omega]; exact List.mem_cons_self
      · right; exact List.mem_cons_of_mem _ h3
theorem n_min {e : Expr} {m : Res (List Int)} {es} (h : PE X e (tCB es (tCons (tP b1 F L O m) tNil))) (er : es = rMin F.K) : PE X e (tP b3 F L O (m.bind minR)) := nc1 h fun x vx H σ Q g rx q => by
  subst er
  obtain ⟨p, vs, rfl, h2, h3⟩ := rx
  have e := reps_flat.mp h3
  subst e
  cases x with
  | nil => exact q.elim
  | cons y r =>
    refine ⟨p, y :: r, rfl, .of (rgn_sub _ _ h2), by simp, fun m hm hle => ?_⟩
    obtain ⟨f1, f2, f3⟩ := foldl_min_le r y
    have em : m = r.foldl min y := by
      have a1 : m ≤ r.foldl min y := by
        rcases f3 with f3 | f3
        · rw [f3]; exact hle y List.mem_cons_self
        · exact hle _ (List.mem_cons_of_mem _ f3)
      have a2 : r.foldl min y ≤ m := by
        rcases List.mem_cons.mp hm with e | e
        · rw [e]; exact f1
        · exact f2 m e
      omega
    subst em
    exact kp_flat (α := Int) g q
theorem n_max {e : Expr} {m : Res (List Int)} {es} (h : PE X e (tCB es (tCons (tP b1 F L O m) tNil))) (er : es = rMax F.K) : PE X e (tP b3 F L O (m.bind maxR)) := nc1 h fun x vx H σ Q g rx q => by
  subst er
  obtain ⟨p, vs, rfl, h2, h3⟩ := rx
  have e := reps_flat.mp h3
  subst e
  cases x with
  | nil => exact q.elim
  | cons y r =>
    refine ⟨p, y :: r, rfl, .of (rgn_sub _ _ h2), by simp, fun m hm hle => ?_⟩
    obtain ⟨f1, f2, f3⟩ := foldl_max_le r y
    have em : m = r.foldl max y := by
      have a1 : r.foldl max y ≤ m := by
        rcases f3 with f3 | f3
        · rw [f3]; exact hle y List.mem_cons_self
        · exact hle _ (List.mem_cons_of_mem _ f3)
      have a2 : m ≤ r.foldl max y := by
        rcases List.mem_cons.mp hm with e | e
        · rw [e]; exact f1
        · exact f2 m e
      omega
    subst em
    exact kp_flat (α := Int) g q
theorem n_sum {e : Expr} {m : Res (List Int)} {es} (h : PE X e (tCB es (tCons (tP b1 F L O m) tNil))) (er : es = rSum F.K) : PE X e (tP b3 F L O (m.bind fun xs => .ok xs.sum)) := nc1 h fun x vx H σ Q g rx q => by
  subst er
  obtain ⟨p, vs, rfl, h2, h3⟩ := rx
  have e := reps_flat.mp h3
  subst e
  exact ⟨p, x, rfl, .of (rgn_sub _ _ h2), kp_flat (α := Int) g q⟩
theorem n_all {e : Expr} {m : Res (List Bool)} {es} (h : PE X e (tCB es (tCons (tP b1 F L O m) tNil))) (er : es = rAll F.K) : PE X e (tP b3 F L O (m.bind fun xs => .ok (xs.all id))) := nc1 h fun x vx H σ Q g rx q => by
  subst er
  obtain ⟨p, vs, rfl, h2, h3⟩ := rx
  have e := reps_flat.mp h3
  subst e
  exact ⟨p, x, rfl, .of (rgn_sub _ _ h2), kp_flat (α := Bool) g q⟩
theorem n_any {e : Expr} {m : Res (List Bool)} {es} (h : PE X e (tCB es (tCons (tP b1 F L O m) tNil))) (er : es = rAny F.K) : PE X e (tP b3 F L O (m.bind fun xs => .ok (xs.any id))) := nc1 h fun x vx H σ Q g rx q => by
  subst er
  obtain ⟨p, vs, rfl, h2, h3⟩ := rx
  have e := reps_flat.mp h3
  subst e
  exact ⟨p, x, rfl, .of (rgn_sub _ _ h2), kp_flat (α := Bool) g q⟩
/-- list(xs), tuple(xs) -/
theorem f_list [Lk s α] {e : Expr} {m : Res s} {es} (h : PE X e (tCB es (tCons (tP b1 F L O m) tNil))) (er : es = fun xs H Q => ∃ p ys, xs = [V.ref p] ∧ (SqL F.K H p ys ∨ SqT F.K H p ys) ∧ ∀ l, H l = none → Q (.ref l) (upd H l (.lst ys))) : PE X e (tF b1 F L O (m.bind fun x => .ok (Lk.its x))) := nc1f h fun x vx H σ Q g rx q => by
  subst er
  obtain ⟨p, vs, rfl, h2, h3⟩ := Lk.get rx
  exact ⟨p, vs, rfl, h2.elim (fun z => .inl (rgn_sub.seq z)) (fun z => .inr (same_t rgn_sub z)), kf_new g q h3⟩
theorem n_tupleOf [Lk s α] {e : Expr} {m : Res s} {es} (h : PE X e (tCB es (tCons (tP b1 F L O m) tNil))) (er : es = fun xs H Q => ∃ p ys, xs = [V.ref p] ∧ ((SqL F.K H p ys ∧ ∀ l, H l = none → Q (.ref l) (upd H l (.tup ys))) ∨ SqT F.K H p ys ∧ Q (.ref p) H)) : PE X e (tP b1 F L O (m.bind fun x => .ok (Tp.mk (Lk.its x)))) := nc1 h fun x vx H σ Q g rx q => by
  subst er
  obtain ⟨p, vs, rfl, h2, h3⟩ := Lk.get rx
  refine ⟨p, vs, rfl, ?_⟩
  rcases h2 with h2 | h2
  · exact .inl ⟨rgn_sub.seq h2, fun l hl => q _ _ (g.grow (same_upd hl)) (same_upd hl) ⟨l, vs, rfl, .of (rgn_new g (same_upd hl) hl upd_same), h3.mono (rgn_grow (same_upd hl))⟩⟩
  · exact .inr ⟨same_t rgn_sub h2, q _ H g (Same.refl _) ⟨p, vs, rfl, h2, h3⟩⟩
/-- n.bit_length() -/
theorem n_bits {o : Expr} {apos : Pos} {m : Res Int} (h : PE X o (tP b1 F L O m)) (hb : attributeBase o "bit_length" X.env (eval o X.env) = eval o X.env := by rfl) (hl : (apos.endLine == pos.line) = true := by rfl) :
    PE X (.Call (.Attribute o "bit_length" apos) [] [] pos) (tP b3 F L O (m.bind fun i => .ok ((Builtin.Int.intBits i : Nat) : Int))) := pe_imp (pe_bits h hb hl) fun σ H Q ⟨g, q⟩ => by
  rw [out_bind] at q
  exact ⟨g, q.mono (fun i k v H1 g1 s1 r1 => ⟨i, r1, k _ H1 g1 s1 rfl⟩) fun _ z => z⟩
end
end NF

set_option Elab.async false
set_option linter.all false
set_option maxRecDepth 100000
/-! Nf10: where a def stands; defs that change a list. -/
namespace NF
open PySem PySem.Spec PyProof.Rows L2
open Data (toD)
/-- a def of the module, with its promise -/
structure DefAt (P : Program) (w : World) (K : Fg) (mg : MG) (base : Heap) (cx : CXT) (k : Nat) (x : Str) (ps : List Str) (sp : Sp) : Prop where
  ex : ∃ (f : Addr) (fd : FuncData), FnOk P w K mg base cx k f fd ps sp ∧ mg x = some (.ref f) ∧ PySem.W.keepIn K (.ref f) = true ∧ Binds K fd ps []
section
variable {X : Cx} {F : Fr} {L : List (Option Asr)} {O : List Own} {p : Addr} {τ ρ α ι : Type} [RepA τ] [Rep ρ] [Rep α] [Rep ι]
variable {k : Nat} {ps : List Str} {x : Str} {p1 pos : Pos} {e : Expr} {es : List Expr} {b : Bool}
theorem nd_call {mir : τ → Res ρ} {m : Res τ} (D : DefAt X.prog X.w X.K X.mg X.base CX0 k x ps (spP X.K X.mg mir)) (hr : Room k X.A) (ha : PA X (e :: es) (tA b F L O m)) (hg : Gl X x := by rfl) (hE : F.E = E0 := by rfl) (hK : X.K = F.K := by rfl) (hM : X.mg = F.mg := by rfl) (hd : (x == ("__debug__" : Str)) = false := by decide)
    (hs : starEach (e :: es) X.env = (false, eval e X.env) :: starEach es X.env := by rfl) (hs2 : ((backTo pos (starEach es X.env)).any fun x => x.fst) = false := by rfl) : PE X (.Call (.Name x p1) (e :: es) [] pos) (tP b F L O (m.bind mir)) := by
  obtain ⟨f, fd, h1, h2, h3, h4⟩ := D.ex
  exact n_call h1 hr h2 h3 h4 ha hg hE hK hM hd hs hs2
theorem fd_call {mir : τ → Res (List α)} {m : Res τ} (D : DefAt X.prog X.w X.K X.mg X.base CX0 k x ps (spF X.K X.mg mir)) (hr : Room k X.A) (ha : PA X (e :: es) (tA b F L O m)) (hg : Gl X x := by rfl) (hE : F.E = E0 := by rfl) (hK : X.K = F.K := by rfl) (hM : X.mg = F.mg := by rfl) (hd : (x == ("__debug__" : Str)) = false := by decide)
    (hs : starEach (e :: es) X.env = (false, eval e X.env) :: starEach es X.env := by rfl) (hs2 : ((backTo pos (starEach es X.env)).any fun x => x.fst) = false := by rfl) : PE X (.Call (.Name x p1) (e :: es) [] pos) (tF b F L O (m.bind mir)) := by
  obtain ⟨f, fd, h1, h2, h3, h4⟩ := D.ex
  exact f_call h1 hr h2 h3 h4 ha hg hE hK hM hd hs hs2
end
/-! ### defs that change the list that is passed first -/
abbrev F2 (K : Fg) (mg : MG) (H : Hp) (A : List Addr) (E : XK) (p : Addr) : Fr := ⟨K, mg, H, [p], A, [], E, []⟩
def spI {τ ρ ι : Type} [RepA τ] [Rep ρ] [Rep ι] (K : Fg) (mg : MG) (mir : List ι → τ → Res (ρ × List ι)) : Sp := fun vs H Q _ => ∃ (p : Addr) (a : τ) (A : List Addr) (xs : List ι) (us ws : List V), (∀ x ∈ A, H x ≠ none) ∧ p ∉ A ∧ vs = .ref p :: us ∧ RepA.rep K mg (less H (p :: A)) us a ∧
  H p = some (.lst ws) ∧ Reps K mg (less H (p :: A)) ws xs ∧
  Out (F2 K mg H A E0 p) (mir xs a) (fun r => ∀ v H' ws', KeepBut p H H' → H' p = some (.lst ws') → Reps K mg (less H' (p :: A)) ws' r.2 → Rep.rep K mg (less H' (p :: A)) v r.1 → Q v H') (fun H' => GO (F2 K mg H A E0 p) [] H')
def rI {ρ ι : Type} [Rep ρ] [Rep ι] (F : Fr) (p : Addr) (r : ρ × List ι) (v : V) (H : Hp) : Prop := GO F [ow F.K F.mg p r.2] H ∧ rp F (rg F [ow F.K F.mg p r.2] H) v r.1
theorem go_startI {ι : Type} [Rep ι] {K : Fg} {mg : MG} {H : Hp} {A : List Addr} {E : XK} {p : Addr} {xs : List ι} {ws : List V} (hA : ∀ x ∈ A, H x ≠ none) (hp : p ∉ A) (h : H p = some (.lst ws)) (r : Reps K mg (less H (p :: A)) ws xs) : GO (F2 K mg H A E p) [ow K mg p xs] H where
  objs := fun w hw => by
    rw [List.mem_singleton.mp hw]
    exact ⟨_, h, ws, rfl, r⟩
  nd := by simp
  own := fun w hw => by rw [List.mem_singleton.mp hw]; exact .inl List.mem_cons_self
  keep := fun _ _ h _ => h
  live := fun _ h => h
  hid := hA
  apart := fun w hw => by rw [List.mem_singleton.mp hw]; exact hp
  facts := fun _ h => (List.not_mem_nil h).elim
section
variable {P : Program} {w : World} {K : Fg} {mg : MG} {base : Heap} {τ ρ ι : Type} [RepA τ] [Rep ρ] [Rep ι]
variable {x qual : Str} {st : Stmt} {f : Addr} {fd : FuncData} {N ps : List Str} {k : Nat}
theorem def_I {mir : List ι → τ → Res (ρ × List ι)} (Fu : Fun K x qual st f fd) (S : FnScope N ps (defScope st)) (L0 : Addr → τ → List (Option Asr)) (hl : ∀ (vs : List V) (R : Hp) (p : Addr) (a : τ), RepA.rep K mg R vs a → (V.ref p :: vs).length = ps.length ∧ Paired (SlotOk R) (L0 p a) (start N (V.ref p :: vs)))
    (body : ∀ (cdv : Value) (A : Around) (outer : List Env) (s : Shared) (H : Hp) (Av : List Addr) (E : XK) (p : Addr) (xs : List ι) (a : τ), Room k (A.deeper (envOfC qual (defScope st) s.heap.objs.size f cdv)) →
      PSs (cxOf CX0 P w K mg base N qual (defScope st) f cdv A outer s H E).nox (defBody st) (tT (F2 K mg H Av E0 p) (L0 p a) [ow K mg p xs] (mir xs a) (rI (F2 K mg H Av E0 p) p))) :
    FnOk P w K mg base CX0 (k + 1) f fd ps (spI K mg mir) := by
  refine Fu.ok S (fun vs H Q E ⟨p, a, A, xs, us, ws, _, _, e, h, _⟩ => by rw [e]; exact (hl us _ p a h).1) (fun cdv A outer s H vs Q E hr ⟨p, a, Av, xs, us, ws, hA, hp, e, h, h1, h2, q⟩ => ⟨_, body cdv A outer s H Av E p xs a hr, ⟨?_, go_startI hA hp h1 h2⟩, ?_⟩)
  · rw [e]
    exact (hl us _ p a h).2
  · refine q.mono (fun r k v H' ⟨g, r'⟩ => ?_) fun H' g => g
    obtain ⟨vs', h3, h4⟩ := (show ∃ vs', H' p = some (.lst vs') ∧ _ from by
      obtain ⟨o, h5, vs', h6, h7⟩ := g.objs _ List.mem_cons_self
      exact ⟨vs', h6 ▸ h5, h7⟩)
    exact k v H' vs' (fun x o h hx => g.keep x o h (fun z => hx (List.mem_singleton.mp z))) h3 h4 r'
end
section
variable {X : Cx} {F : Fr} {L : List (Option Asr)} {O : List Own} {p : Addr} {τ ρ α ι : Type} [RepA τ] [Rep ρ] [Rep α] [Rep ι] {xs : List ι}
variable {k : Nat} {ps : List Str} {x y : Str} {p1 p2 pos : Pos} {e : Expr} {es : List Expr}
/-! arguments -/
theorem ea_p {b : Bool} {es : List Expr} {m : Res τ} (hO : List.Sublist F.O0 (ow F.K F.mg p xs :: O)) (h : PA X es (tA b F L (ow F.K F.mg p xs :: O) m)) : PA X es (tEA b F L p xs O (m.bind fun a => .ok (a, xs))) := pa_imp h fun σ H Q ⟨g, q⟩ => by
  rw [out_bind] at q
  exact ⟨g, q.mono (fun a k vs H' g' s r => k vs H' g' (.of s) r) fun H' ⟨a, _⟩ => a.go.sub hO⟩
theorem pa_ex {δ : Type} {es : List Expr} {t : δ → TA} (h : ∀ b, PA X es (t b)) : PA X es (fun σ H Q => ∃ b, t b σ H Q) := ⟨fun pos pins s σ H Q I ⟨b, q⟩ => (h b).run pos pins s σ H Q I q⟩
theorem ea_cons [Flat α] {e : Expr} {es : List Expr} {ma : Res (α × List ι)} {mr : List ι → Res (τ × List ι)} (he : PE X e (tE true F L p xs O ma)) (hr : ∀ xs', PA X es (tEA true F L p xs' O (mr xs'))) (hs : starEach (e :: es) X.env = (false, eval e X.env) :: starEach es X.env := by rfl) :
    PA X (e :: es) (tEA true F L p xs O (ma.bind fun u => (mr u.2).bind fun w => .ok (Ar.mk u.1 w.1, w.2))) := pa_imp (pa_cons he (pa_ex hr) hs) fun σ H Q ⟨g, q⟩ => by
  rw [out_bind] at q
  refine ⟨g, q.mono (fun u qx v1 H1 g1 s1 r1 => ?_) fun _ z => z⟩
  rw [out_bind] at qx
  refine ⟨u.2, g1, qx.mono (fun w qy v2 H2 g2 s2 r2 => ?_) fun _ z => z⟩
  exact qy _ H2 g2 (s1.trans s2) ⟨v1, v2, rfl, Flat.iff.mpr (Flat.iff.mp r1), r2⟩
/-- a pure argument, whose value stands outside the list -/
theorem ea_consP {e : Expr} {es : List Expr} {ma : Res α} {mr : Res (τ × List ι)} (hO : List.Sublist F.O0 (ow F.K F.mg p xs :: O)) (he : PE X e (tP true F L (ow F.K F.mg p xs :: O) ma)) (hr : PA X es (tEA true F L p xs O mr)) (hs : starEach (e :: es) X.env = (false, eval e X.env) :: starEach es X.env := by rfl) :
    PA X (e :: es) (tEA true F L p xs O (ma.bind fun u => mr.bind fun w => .ok (Ar.mk u w.1, w.2))) := pa_imp (pa_cons he hr hs) fun σ H Q ⟨g, q⟩ => by
  rw [out_bind] at q
  refine ⟨g, q.mono (fun u qx v1 H1 g1 s1 r1 => ?_) fun H' ⟨a, _⟩ => a.go.sub hO⟩
  rw [out_bind] at qx
  refine ⟨g1, qx.mono (fun w qy v2 H2 g2 s2 r2 => ?_) fun _ z => z⟩
  refine qy _ H2 g2 ((KeepBut.of s1).trans s2) ⟨v1, v2, rfl, Rep.mono (fun a o z => ?_) r1, r2⟩
  have hb : a ∉ addrs (ow F.K F.mg p xs :: O) ++ F.A := fun y => by
    have z' : less H1 _ a = some o := z
    rw [less_in y] at z'
    cases z'
  have z' : less H1 (addrs (ow F.K F.mg p xs :: O) ++ F.A) a = some o := z
  rw [less_out hb] at z'
  show less H2 (addrs (ow F.K F.mg p w.2 :: O) ++ F.A) a = some o
  rw [less_out (show a ∉ addrs (ow F.K F.mg p w.2 :: O) ++ F.A from hb)]
  exact s2 _ _ z' (fun y => hb (by rw [y]; exact List.mem_append_left _ List.mem_cons_self))
/-- f(pool, ..) -/
theorem e_call {mir : List ι → τ → Res (ρ × List ι)} {m : Res (τ × List ι)} (i : Nat) (D : DefAt X.prog X.w X.K X.mg X.base CX0 k x ps (spI X.K X.mg mir)) (hr : Room k X.A) (hL : L[i]? = some (rf p)) (ha : PA X es (tEA true F L p xs O m)) (hg : Gl X x := by rfl) (hE : F.E = E0 := by rfl) (hO0 : F.O0 = [] := by rfl) (hK : X.K = F.K := by rfl) (hM : X.mg = F.mg := by rfl) (hd : (x == ("__debug__" : Str)) = false := by decide)
    (hN : X.N[i]? = some y := by rfl) (hv : Vis X.env.scope y := by first | exact Or.inl rfl | exact Or.inr (Or.inl rfl) | exact Or.inr (Or.inr rfl)) (hd2 : (y == ("__debug__" : Str)) = false := by decide) (hcd : (y == ("__classdict__" : Str)) = false := by decide)
    (hs : starEach (.Name y p2 :: es) X.env = (false, eval (.Name y p2) X.env) :: starEach es X.env := by rfl) (hs2 : ((backTo pos (starEach es X.env)).any fun x => x.fst) = false := by rfl) : PE X (.Call (.Name x p1) (.Name y p2 :: es) [] pos) (tE true F L p xs O (m.bind fun u => mir u.2 u.1)) := by
  obtain ⟨f, fd, h1, h2, h3, h4⟩ := D.ex
  refine pe_imp (pe_call h1 hr hg h2 h3 h4 .nil pass0 (pa_cons (pe_var hN hv hd2 hcd) ha hs) hd hs hs2) fun σ H Q ⟨g, q⟩ => ?_
  rw [out_bind] at q
  obtain ⟨w, h5, h6⟩ := g.slot hL
  refine ⟨w, h5, g, q.mono (fun u qa vs H1 g1 s1 r1 => ?_) fun _ z => z⟩
  obtain ⟨ws, h7, h8⟩ := g1.head
  have e1 : w = V.ref p := h6
  subst e1
  show spI X.K X.mg mir ((V.ref p :: vs) ++ []) H1 Q E0
  rw [List.append_nil, hK, hM]
  have hmem : ∀ a ∈ addrs O ++ F.A, H1 a ≠ none := fun a ha z => g1.go.out z (List.mem_cons_of_mem _ ha)
  have hpn : p ∉ addrs O ++ F.A := fun z => by
    rcases List.mem_append.mp z with z | z
    · exact (List.nodup_cons.mp (show (p :: addrs O).Nodup from g1.go.nd)).1 z
    · exact g1.go.apart _ List.mem_cons_self z
  refine ⟨p, u.1, addrs O ++ F.A, u.2, vs, ws, hmem, hpn, rfl, r1, h7, h8, ?_⟩
  have back : ∀ {H' : Hp} {ys : List ι} {ws' : List V}, KeepBut p H1 H' → H' p = some (.lst ws') → Reps F.K F.mg (less H' (p :: (addrs O ++ F.A))) ws' ys → G F L (ow F.K F.mg p ys :: O) σ H' := fun {H' ys ws'} kb hp' rr => by
    have er : Same (rg F (ow F.K F.mg p u.2 :: O) H1) (rg F (ow F.K F.mg p ys :: O) H') := fun a o z => by
      have hb : a ∉ addrs (ow F.K F.mg p u.2 :: O) ++ F.A := fun y => by unfold rg at z; rw [less_in y] at z; cases z
      unfold rg at z ⊢
      rw [less_out hb] at z
      rw [less_out (show a ∉ addrs (ow F.K F.mg p ys :: O) ++ F.A from hb)]
      exact kb _ _ z (fun y => hb (by rw [y]; exact List.mem_append_left _ List.mem_cons_self))
    refine ⟨L2.Paired.mapP g1.slots fun _ _ z => z.mono er, ?_⟩
    exact {
      objs := fun w hw => by
        rcases List.mem_cons.mp hw with rfl | hw
        · exact ⟨_, hp', ws', rfl, rr⟩
        · obtain ⟨o, ho, q⟩ := g1.go.objs w (List.mem_cons_of_mem _ hw)
          exact ⟨o, kb _ _ ho (fun y => hpn (by rw [← y]; exact List.mem_append_left _ (List.mem_map.mpr ⟨w, hw, rfl⟩))), w.mono er q⟩
      nd := g1.go.nd
      own := fun w hw => by
        rcases List.mem_cons.mp hw with rfl | hw
        · exact g1.go.own (ow F.K F.mg p u.2) List.mem_cons_self
        · exact g1.go.own w (List.mem_cons_of_mem _ hw)
      keep := fun a o h hw => by
        refine kb _ _ (g1.go.keep a o h hw) fun y => ?_
        subst y
        rcases g1.go.own _ List.mem_cons_self with z | z
        · exact hw z
        · have z' : F.H0 a = none := z
          rw [z'] at h; cases h
      live := fun a h => by
        by_cases hne : a = p
        · subst hne; rw [hp']; simp
        · cases z : H1 a with
          | none => exact (g1.go.live a h z).elim
          | some o => rw [kb _ _ z hne]; simp
      hid := g1.go.hid
      apart := fun w hw => by
        rcases List.mem_cons.mp hw with rfl | hw
        · exact g1.go.apart (ow F.K F.mg p u.2) List.mem_cons_self
        · exact g1.go.apart w (List.mem_cons_of_mem _ hw)
      facts := fun z hz => z.mono er (g1.go.facts z hz) }
  cases e : mir u.2 u.1 with
  | ok r =>
    rw [e] at qa
    exact fun v H' ws' kb h9 h10 h11 => qa v H' (back kb h9 h10) (s1.trans kb) h11
  | err c fs =>
    rw [e] at qa
    rw [← hE]
    exact fun C d H' h9 h10 h12 => qa C d H' h9 (h10.older g1.go.live) (by
      rw [XPS, hO0]
      exact {
        objs := fun _ h => (List.not_mem_nil h).elim
        nd := List.nodup_nil
        own := fun _ h => (List.not_mem_nil h).elim
        keep := fun a o h hw => by
          have hne : a ≠ p := fun y => by
            subst y
            rcases g1.go.own _ List.mem_cons_self with z | z
            · exact hw z
            · have z' : F.H0 a = none := z
              rw [z'] at h; cases h
          exact h12.keep a o (g1.go.keep a o h hw) (fun z => hne (List.mem_singleton.mp z))
        live := fun a h => h12.live a (g1.go.live a h)
        hid := g1.go.hid
        apart := fun _ h => (List.not_mem_nil h).elim
        facts := fun z hz => z.mono (fun a o y => by
          have hb : a ∉ addrs (ow F.K F.mg p u.2 :: O) ++ F.A := fun y' => by unfold rg at y; rw [less_in y'] at y; cases y
          unfold rg at y ⊢
          rw [less_out hb] at y
          rw [show addrs ([] : List Own) ++ F.A = F.A from rfl, less_out (fun y' => hb (List.mem_append_right _ y'))]
          exact h12.keep a o y (fun z => hb (by rw [List.mem_singleton.mp z]; exact List.mem_append_left _ List.mem_cons_self))) (g1.go.facts z hz) })
  | bad =>
    rw [e] at qa
    exact qa.elim
/-! handing back from a def that changes p -/
theorem b_retI {m : Res ρ} {e : Expr} {pos : Pos} (he : PE X e (tP true F L O m)) (hO1 : List.Sublist [ow F.K F.mg p xs] O) (hO : List.Sublist F.O0 O) : PSs X [.Return (some e) pos] (tT F L O (m.bind fun a => .ok (a, xs)) (rI F p)) := pss_one (ps_imp (ps_ret he) fun D σ H ⟨g, q⟩ => by
  rw [out_bind] at q
  exact ⟨g, q.mono (fun a k v H1 g1 s1 r1 => k v H1 ⟨g1.go.sub hO1, Rep.mono (rg_sub hO1) r1⟩) fun H' ⟨a, _⟩ => a.go.sub hO⟩)
theorem b_retE {m : Res (ρ × List ι)} {e : Expr} {pos : Pos} (he : PE X e (tE true F L p xs O m)) : PSs X [.Return (some e) pos] (tT F L (ow F.K F.mg p xs :: O) m (rI F p)) := pss_one (ps_imp (ps_ret he) fun D σ H ⟨g, q⟩ =>
  ⟨g, q.mono (fun r k v H1 g1 s1 r1 => k v H1 ⟨g1.go.sub (.cons₂ _ (List.nil_sublist _)), Rep.mono (rg_sub (.cons₂ _ (List.nil_sublist _))) r1⟩) fun _ z => z⟩)
/-- an owned list (at q) handed back as a value -/
theorem b_retOI {as : List α} {q : Addr} {z : Str} {pos' pos : Pos} (i : Nat) (hL : L[i]? = some (rf q)) (hm : ow F.K F.mg q as ∈ O) (hO1 : List.Sublist [ow F.K F.mg p xs] O) (hne : (ow F.K F.mg p xs :: ow F.K F.mg q as :: []).Sublist O ∨ (ow F.K F.mg q as :: ow F.K F.mg p xs :: []).Sublist O) (hO : List.Sublist F.O0 O) (hN : X.N[i]? = some z := by rfl) (hv : Vis X.env.scope z := by first | exact Or.inl rfl | exact Or.inr (Or.inl rfl) | exact Or.inr (Or.inr rfl)) (hd : (z == ("__debug__" : Str)) = false := by decide)
    (hcd : (z == ("__classdict__" : Str)) = false := by decide) : PSs X [.Return (some (.Name z pos')) pos] (tT F L O (.ok (as, xs)) (rI F p)) := pss_one (ps_imp (ps_ret (pe_var hN hv hd hcd)) fun D σ H ⟨g, k⟩ => by
  obtain ⟨v, h1, h2⟩ := g.slot hL
  obtain ⟨o, h3, vs, h4, h5⟩ := g.go.objs _ hm
  subst h4
  refine ⟨v, h1, k v H ⟨g.go.sub hO1, q, vs, h2, ?_, h5.mono (rg_sub hO1)⟩⟩
  have nq : q ≠ p := by
    rcases hne with hne | hne
    · have nd := g.go.nd.sublist (hne.map Own.a)
      have nd' : [p, q].Nodup := nd
      intro e
      subst e
      simp at nd'
    · have nd := g.go.nd.sublist (hne.map Own.a)
      have nd' : [q, p].Nodup := nd
      intro e
      subst e
      simp at nd'
  show less H _ q = some (.lst vs)
  rw [less_out]
  · exact h3
  · intro y
    rcases List.mem_cons.mp (show q ∈ p :: F.A from y) with y | y
    · exact nq y
    · exact g.go.apart _ hm y)
end
end NF

set_option Elab.async false
set_option linter.all false
set_option maxRecDepth 100000
/-! Nf11: the operators that change the list; further statements. -/
namespace NF
open PySem PySem.Spec PyProof.Rows L2
open Data (toD)
section
variable {X : Cx} {F : Fr} {L : List (Option Asr)} {p : Addr} {O : List Own} {α β γ ι s : Type} [Rep α] [Rep β] [Rep γ] [Rep ι] [Rep s] {xs : List ι}
section
variable {x y : Expr} {pos : Pos} {b1 b2 b3 : Bool} {ma : Res (Int × List ι)} {mb : List ι → Res (Int × List ι)}
variable (hx : PE X x (tE b1 F L p xs O ma)) (hy : ∀ xs', PE X y (tE b2 F L p xs' O (mb xs'))) (hO : ∀ xs' : List ι, List.Sublist F.O0 (ow F.K F.mg p xs' :: O))
include hx hy hO
theorem e_add : PE X (.BinOp x .Add y pos) (tE b3 F L p xs O (ma.bind fun u => (mb u.2).bind fun w => .ok (u.1 + w.1, w.2))) := ne2 (pe_op op_add) hx hy (fun _ => rr_I0 (g := fun x y => x + y)) hO
theorem e_sub : PE X (.BinOp x .Sub y pos) (tE b3 F L p xs O (ma.bind fun u => (mb u.2).bind fun w => .ok (u.1 - w.1, w.2))) := ne2 (pe_op op_sub) hx hy (fun _ => rr_I0 (g := fun x y => x - y)) hO
theorem e_mul : PE X (.BinOp x .Mult y pos) (tE b3 F L p xs O (ma.bind fun u => (mb u.2).bind fun w => (need (CMul u.1 w.1) (.ok (u.1 * w.1))).bind fun z => .ok (z, w.2))) := ne2 (pe_op op_mul) hx hy (fun _ => rr_I (g := fun x y => x * y)) hO
theorem e_mod : PE X (.BinOp x .Mod y pos) (tE b3 F L p xs O (ma.bind fun u => (mb u.2).bind fun w => (need (0 < w.1) (.ok (u.1 % w.1))).bind fun z => .ok (z, w.2))) := ne2 (pe_op op_mod) hx hy (fun _ => rr_I (C := fun _ y => 0 < y) (g := fun x y => x % y)) hO
theorem e_fdiv : PE X (.BinOp x .FloorDiv y pos) (tE b3 F L p xs O (ma.bind fun u => (mb u.2).bind fun w => (need (CDiv u.1 w.1) (.ok (u.1 / w.1))).bind fun z => .ok (z, w.2))) := ne2 (pe_op op_fdiv) hx hy (fun _ => rr_I (g := fun x y => x / y)) hO
theorem et_eq : PT X (.Compare x [.Eq] [y] pos) (tEB F L p xs O (ma.bind fun u => (mb u.2).bind fun w => .ok (decide (u.1 = w.1), w.2))) := ne2t (mc := fun x y => .ok (decide (x = y))) (fun h1 h2 => pt_cmpR op_eq h1 h2 (nomark _)) hx hy (fun _ x y vx vy H σ Q g rx ry q => by
  cases rx; cases ry
  exact ⟨rfl, by rw [show decide (V.int x = V.int y) = decide (x = y) by simp]; exact kp_flat g q⟩) hO
theorem et_ne : PT X (.Compare x [.NotEq] [y] pos) (tEB F L p xs O (ma.bind fun u => (mb u.2).bind fun w => .ok (!decide (u.1 = w.1), w.2))) := ne2t (mc := fun x y => .ok (!decide (x = y))) (fun h1 h2 => pt_cmpR op_ne h1 h2 (nomark _)) hx hy (fun _ x y vx vy H σ Q g rx ry q => by
  cases rx; cases ry
  exact ⟨rfl, by rw [show decide (V.int x = V.int y) = decide (x = y) by simp]; exact kp_flat g q⟩) hO
theorem et_lt : PT X (.Compare x [.Lt] [y] pos) (tEB F L p xs O (ma.bind fun u => (mb u.2).bind fun w => .ok (decide (u.1 < w.1), w.2))) := ne2t (mc := fun x y => .ok (decide (x < y))) (fun h1 h2 => pt_cmpR op_lt h1 h2 (nomark _)) hx hy (fun _ => rr_I0 (g := fun x y => decide (x < y))) hO
theorem et_gt : PT X (.Compare x [.Gt] [y] pos) (tEB F L p xs O (ma.bind fun u => (mb u.2).bind fun w => .ok (decide (w.1 < u.1), w.2))) := ne2t (mc := fun x y => .ok (decide (y < x))) (fun h1 h2 => pt_cmpR op_gt h1 h2 (nomark _)) hx hy (fun _ => rr_I0 (g := fun x y => decide (y < x))) hO
end
theorem ec2 [Flat α] [Flat β] {e : Expr} {b1 b2 b3 : Bool} {r : List V → Hp → VK → Prop} {ma : Res (α × List ι)} {mb : List ι → Res (β × List ι)} {mc : α → β → Res γ} {t1 t2 : TE}
    (h : PE X e (tCB r (tCons (tE b1 F L p xs O ma) (tCons (fun σ H Q => ∃ xs', tE b2 F L p xs' O (mb xs') σ H Q) tNil))))
    (hr : ∀ xs' : List ι, ∀ x y vx vy H σ Q, G F L (ow F.K F.mg p xs' :: O) σ H → rp F (rgn true F (ow F.K F.mg p xs' :: O) H) vx x → rp F (rgn true F (ow F.K F.mg p xs' :: O) H) vy y → Out F (mc x y) (KP γ b3 F L (ow F.K F.mg p xs' :: O) σ H Q) (XP F L (ow F.K F.mg p xs' :: O) σ H) → r [vx, vy] H Q) (hO : ∀ xs' : List ι, List.Sublist F.O0 (ow F.K F.mg p xs' :: O)) :
    PE X e (tE b3 F L p xs O (ma.bind fun u => (mb u.2).bind fun w => (mc u.1 w.1).bind fun z => .ok (z, w.2))) := pe_imp h fun σ H Q ⟨g, q⟩ => by
  rw [out_bind] at q
  refine ⟨g, q.mono (fun u qx v1 H1 g1 s1 r1 => ?_) fun _ z => z⟩
  rw [out_bind] at qx
  refine ⟨u.2, g1, qx.mono (fun w qy v2 H2 g2 s2 r2 => ?_) fun _ z => z⟩
  rw [out_bind] at qy
  exact hr w.2 u.1 w.1 v1 v2 H2 σ Q g2 (Flat.iff.mpr (Flat.iff.mp r1)) (Flat.iff.mpr (Flat.iff.mp r2)) (qy.mono (fun z kz v H' g' s' r' => kz v H' g' ((s1.trans s2).trans (.of s')) r') fun H' ⟨a, b⟩ => a.go.sub (hO _))
/-- int(e), e an int -/
theorem e_int1 {e : Expr} {b1 b3 : Bool} {m : Res (Int × List ι)} {es} (h : PE X e (tCB es (tCons (tE b1 F L p xs O m) tNil))) (er : es = fun xs H Q => (∃ i, xs = [V.int i] ∧ Q (.int i) H) ∨ ∃ k, xs = [V.bl k] ∧ Q (.int (if k then 1 else 0)) H) (hO : ∀ xs' : List ι, List.Sublist F.O0 (ow F.K F.mg p xs' :: O)) : PE X e (tE b3 F L p xs O (m.bind fun u => .ok (u.1, u.2))) := ec1 (mc := fun i => .ok i) h (fun xs' x vx H σ Q g rx q => by
  subst er; cases rx; exact .inl ⟨x, rfl, kp_flat (α := Int) g q⟩) hO
theorem e_max2 {e : Expr} {b1 b2 b3 : Bool} {ma : Res (Int × List ι)} {mb : List ι → Res (Int × List ι)} {es} (h : PE X e (tCB es (tCons (tE b1 F L p xs O ma) (tCons (fun σ H Q => ∃ xs', tE b2 F L p xs' O (mb xs') σ H Q) tNil)))) (er : es = fun xs H Q => ∃ i j, xs = [V.int i, V.int j] ∧ Q (.int (if j > i then j else i)) H) (hO : ∀ xs' : List ι, List.Sublist F.O0 (ow F.K F.mg p xs' :: O)) : PE X e (tE b3 F L p xs O (ma.bind fun u => (mb u.2).bind fun w => .ok (if w.1 > u.1 then w.1 else u.1, w.2))) := ec2 (mc := fun i j => .ok (if j > i then j else i)) (t1 := tC .non) (t2 := tC .non) h (fun xs' x y vx vy H σ Q g rx ry q => by
  subst er; cases rx; cases ry; exact ⟨x, y, rfl, kp_flat (α := Int) g q⟩) hO
theorem e_min2 {e : Expr} {b1 b2 b3 : Bool} {ma : Res (Int × List ι)} {mb : List ι → Res (Int × List ι)} {es} (h : PE X e (tCB es (tCons (tE b1 F L p xs O ma) (tCons (fun σ H Q => ∃ xs', tE b2 F L p xs' O (mb xs') σ H Q) tNil)))) (er : es = fun xs H Q => ∃ i j, xs = [V.int i, V.int j] ∧ Q (.int (if j < i then j else i)) H) (hO : ∀ xs' : List ι, List.Sublist F.O0 (ow F.K F.mg p xs' :: O)) : PE X e (tE b3 F L p xs O (ma.bind fun u => (mb u.2).bind fun w => .ok (if w.1 < u.1 then w.1 else u.1, w.2))) := ec2 (mc := fun i j => .ok (if j < i then j else i)) (t1 := tC .non) (t2 := tC .non) h (fun xs' x y vx vy H σ Q g rx ry q => by
  subst er; cases rx; cases ry; exact ⟨x, y, rfl, kp_flat (α := Int) g q⟩) hO
theorem ew_and1 {x : Expr} {pos : Pos} {m : Res (Bool × List ι)} (h : PT X x (tEB F L p xs O m)) : PW X (.BoolOp .And [x] pos) (tEB F L p xs O m) := pw_and1 h
theorem ew_or1 {x : Expr} {pos : Pos} {m : Res (Bool × List ι)} (h : PT X x (tEB F L p xs O m)) : PW X (.BoolOp .Or [x] pos) (tEB F L p xs O m) := pw_or1 h
/-! ifs whose tests change the list -/
section
variable {D' B : Type} {Ret : D' → V → Hp → Prop} {c : Expr} {mc : Res (Bool × List ι)} {body orelse rest : List Stmt} {pos : Pos} {L' : B → List (Option Asr)} {O' : B → List Own}
theorem be_if {m1 m2 : List ι → Res D'} (hc : PT X c (tEB F L p xs O mc)) (hb : ∀ xs', PSs X body (tT F L (ow F.K F.mg p xs' :: O) (m1 xs') Ret)) (hr : ∀ xs', PSs X rest (tT F L (ow F.K F.mg p xs' :: O) (m2 xs') Ret)) : PSs X (.If c body [] pos :: rest) (tT F L (ow F.K F.mg p xs :: O) (mc.bind fun u => if u.1 then m1 u.2 else m2 u.2) Ret) := pss_imp (pss_cons (ps_if hc (pss_ex hb) pss_nil) (pss_ex hr)) fun D σ H ⟨g, q⟩ => by
  rw [out_bind] at q
  refine ⟨g, q.mono (fun u k H1 g1 s1 => ?_) fun _ z => z⟩
  cases hu : u.1 with
  | true => rw [hu] at k; exact ⟨u.2, g1, k⟩
  | false => rw [hu] at k; exact ⟨u.2, g1, k⟩
theorem se_if {m1 m2 : List ι → Res B} (sp : Sp2 L' O') (hc : PT X c (tEB F L p xs O mc)) (hb : ∀ xs', PSs X body (tN F L (ow F.K F.mg p xs' :: O) (m1 xs') L' O')) (hr : ∀ xs', PSs X orelse (tN F L (ow F.K F.mg p xs' :: O) (m2 xs') L' O')) : PS X (.If c body orelse pos) (tN F L (ow F.K F.mg p xs :: O) (mc.bind fun u => if u.1 then m1 u.2 else m2 u.2) L' O') := ps_imp (ps_if hc (pss_ex hb) (pss_ex hr)) fun D σ H ⟨g, q⟩ => by
  rw [out_bind] at q
  refine ⟨g, q.mono (fun u k H1 g1 s1 => ?_) fun _ z => z⟩
  cases hu : u.1 with
  | true => rw [hu] at k; exact ⟨u.2, g1, k⟩
  | false => rw [hu] at k; exact ⟨u.2, g1, k⟩
theorem s_ifS {m1 m2 : Res B} {mc : Res Bool} {O : List Own} (sp : Sp2 L' O') (hc : PT X c (tB' F L O mc)) (hb : PSs X body (tN F L O m1 L' O')) (hr : PSs X orelse (tN F L O m2 L' O')) (hO : List.Sublist F.O0 O) : PS X (.If c body orelse pos) (tN F L O (mc.bind fun c => if c then m1 else m2) L' O') := s_if hc hb hr hO
end
/-! coercions -/
theorem n_sql {e : Expr} {b : Bool} {m : Res (List α)} (h : PE X e (tP b F L O m)) : PE X e (tP b F L O (m.bind fun x => .ok (Sq.l x))) := pe_imp h fun σ H Q ⟨g, q⟩ => by
  rw [out_bind] at q
  exact ⟨g, q.mono (fun a k v H1 g1 s1 r1 => k v H1 g1 s1 r1) fun _ z => z⟩
theorem n_sqt {e : Expr} {b : Bool} {m : Res (Tp α)} (h : PE X e (tP b F L O m)) : PE X e (tP b F L O (m.bind fun x => .ok (Sq.t x.xs))) := pe_imp h fun σ H Q ⟨g, q⟩ => by
  rw [out_bind] at q
  exact ⟨g, q.mono (fun a k v H1 g1 s1 r1 => k v H1 g1 s1 r1) fun _ z => z⟩
theorem n_toD [Data α] {e : Expr} {b : Bool} {m : Res α} (h : PE X e (tP b F L O m)) : PE X e (tP b F L O (m.bind fun x => .ok (toD x))) := pe_imp h fun σ H Q ⟨g, q⟩ => by
  rw [out_bind] at q
  exact ⟨g, q.mono (fun a k v H1 g1 s1 r1 => k v H1 g1 s1 (Data.dp r1)) fun _ z => z⟩
/-- a, b = e -/
theorem s_unp {x y : Str} {e : Expr} {px py pt pos : Pos} {kk : Nat} (i j : Nat) (hij : i ≠ j) [Flat α] [Flat β] (hc : X.calm = true) (hN : X.N.Nodup) (hO : List.Sublist F.O0 O) {b : Bool} {m : Res (α × β)} (he : PE X e (tP b F L O m))
    (hi : X.N[i]? = some x := by rfl) (hj : X.N[j]? = some y := by rfl) (hx : L2.Loc X.env.scope x := by first | exact .inl rfl | exact .inr rfl) (hy : L2.Loc X.env.scope y := by first | exact .inl rfl | exact .inr rfl)
    (hf : X.fn x = true ∨ X.env.scope.names.lookup x = some .local := by first | exact .inl rfl | exact .inr rfl) (hf2 : X.fn y = true ∨ X.env.scope.names.lookup y = some .local := by first | exact .inl rfl | exact .inr rfl) (hK : X.K = F.K := by rfl)
    (h1 : (assignEach [.Name x px, .Name y py] X.env).map (·.2) = assign (.Name x px) X.env :: (assignEach [.Name y py] X.env).map (·.2) := by rfl) (h2 : (assignEach [.Name y py] X.env).map (·.2) = assign (.Name y py) X.env :: (assignEach [] X.env).map (·.2) := by rfl)
    (hn : (assignEach [.Name x px, .Name y py] X.env).length = 2 := by rfl) (hst : (assignEach [.Name x px, .Name y py] X.env).findIdx? (·.1) = none := by rfl)
    (hs : swapsWithSole [.Tuple [.Name x px, .Name y py] kk pt] e pos.line X.env = pure false := by rfl) (hw : swappedStores [.Tuple [.Name x px, .Name y py] kk pt] e X.env = pure none := by rfl) (h3 : (assignEach [.Tuple [.Name x px, .Name y py] kk pt] X.env).map (·.2) = [assign (.Tuple [.Name x px, .Name y py] kk pt) X.env] := by rfl) :
    PS X (.Assign [.Tuple [.Name x px, .Name y py] kk pt] e pos) (tN F L O m (fun ab => (L.set i (vl F.K F.mg ab.1)).set j (vl F.K F.mg ab.2)) (fun _ => O)) := ps_imp (ps_asg he (pg_tup hc (pgs_cons (pg_name hN hi hx hf) (pgs_cons (pg_name hN hj hy hf2) pgs_nil h2) h1) hn hst) hs hw h3) fun D σ H ⟨g, q⟩ =>
  ⟨g, q.mono (fun ab k v H1 g1 s1 r1 => by
    obtain ⟨p, v1, v2, rfl, h2, h3, h4⟩ := r1
    rw [hK]
    exact ⟨p, _, rfl, same_t rgn_sub h2, rfl, v1, _, rfl, v2, _, rfl, rfl, k _ _ ⟨set_ok (p := vl F.K F.mg ab.2) (Flat.iff.mpr (Flat.iff.mp h4)) j (set_ok (p := vl F.K F.mg ab.1) (Flat.iff.mpr (Flat.iff.mp h3)) i g1.slots), g1.go⟩⟩) fun H' ⟨a, _⟩ => a.go.sub hO⟩
/-- x op= e -/
theorem s_aug {x : Str} {e : Expr} {op : Operator} {pos pos' : Pos} {f : Int → Int → Int} (i : Nat) {a : Int} (hN : X.N.Nodup) (hO : List.Sublist F.O0 O) (hL : L[i]? = some (vl F.K F.mg a)) {b : Bool} {m : Res Int} (hop : PIp X op (ipI f)) (he : PE X e (tP b F L O m)) (hi : X.N[i]? = some x := by rfl) (hx : L2.Loc X.env.scope x := by first | exact .inl rfl | exact .inr rfl) (hf : X.fn x = true ∨ X.env.scope.names.lookup x = some .local := by first | exact .inl rfl | exact .inr rfl) :
    PS X (.AugAssign (.Name x pos') op e pos) (tN F L O (m.bind fun c => .ok (f a c)) (fun c => L.set i (vl F.K F.mg c)) (fun _ => O)) := ps_imp (ps_aug (i := i) hN hi hx he hop hf) fun D σ H ⟨g, q⟩ => by
  rw [out_bind] at q
  obtain ⟨w, h1, h2⟩ := g.slot hL
  have h2' : w = V.int a := h2
  exact ⟨w, h1, g, q.mono (fun c k v H1 g1 s1 r1 => ⟨a, c, h2', r1, k _ _ ⟨set_ok (p := vl F.K F.mg (f a c)) rfl i g1.slots, g1.go⟩⟩) fun H' ⟨a, _⟩ => a.go.sub hO⟩
/-- x.insert(i, e) -/
theorem s_ins {x : Str} {ie e : Expr} {pos pos1 pos2 cpos : Pos} (i : Nat) (hL : L[i]? = some (rf p)) {b : Bool} {mi : Res Int} {m : Res ι} (hO : List.Sublist F.O0 (ow F.K F.mg p xs :: O)) (hi : PE X ie (tP b F L (ow F.K F.mg p xs :: O) mi)) (he : PE X e (tP true F L (ow F.K F.mg p xs :: O) m))
    (h : ∀ {to : TE} {t : TA} {r : V → List V → Hp → VK → Prop}, MtR X "list.insert" r → PE X (.Name x pos1) to → PA X [ie, e] t → PE X (.Call (.Attribute (.Name x pos1) "insert" pos2) [ie, e] [] cpos) (tBM X.K "list" r to t)) (hs1 : starEach [ie, e] X.env = (false, eval ie X.env) :: starEach [e] X.env := by rfl) (hs2 : starEach [e] X.env = (false, eval e X.env) :: starEach [] X.env := by rfl)
    (hN : X.N[i]? = some x := by rfl) (hv : Vis X.env.scope x := by first | exact Or.inl rfl | exact Or.inr (Or.inl rfl) | exact Or.inr (Or.inr rfl)) (hd : (x == ("__debug__" : Str)) = false := by decide) (hcd : (x == ("__classdict__" : Str)) = false := by decide)
    (hs : swapsWith (.Call (.Attribute (.Name x pos1) "insert" pos2) [ie, e] [] cpos) none pos.line X.env = pure false := by rfl) :
    PS X (.Expr (.Call (.Attribute (.Name x pos1) "insert" pos2) [ie, e] [] cpos) pos) (tN F L (ow F.K F.mg p xs :: O) (mi.bind fun j => m.bind fun a => need (xs.length < sizeLine ∧ Ps63 j) (.ok (xs.take j.toNat ++ [a] ++ xs.drop j.toNat))) (fun _ => L) (fun ys => ow F.K F.mg p ys :: O)) := ps_imp (ps_expr (h mt_insert (pe_var hN hv hd hcd) (pa_cons hi (pa_cons he pa_nil hs2) hs1)) hs) fun D σ H ⟨g, q⟩ => by
  obtain ⟨w, h4, h5⟩ := g.slot hL
  obtain ⟨vs, h6, h7⟩ := g.head
  rw [out_bind] at q
  refine ⟨w, h4, ?_, g, q.mono (fun j k vj H1 g1 s1 r1 => ?_) fun H' ⟨a, _⟩ => a.go.sub hO⟩
  · rw [show w = V.ref p from h5]
    exact .inl ⟨rfl, _, .of h6⟩
  · rw [out_bind] at k
    refine ⟨g1, k.mono (fun a k v H2 g2 s2 r2 => ?_) fun H' ⟨a, _⟩ => a.go.sub hO⟩
    rw [out_need] at k
    obtain ⟨vs', h8, h9⟩ := g2.head
    have r1' : vj = V.int j := r1
    refine ⟨p, vs', j, v, h5, by rw [r1'], h8, by rw [h9.length]; exact k.1.1, k.1.2.1, k.1.2.2, ?_⟩
    exact k.2 σ _ (g_upd g2 (reps_append (reps_append (reps_take _ h9) (.cons r2 .nil)) (reps_drop _ h9))).1
/-- x.append(e), e changing the list at p, x the list at q -/
theorem s_appE {x : Str} {e : Expr} {pos pos1 pos2 cpos : Pos} {q : Addr} {ys : List α} (i : Nat) (hL : L[i]? = some (rf q)) {m : Res (α × List ι)} (hO : ∀ (xs' : List ι), List.Sublist F.O0 (ow F.K F.mg p xs' :: ow F.K F.mg q ys :: O)) (he : PE X e (tE true F L p xs (ow F.K F.mg q ys :: O) m))
    (h : ∀ {to : TE} {t : TA}, PE X (.Name x pos1) to → PA X [e] t → PE X (.Call (.Attribute (.Name x pos1) "append" pos2) [e] [] cpos) (tBM X.K "list" rAppend to t)) (hs1 : starEach [e] X.env = (false, eval e X.env) :: starEach [] X.env := by rfl)
    (hN : X.N[i]? = some x := by rfl) (hv : Vis X.env.scope x := by first | exact Or.inl rfl | exact Or.inr (Or.inl rfl) | exact Or.inr (Or.inr rfl)) (hd : (x == ("__debug__" : Str)) = false := by decide) (hcd : (x == ("__classdict__" : Str)) = false := by decide)
    (hs : swapsWith (.Call (.Attribute (.Name x pos1) "append" pos2) [e] [] cpos) none pos.line X.env = pure false := by rfl) :
    PS X (.Expr (.Call (.Attribute (.Name x pos1) "append" pos2) [e] [] cpos) pos) (tN F L (ow F.K F.mg p xs :: ow F.K F.mg q ys :: O) (m.bind fun u => need (ys.length < sizeLine) (.ok (ys ++ [u.1], u.2))) (fun _ => L) (fun z => ow F.K F.mg p z.2 :: ow F.K F.mg q z.1 :: O)) := ps_imp (ps_expr (h (pe_var hN hv hd hcd) (pa_cons he pa_nil hs1)) hs) fun D σ H ⟨g, q'⟩ => by
  obtain ⟨w, h4, h5⟩ := g.slot hL
  obtain ⟨o, h6, vs0, h60, h7⟩ := g.go.objs (ow F.K F.mg q ys) (List.mem_cons_of_mem _ List.mem_cons_self)
  subst h60
  rw [out_bind] at q'
  refine ⟨w, h4, ?_, g, q'.mono (fun u k v H1 g1 s1 r1 => ?_) fun _ z => z⟩
  · rw [show w = V.ref q from h5]
    exact .inl ⟨rfl, _, .of h6⟩
  · rw [out_need] at k
    have gp : G F L (ow F.K F.mg q ys :: ow F.K F.mg p u.2 :: O) σ H1 := g1.perm (List.Perm.swap _ _ _)
    obtain ⟨vs', h8, h9⟩ := gp.head
    refine ⟨q, vs', v, h5, rfl, h8, by rw [h9.length]; exact k.1, ?_⟩
    refine k.2 σ _ ((g_upd gp (reps_append h9 (.cons (Rep.mono (fun a o z => ?_) r1) .nil))).1.perm (List.Perm.swap _ _ _))
    have z' : less H1 (addrs (ow F.K F.mg p u.2 :: ow F.K F.mg q ys :: O) ++ F.A) a = some o := z
    show less H1 (addrs (ow F.K F.mg q ys :: ow F.K F.mg p u.2 :: O) ++ F.A) a = some o
    by_cases hb : a ∈ addrs (ow F.K F.mg p u.2 :: ow F.K F.mg q ys :: O) ++ F.A
    · rw [less_in hb] at z'; cases z'
    · rw [less_out hb] at z'
      rw [less_out]
      · exact z'
      · intro y
        apply hb
        rcases List.mem_append.mp y with y | y
        · refine List.mem_append_left _ ?_
          rcases List.mem_cons.mp y with y | y
          · rw [y]; exact List.mem_cons_of_mem _ List.mem_cons_self
          · rcases List.mem_cons.mp y with y | y
            · rw [y]; exact List.mem_cons_self
            · exact List.mem_cons_of_mem _ (List.mem_cons_of_mem _ y)
        · exact List.mem_append_right _ y
/-- xs.index(a), for ints -/
def indexR (xs : List Int) (a : Int) : Res Int := match xs.findIdx? (· == a) with
  | some j => .ok (j : Nat)
  | none => .bad
theorem n_index {o e : Expr} {apos cpos : Pos} {b1 b2 b3 : Bool} {m : Res (List Int)} {m2 : Res Int} (ho : PE X o (tP b1 F L O m)) (he : PE X e (tP b2 F L O m2))
    (h : ∀ {to : TE} {t : TA}, PE X o to → PA X [e] t → PE X (.Call (.Attribute o "index" apos) [e] [] cpos) (tBM X.K "list" (rIndex X.K) to t)) (hK : X.K = F.K := by rfl) (hs1 : starEach [e] X.env = (false, eval e X.env) :: starEach [] X.env := by rfl) :
    PE X (.Call (.Attribute o "index" apos) [e] [] cpos) (tP b3 F L O (m.bind fun xs => m2.bind fun a => indexR xs a)) := pe_imp (h ho (pa_cons he pa_nil hs1)) fun σ H Q ⟨g, q⟩ => by
  rw [out_bind] at q
  refine ⟨g, q.mono (fun xs k v H1 g1 s1 r1 => ?_) fun _ z => z⟩
  obtain ⟨p, vs, rfl, h2, h3⟩ := r1
  have e := reps_flat.mp h3
  subst e
  rw [out_bind] at k
  have h2' := rgn_sub _ _ h2
  refine ⟨.inl ⟨rfl, _, .of h2'⟩, g1, k.mono (fun a k2 v2 H2 g2 s2 r2 => ?_) fun H' ⟨a, b⟩ => ⟨a, s1.trans b⟩⟩
  unfold indexR at k2
  cases e : xs.findIdx? (· == a) with
  | none => rw [e] at k2; exact k2.elim
  | some j =>
    rw [e] at k2
    obtain ⟨hj, h4, h5⟩ := List.findIdx?_eq_some_iff_getElem.mp e
    rw [hK]
    have r2' : v2 = V.int a := r2
    subst r2'
    refine ⟨p, xs.map Flat.enc, V.int a, j, V.int xs[j], rfl, rfl, .of (s2 _ _ h2'), rfl, ?_, ?_, ?_, ?_, ?_⟩
    · rw [List.all_map]
      exact List.all_eq_true.mpr fun x _ => rfl
    · rw [List.getElem?_map, List.getElem?_eq_getElem hj]; rfl
    · have : xs[j] = a := by simpa using h4
      rw [this]
      simp [eqV]
    · intro m' z' hm hz
      rw [List.getElem?_map, List.getElem?_eq_getElem (Nat.lt_trans hm hj)] at hz
      cases hz
      have := h5 m' hm
      show (xs[m'] == a) = false
      simpa using this
    · exact k2 _ H2 g2 (s1.trans s2) rfl
end
/-- a frame with fewer facts -/
inductive FLe : Fr → Fr → Prop where
  | refl (F : Fr) : FLe F F
  | add {F F' : Fr} {z : Fact} : FLe F' F → FLe F' (F.add z)
theorem FLe.go {F F' : Fr} (h : FLe F' F) : ∀ {O : List Own} {H : Hp}, GO F O H → GO F' O H := by
  induction h with
  | refl => exact fun g => g
  | add _ ih => exact fun g => ih g.unadd
theorem FLe.eqs {F F' : Fr} (h : FLe F' F) : F'.K = F.K ∧ F'.mg = F.mg ∧ F'.A = F.A ∧ F'.H0 = F.H0 := by
  induction h with
  | refl => exact ⟨rfl, rfl, rfl, rfl⟩
  | add _ ih => exact ih
theorem FLe.rg {F F' : Fr} (h : FLe F' F) (O : List Own) (H : Hp) : NF.rg F' O H = NF.rg F O H := by
  unfold NF.rg; rw [h.eqs.2.2.1]
section
variable {F F' : Fr} {α ι : Type} [Rep α] [Rep ι]
theorem rV_le (h : FLe F' F) : ∀ (b : α) (v : V) (H : Hp), rV F b v H → rV F' b v H := fun b v H ⟨g, r⟩ => ⟨h.go g, by
  show Rep.rep F'.K F'.mg (NF.rg F' [] H) v b
  rw [h.rg, h.eqs.1, h.eqs.2.1]; exact r⟩
theorem rF_le (h : FLe F' F) : ∀ (b : List α) (v : V) (H : Hp), rF F b v H → rF F' b v H := fun b v H ⟨p, vs, e, g, h1, h2, h3, h4⟩ => ⟨p, vs, e, h.go g, by rw [h.eqs.2.2.2]; exact h1, by rw [h.eqs.2.2.1]; exact h2, h3, by
  rw [h.rg, h.eqs.1, h.eqs.2.1]; exact h4⟩
theorem rI_le {p : Addr} (h : FLe F' F) : ∀ (b : α × List ι) (v : V) (H : Hp), rI F p b v H → rI F' p b v H := fun b v H ⟨g, r⟩ => by
  have e1 := h.eqs.1
  have e2 := h.eqs.2.1
  have g' := h.go g
  have hr := h.rg [ow F.K F.mg p b.2] H
  refine ⟨by rw [e1, e2]; exact g', ?_⟩
  show Rep.rep F'.K F'.mg (NF.rg F' [ow F'.K F'.mg p b.2] H) v b.1
  rw [e1, e2, hr]
  exact r
end
theorem b_le {X : Cx} {F : Fr} {L : List (Option Asr)} {O : List Own} {D' : Type} {Ret Ret' : D' → V → Hp → Prop} {st : List Stmt} {m : Res D'} (i : ∀ b v H, Ret b v H → Ret' b v H) (h : PSs X st (tT F L O m Ret)) : PSs X st (tT F L O m Ret') := pss_imp h fun D σ H ⟨g, q⟩ => ⟨g, q.mono (fun b k v H' r => k v H' (i b v H' r)) fun _ z => z⟩
theorem tT_cast {X : Cx} {F : Fr} {L : List (Option Asr)} {O : List Own} {D' : Type} {Ret : D' → V → Hp → Prop} {st : List Stmt} {m m' : Res D'} (h : PSs X st (tT F L O m Ret)) (e : m = m') : PSs X st (tT F L O m' Ret) := e ▸ h
end NF

set_option Elab.async false
set_option linter.all false
set_option maxRecDepth 100000
/-! Nf12: exceptions: defs that raise, their calls, raise. -/
namespace NF
open PySem PySem.Spec PyProof.Rows L2
open Data (toD)
/-- what is raised here is let out as F wishes -/
def TkX (X : Cx) (F : Fr) (L : List (Option Asr)) (O : List Own) : Prop := ∃ W : WX, L2N.Takes X W ∧ ∀ c d σ H, F.E c d H → G F L O σ H → W c d σ H
theorem TkX.to {X : Cx} {F : Fr} {L L' : List (Option Asr)} {O O' : List Own} (t : TkX X F L' O') (h : wk L L') (ho : List.Sublist O' O) : TkX X F L O := by
  obtain ⟨W, tk, q⟩ := t
  exact ⟨W, tk, fun c d σ H e g => q c d σ H e (g.to h ho)⟩
theorem takes0N {X : Cx} : L2N.Takes X (fun _ _ _ _ => False) := fun _ _ x => by
  obtain ⟨_, _, _, _, _, _, _, _, _, _, _, _, _, _, _, _, z⟩ := x
  exact z.elim
section
variable {P : Program} {w : World} {K : PySem.W.Frag} {mg : Str → Option Value} {base : Heap} {τ ρ α : Type} [RepA τ] [Rep ρ] [Rep α]
variable {x qual : Str} {st : Stmt} {f : Addr} {fd : FuncData} {N ps : List Str} {k : Nat}
theorem def_XN {mir : τ → Res ρ} (Fu : Fun K x qual st f fd) (S : FnScope N ps (defScope st)) (L0 : τ → List (Option Asr)) (hl : ∀ (vs : List V) (R : Hp) (a : τ), RepA.rep K mg R vs a → vs.length = ps.length ∧ Paired (SlotOk R) (L0 a) (start N vs))
    (body : ∀ (cdv : Value) (A : Around) (outer : List Env) (s : Shared) (H : Hp) (Av : List Addr) (E : XK) (a : τ), Room k (A.deeper (envOfC qual (defScope st) s.heap.objs.size f cdv)) →
      (∀ L O, TkX (cxOf (L2N.CX P w) P w K mg base N qual (defScope st) f cdv A outer s H E) (F0 K mg H Av E) L O) →
      PSs (cxOf (L2N.CX P w) P w K mg base N qual (defScope st) f cdv A outer s H E) (defBody st) (tT (F0 K mg H Av E) (L0 a) [] (mir a) (rV (F0 K mg H Av E)))) :
    FnOk P w K mg base (L2N.CX P w) (k + 1) f fd ps (spX K mg mir) := by
  obtain ⟨oc, od, kV, doc, pm, an, cdv, ct, osl, rfl, lk, hcd⟩ := Fu.ex
  refine fn_of lk hcd S (fun vs H Q E ⟨a, A, _, h, _⟩ => (hl vs _ a h).1) fun A outer s H vs Q E hr ⟨a, Av, hA, h, q⟩ =>
    ⟨_, body cdv A outer s H Av E a hr fun L O => ⟨_, L2N.takes_of rfl rfl rfl rfl, fun c d σ H e _ => e⟩, ⟨(hl vs _ a h).2, go_start hA⟩, ?_⟩
  exact q.mono (fun r k v H' ⟨g, r'⟩ => k v H' (go_same g) r') fun H' g => go_same g
end
section
variable {X : Cx} {F : Fr} {L : List (Option Asr)} {O : List Own} {τ ρ α : Type} [RepA τ] [Rep ρ] [Rep α]
variable {k : Nat} {ps : List Str} {x : Str} {p1 pos : Pos} {e : Expr} {es : List Expr} {b : Bool}
theorem n_callX {mir : τ → Res ρ} {m : Res τ} (D : DefAt X.prog X.w X.K X.mg X.base (L2N.CX X.prog X.w) k x ps (spX X.K X.mg mir)) (hr : Room k X.A) (tk : TkX X F L O) (ha : PA X (e :: es) (tA b F L O m)) (hg : Gl X x := by rfl) (hK : X.K = F.K := by rfl) (hM : X.mg = F.mg := by rfl) (hd : (x == ("__debug__" : Str)) = false := by decide)
    (hs : starEach (e :: es) X.env = (false, eval e X.env) :: starEach es X.env := by rfl) (hs2 : ((backTo pos (starEach es X.env)).any fun x => x.fst) = false := by rfl) : PE X (.Call (.Name x p1) (e :: es) [] pos) (tP b F L O (m.bind mir)) := by
  obtain ⟨f, fd, h1, h2, h3, h4⟩ := D.ex
  obtain ⟨W, tk, hW⟩ := tk
  refine pe_imp (pe_callS (E := WE W) h1 hr hg h2 h3 h4 (fun σ => L2N.passAt tk σ) ha hd hs hs2) fun σ H Q ⟨g, q⟩ => ?_
  rw [out_bind] at q
  refine ⟨g, q.mono (fun a qa vs H1 g1 s1 r1 => ?_) fun _ z => z⟩
  refine ⟨a, avoid b F O, g1.go.avoided, by rw [hK, hM, ← rgn_avoid]; exact r1, ?_⟩
  rw [hK, hM]
  cases e : mir a with
  | ok r =>
    rw [e] at qa
    exact fun v H' s2 r2 => qa v H' (g1.grow s2) (s1.trans s2) (by rw [rgn_avoid]; exact r2)
  | err c fs =>
    rw [e] at qa
    exact fun C d H' h1 h2 h4 => hW _ _ _ _ (qa C d H' h1 (h2.older g1.go.live) ⟨g1.grow h4, s1.trans h4⟩) (g1.grow h4)
  | bad =>
    rw [e] at qa
    exact qa.elim
end
/-! ### raise -/
/-- the promise of an exception's __init__(self, y): self.f = y -/
def spO (C : Addr) (f : Str) : Sp := fun vs H Q _ => ∃ (a : Addr) (y : V), vs = [.ref a, y] ∧ H a = some (exo a C none) ∧ ∀ dx, H dx = none → dx ≠ a → Q .non (upd (upd H dx (exd dx [(f, y)])) a (exo a C (some dx)))
section
variable {P : Program} {w : World} {K : PySem.W.Frag} {mg : Str → Option Value} {base : Heap}
variable {qual y f sf : Str} {st : Stmt} {fI C : Addr} {fd : FuncData} {k : Nat} {p1 p2 p3 p4 : Pos}
theorem def_O (Fu : Fun K "__init__" qual st fI fd) (S : FnScope [sf, y] [sf, y] (defScope st)) (hb : defBody st = [.Assign [.Attribute (.Name sf p1) f p2] (.Name y p3) p4]) (T : OexC K C) (hno : PySem.W.findIn K (.ref C) f = some none)
    (hv1 : Vis (defScope st) sf) (hv2 : Vis (defScope st) y) (hd1 : (sf == ("__debug__" : Str)) = false) (hd2 : (y == ("__debug__" : Str)) = false) (hc1 : (sf == ("__classdict__" : Str)) = false) (hc2 : (y == ("__classdict__" : Str)) = false) :
    FnOk P w K mg base CX0 (k + 1) fI fd [sf, y] (spO C f) := by
  refine Fu.ok S (fun vs H Q E ⟨a, z, e, _⟩ => by rw [e]; rfl) fun cdv A outer s H vs Q E hr ⟨a, z, e, ha, q⟩ => ?_
  rw [hb]
  refine ⟨_, pss_one (ps_ost (pe_var (i := 0) rfl hv1 hd1 hc1) (pe_var (i := 1) rfl hv2 hd2 hc2)), ?_⟩
  subst e
  exact ⟨z, rfl, V.ref a, rfl, a, C, rfl, T, hno, .inl ⟨ha, q⟩⟩
end
end NF

set_option Elab.async false
set_option linter.all false
set_option maxRecDepth 100000
set_option maxHeartbeats 1000000
/-! Nf13: raise C(y). -/
namespace NF
open PySem PySem.Spec PyProof.Rows L2
open Data (toD)
/-- what the module says of an own error with one field -/
structure ErrAt (P : Program) (w : World) (K : Fg) (mg : MG) (base : Heap) (k : Nat) (x f : Str) : Prop where
  ex : ∃ (C fI : Addr) (fd : FuncData) (ps : List Str), mg x = some (.ref C) ∧ OexC K C ∧ PySem.W.findIn K (.ref C) "__init__" = some (some (.ref fI)) ∧ PySem.W.typeIn K (.ref fI) = some (.type "function") ∧ FnOk P w K mg base CX0 k fI fd ps (spO C f) ∧ Binds K fd ps []
section
variable {X : Cx} {e : Expr} {es : List Expr} {ta : TA} {p pos : Pos}
theorem pmkN_own {x : Str} {C fI : Addr} {k : Nat} {fd : FuncData} {ps : List Str} {sp : Sp} (T : OexC X.K C) (iC : PySem.W.findIn X.K (.ref C) "__init__" = some (some (.ref fI))) (tI : PySem.W.typeIn X.K (.ref fI) = some (.type "function"))
    (F1 : FnOk X.prog X.w X.K X.mg X.base CX0 k fI fd ps sp) (hr : Room (k + 1) X.A) (hb : Binds X.K fd ps []) (hg : Gl X x) (hm : X.mg x = some (.ref C)) (ha : PA X (e :: es) ta)
    (hdb : (x == ("__debug__" : Str)) = false := by decide) (he : starEach (e :: es) X.env = (false, eval e X.env) :: starEach es X.env := by rfl) (hpl : (backTo pos (starEach es X.env)).any (·.1) = false := by rfl) :
    L2N.PMk X (.Call (.Name x p) (e :: es) [] pos) (tMkO C sp [] ta) := by
  intro pins s σ H Q I h
  obtain ⟨_, _, _, _, bm, _, _, _, _, _, _, _, _, _, _, hC, hbm⟩ := T.cls
  refine wpAny_Call_Name_kw (ld_glob I hg hm ?_ hdb)
  refine PySem.W.callWith_K (h₀ := X.base) I.ok.mod.kin T.kC (thn (ha.run pos pins s σ H _ I h) fun us s1 ⟨vs, H1, I1, r1, hz, q1⟩ => ⟨I1.kIn, ?_⟩) he hpl
  show wpAny _ _ (call (.ref C) us) _ _ _
  obtain ⟨hp, g, dr, tk, os⟩ := s1
  generalize ea : hp.objs.size + 1 = a at *
  have hsz : hp.objs.size ≤ a := by omega
  have hq := q1 a (I1.hok.fresh hsz)
  rw [List.append_nil] at hq
  have kk : ∀ b o, hp.get? b = some o → ((hp.push (PySem.W.kdv_tup us)).push (PySem.HandSPX.excO C hp.objs.size)).get? b = some o := fun b o e => Heap.get?_push_of_some _ (Heap.get?_push_of_some _ e)
  have hget : ((hp.push (PySem.W.kdv_tup us)).push (PySem.HandSPX.excO C hp.objs.size)).get? a = some (PySem.HandSPX.excO C hp.objs.size) := by
    subst ea
    heap_get
  have I2 := I1.laid (t' := tk) (a := a) (o := exo a C none) (h' := (hp.push (PySem.W.kdv_tup us)).push (PySem.HandSPX.excO C hp.objs.size)) kk hsz (exo_ok hget)
  have r2 : Vals (V.ref a :: vs) (Value.ref a :: us) := .cons rfl r1
  have b2 := hb _ (Value.ref a :: us) I2.kIn (by rw [List.append_nil, ← F1.len _ _ _ _ hq]; exact r2.length.symm)
  rw [List.append_nil] at b2
  subst ea
  refine wpAny_call (PySem.HandSPX.call_own F.excBase_ValueError (fun Y => PySem.HandSPX.refsVE_contains Y bm hbm) (I1.kIn _ _ hC) (PySem.W.looks_findIn I1.kIn iC) (fun self => PySem.W.bind_fn I1.kIn self tI) (by rw [← Paired.length r1, sizeLine_eq]; omega)
    (codeAny_mono (F1.run _ X.stack _ _ ⟨_, []⟩ _ _ _ E0 (hr.make C us []) (I2.env0.make C us []) b2 r2 hq) fun r s' hq' => ?_))
  cases r with
  | error er => exact pass0 pins σ _ _ er s' I2 hq'
  | ok fl =>
    cases fl with
    | ret u =>
      obtain ⟨v, H2, os2, bare2, un2, hok2, rv, ev, d, fs, e1, e2, hd1, q2⟩ := hq'
      subst ev
      obtain ⟨h2, g2, d2, t2, os'⟩ := s'
      obtain ⟨t0, G, J, kG, ge, hoe, na⟩ := mk_end0 (d2 := d2) (t2 := t2) I1 hsz kk un2 hok2 os2 bare2 e1 e2 hd1
      exact ⟨rv, ⟨_, _, _, ⟨G, g2, d2, t2, os'⟩, _, .ref C, some d, rfl, J, kG, ge, hoe, ⟨rfl, rfl, fun vs hv => by cases hv; rfl⟩, rfl, rfl, na, rfl, bare2, raises_own T.exC T.tyC, q2⟩⟩
    | next => exact hq'.elim
    | brk => exact hq'.elim
    | cont => exact hq'.elim
variable {F : Fr} {L : List (Option Asr)} {O : List Own} {α D' : Type} [Rep α] [Data α] {Ret : D' → V → Hp → Prop} {k : Nat} {x f : Str} {pos2 : Pos}
/-- raise x(e) -/
theorem s_raise {m : Res α} (D : ErrAt X.prog X.w X.K X.mg X.base k x f) (hr : Room (k + 1) X.A) (hc : X.calm = true) (tk : TkX X F L O) (hO : List.Sublist F.O0 O) (he : PE X e (tP true F L O m)) (hg : Gl X x := by rfl) (hK : X.K = F.K := by rfl) (hM : X.mg = F.mg := by rfl) (hdb : (x == ("__debug__" : Str)) = false := by decide)
    (hs : starEach [e] X.env = (false, eval e X.env) :: starEach [] X.env := by rfl) (hpl : (backTo pos (starEach [] X.env)).any (·.1) = false := by rfl) :
    PS X (.Raise (some (.Call (.Name x p) [e] [] pos)) none pos2) (tT F L O (m.bind fun a => .err x [(f, toD a)]) Ret) := by
  obtain ⟨C, fI, fd, ps, hm, T, iC, tI, F1, hb⟩ := D.ex
  obtain ⟨W, tk, hW⟩ := tk
  refine ps_imp (L2N.ps_raise hc tk (pmkN_own T iC tI F1 hr hb hg hm (a_cons he a_nil hs) hdb hs hpl)) fun D σ H ⟨g, q⟩ => ?_
  rw [out_bind] at q
  refine ⟨g, ?_⟩
  rw [out_bind]
  refine q.mono (fun a k => ?_) fun H' ⟨a, _⟩ => a.go.sub hO
  show ∀ vs H', _
  intro vs H1 g1 s1 r1
  obtain ⟨v, ws, e1, r2, e2⟩ := r1
  cases e2
  subst e1
  refine ⟨by show 1 ≤ 1000; decide, fun a ha => ⟨a, v, rfl, upd_same, fun dx hdx hne => ⟨rfl, dx, [(f, v)], upd_same, ?_, ?_, ?_⟩⟩⟩
  · rw [upd_ne hne, upd_same]
  · rwa [upd_ne hne] at hdx
  · rw [upd_ne hne] at hdx
    have sm : Same H1 (upd (del (upd (upd (upd H1 a (exo a C none)) dx (exd dx [(f, v)])) a (exo a C (some dx))) a) dx (.xd [(f, v)])) := fun b o hbo => by
      have n1 : b ≠ a := fun z => by rw [z, ha] at hbo; cases hbo
      have n2 : b ≠ dx := fun z => by rw [z, hdx] at hbo; cases hbo
      rw [upd_ne n2, del_ne n1, upd_ne n1, upd_ne n2, upd_ne n1]
      exact hbo
    have g2 := g1.grow sm
    refine hW _ _ _ _ (k (C := C) (d := some dx) (H' := _) (hM ▸ hm) ⟨Decidable.byContradiction fun z => g1.go.live _ z hdx, _, upd_same, .cons ⟨rfl, ?_⟩ .nil⟩ (g2.go.sub hO)) g2
    exact Data.dp (Rep.mono sm (Rep.mono rgn_sub r2))
end
end NF

set_option Elab.async false
set_option linter.all false
set_option maxRecDepth 100000
set_option maxHeartbeats 1000000
/-! Nf14: try .. except C as e. -/
namespace NF
open PySem PySem.Spec PyProof.Rows L2
open Data (toD)
/-! flat fields -/
def encD : PyData → V
  | .int i => .int i
  | .bool b => .bl b
  | .str s => .str s
  | _ => .non
def flatD : PyData → Bool
  | .int _ => true
  | .bool _ => true
  | .str _ => true
  | .none => true
  | _ => false
theorem dp_flat {K : Fg} {H : Hp} {v : V} {d : PyData} (h : Dp K H v d) (f : flatD d = true) : v = encD d := by
  cases h with
  | non => rfl
  | bl b => rfl
  | int i => rfl
  | str x => rfl
  | lst _ _ => cases f
  | tup _ _ => cases f
theorem flat_dp {K : Fg} {H : Hp} : ∀ {d : PyData}, flatD d = true → Dp K H (encD d) d
  | .int i, _ => .int i
  | .bool b, _ => .bl b
  | .str s, _ => .str s
  | .none, _ => .non
def encF (fs : List (Str × PyData)) : List (Str × V) := fs.map fun p => (p.1, encD p.2)
theorem xd_flat {K : Fg} {H : Hp} : ∀ {vs : List (Str × V)} {fs : List (Str × PyData)}, XdOk K H vs fs → (fs.all fun p => flatD p.2) = true → vs = encF fs
  | [], [], _, _ => rfl
  | (a, v) :: vs, (b, d) :: fs, .cons h t, e => by
    obtain ⟨e1, e2⟩ := Bool.and_eq_true_iff.mp (show (flatD d && fs.all fun p => flatD p.2) = true from e)
    obtain ⟨h1, h2⟩ := h
    have h1' : a = b := h1
    subst h1'
    show (a, v) :: vs = (a, encD d) :: encF fs
    rw [show v = encD d from dp_flat h2 e1, xd_flat t e2]
def xdF (d : Option Addr) (fs : List (Str × PyData)) : Fact := ⟨fun H => match d with
  | none => fs = []
  | some d => H d = some (.xd (encF fs)), fun e h => by
  cases d with
  | none => exact h
  | some d => exact e _ _ h⟩
/-- the body, and what is done with an error of class x -/
def tryR {α : Type} (x : Str) (m : Res α) (h : List (Str × PyData) → Res α) : Res α := match m with
  | .ok a => .ok a
  | .err c fs => if c = x then need ((fs.all fun p => flatD p.2) = true) (h fs) else .bad
  | .bad => .bad
abbrev Ft (F : Fr) (E : XK) (O : List Own) : Fr := ⟨F.K, F.mg, F.H0, F.W, F.A, O, E, F.Z⟩
theorem go_ft {F : Fr} {E : XK} {O O' : List Own} {H : Hp} (g : GO F O' H) : GO (Ft F E O) O' H := ⟨g.objs, g.nd, g.own, g.keep, g.live, g.hid, g.apart, g.facts⟩
theorem go_tf {F : Fr} {E : XK} {O O' : List Own} {H : Hp} (g : GO (Ft F E O) O' H) : GO F O' H := ⟨g.objs, g.nd, g.own, g.keep, g.live, g.hid, g.apart, g.facts⟩
theorem g_ft {F : Fr} {E : XK} {L : List (Option Asr)} {O O' : List Own} {σ : L2.St} {H : Hp} (g : G F L O' σ H) : G (Ft F E O) L O' σ H := ⟨g.slots, go_ft g.go⟩
theorem g_tf {F : Fr} {E : XK} {L : List (Option Asr)} {O O' : List Own} {σ : L2.St} {H : Hp} (g : G (Ft F E O) L O' σ H) : G F L O' σ H := ⟨g.slots, go_tf g.go⟩
theorem paired_set {α β : Type} {R : α → β → Prop} {x : α} {y : β} (h : R x y) : ∀ {l : List α} {σ : List β} (i : Nat), Paired R l σ → Paired R (l.set i x) (σ.set i y)
  | _, _, _, .nil => .nil
  | _, _, 0, .cons _ t => .cons h t
  | _, _, n + 1, .cons q t => .cons q (paired_set h n t)
theorem pss_fact {X : Cx} {st : List Stmt} {p : Prop} {t : TS} (h : p → PSs X st t) : PSs X st (fun D σ H => p ∧ t D σ H) := ⟨fun pins s σ H D I ⟨b, q⟩ => (h b).run pins s σ H D I q⟩
/-- only lists are owned -/
def NoXd (O : List Own) : Prop := ∀ w ∈ O, ∀ H vs, ¬ w.P H (.xd vs)
theorem noxd_nil : NoXd [] := fun _ h => (List.not_mem_nil h).elim
theorem noxd_cons {α : Type} [Rep α] {K : Fg} {mg : MG} {p : Addr} {xs : List α} {O : List Own} (h : NoXd O) : NoXd (ow K mg p xs :: O) := fun w hw H vs z => by
  rcases List.mem_cons.mp hw with rfl | hw
  · obtain ⟨_, e, _⟩ := z
    cases e
  · exact h w hw H vs z
section
variable {X : Cx} {F : Fr} {L Lh : List (Option Asr)} {O : List Own} {B D' : Type} {Ret : D' → V → Hp → Prop} {L' : B → List (Option Asr)} {O' : B → List Own}
variable {x n : Str} {C : Addr} {body suite : List Stmt} {b₀ : Stmt} {np pos pos' : Pos}
theorem s_try {W0 : WX} {mb : Res (Sum B D')} {mh : List (Str × PyData) → Res (Sum B D')} (i : Nat) (hm : X.mg x = some (.ref C)) (hex : PySem.W.exmOne X.K (.ref C) (.ref C) = some true) (tk : L2N.Takes X W0) (hN : X.N.Nodup) (hno : NoXd O) (hO : List.Sublist F.O0 O)
    (hLi : ∀ b, (L' b).set i none = L' b)
    (hb : ∀ (E' : XK) (pn : List (Addr × Obj)) (xe : Value → Shared → Prop), TkX (X.tr pn xe) (Ft F E' O) Lh O → PSs (X.tr pn xe) body (tM (Ft F E' O) L O mb L' O' Ret))
    (hh : ∀ (a : Addr) (oe : Obj) (d : Option Addr) (pn : List (Addr × Obj)) (fs : List (Str × PyData)), L2N.Zn (.ref C) d oe → (∃ vs, oe.data = .fields vs) → PSs (X.suite a ((a, oe) :: pn)) (b₀ :: suite) (tM (F.add (xdF d fs)) (Lh.set i (rf a)) O (mh fs) L' O' Ret))
    (hi : X.N[i]? = some n := by rfl) (hln : X.env.kindOf n = some .local := by rfl) (hg : Gl X x := by rfl) (hdb : (x == ("__debug__" : Str)) = false := by decide) (hs : X.stack = X.env :: X.outer := by rfl) (hf : X.env.frame = some X.env.locals := by rfl) (hK : X.K = F.K := by rfl) (hM : X.mg = F.mg := by rfl) :
    PS X (.Try body [.ExceptHandler (some (.Name x np)) (some n) (b₀ :: suite) pos'] [] [] pos) (tM F L O (tryR x mb mh) L' O' Ret) := by
  have hc : Names X x (.ref C) := ⟨hg, hdb, .inl hm⟩
  refine ps_imp (L2N.ps_try_as (tb := fun W D σ H => tM (Ft F (fun cls d H' => ∀ σ', G F Lh O σ' H' → W cls d σ' H') O) L O mb L' O' Ret D σ H)
    (ts := fun a cls d D σ H => cls = .ref C ∧ ∃ fs, tM (F.add (xdF d fs)) (Lh.set i (rf a)) O (mh fs) L' O' Ret D σ H) (i := i) hs hf hN hi hln hc tk
    (fun W pn xe tkW _ => hb _ pn xe ⟨W, tkW, fun c d σ H e g => e σ (g_tf g)⟩)
    (fun a oe cls d pn hz hd => pss_fact fun e => pss_ex fun fs => by
      subst e
      exact hh a oe d pn fs hz hd)) fun D σ H ⟨g, q⟩ => ?_
  refine ⟨g_ft g, ?_⟩
  cases em : mb with
  | ok r =>
    rw [em] at q
    cases r with
    | inl b => exact fun σ' H' g' => q σ' H' (g_tf g')
    | inr d => exact q
  | bad =>
    rw [em] at q
    exact q
  | err c fs =>
    rw [em] at q
    unfold tryR at q
    by_cases hcx : c = x
    · subst hcx
      simp only [if_true] at q
      rw [out_need] at q
      obtain ⟨hfl, q⟩ := q
      intro C' d H' h1 h2 h4 σ' gh
      have eC : C' = C := by
        have z : F.mg c = some (.ref C') := h1
        rw [← hM, hm] at z
        cases z
        rfl
      subst eC
      refine ⟨true, hex, fun _ a na => ⟨rfl, fs, ⟨paired_set (x := rf a) (y := some (V.ref a)) rfl i gh.slots, gh.go.add _ ?_⟩, ?_⟩, fun z => by cases z⟩
      · cases d with
        | none => exact h2
        | some d =>
          obtain ⟨h5, vs, h6, h7⟩ := h2
          have e := xd_flat h7 hfl
          subst e
          show less H' (addrs O ++ F.A) d = _
          rw [less_out]
          · exact h6
          · intro z
            rcases List.mem_append.mp z with z | z
            · obtain ⟨w, hw, e⟩ := List.mem_map.mp z
              obtain ⟨o, h8, h9⟩ := gh.go.objs w hw
              rw [e, h6] at h8
              cases h8
              exact hno w hw _ _ h9
            · exact gh.go.hid d z h5
      · rw [out_add]
        refine q.mono (fun r k => ?_) fun H'' (x : GO (F.add _) F.O0 H'') => x.unadd
        cases r with
        | inl b => exact fun σ2 H2 g2 => k _ _ ⟨by have z := paired_set (x := (none : Option Asr)) (y := (none : Option V)) (R := SlotOk (rg F (O' b) H2)) trivial i g2.slots; rwa [hLi] at z, g2.go.unadd⟩
        | inr d => exact k
    · simp only [if_neg hcx] at q
      exact q.elim
end
/-! ### in the suite -/
section
variable {X : Cx} {F : Fr} {L : List (Option Asr)} {O : List Own} {b3 : Bool} {a C : Addr} {oe : Obj} {d : Option Addr} {pn : List (Addr × Obj)} {fs : List (Str × PyData)} {n f : Str} {p1 p2 pos : Pos}
def xfR (fs : List (Str × PyData)) (f : Str) : Res PyData := match fs.lookup f with
  | some x => need (flatD x = true) (.ok x)
  | none => .bad
theorem lookup_enc : ∀ {fs : List (Str × PyData)} {f : Str} {x : PyData}, fs.lookup f = some x → (encF fs).lookup f = some (encD x)
  | [], _, _, h => by cases h
  | (g, y) :: fs, f, x, h => by
    show ((g, encD y) :: encF fs).lookup f = _
    rw [lookup_put]
    by_cases e : f = g
    · subst e
      simp [List.lookup] at h
      subst h
      rw [if_pos rfl]
    · rw [if_neg e]
      have e2 : (f == g) = false := by simpa using e
      simp only [List.lookup, e2] at h
      exact lookup_enc h
/-- e.f -/
theorem n_xf (i : Nat) (T : XfC X.K C) (hno : PySem.W.findIn X.K (.ref C) f = some none) (hz : L2N.Zn (.ref C) d oe) (hd : ∃ vs, oe.data = .fields vs) (hL : L[i]? = some (rf a)) (hK : X.K = F.K := by rfl)
    (hN : X.N[i]? = some n := by rfl) (hv : Vis X.env.scope n := by first | exact Or.inl rfl | exact Or.inr (Or.inl rfl) | exact Or.inr (Or.inr rfl)) (hd1 : (n == ("__debug__" : Str)) = false := by decide) (hcd : (n == ("__classdict__" : Str)) = false := by decide)
    (hb : attributeBase (.Name n p1) f (X.suite a ((a, oe) :: pn)).env (eval (.Name n p1) (X.suite a ((a, oe) :: pn)).env) = eval (.Name n p1) (X.suite a ((a, oe) :: pn)).env := by rfl) :
    PE (X.suite a ((a, oe) :: pn)) (.Attribute (.Name n p1) f pos) (tP b3 (F.add (xdF d fs)) L O (xfR fs f)) := pe_imp (pe_xf T hno hz.zc hd (pe_var (X := X.suite a ((a, oe) :: pn)) (i := i) hN hv hd1 hcd) hb) fun σ H Q ⟨g, q⟩ => by
  obtain ⟨v, h1, h2⟩ := g.slot hL
  refine ⟨v, h1, h2, rfl, ?_⟩
  unfold xfR at q
  cases e : fs.lookup f with
  | none => rw [e] at q; exact q.elim
  | some x =>
    rw [e] at q
    dsimp only at q
    rw [out_need] at q
    have fact := g.go.fact
    cases d with
    | none =>
      have z : fs = [] := fact
      subst z
      cases e
    | some dd =>
      exact ⟨dd, encF fs, encD x, rfl, less_same _ _ fact, lookup_enc e, q.2 _ H g (Same.refl _) (flat_dp q.1)⟩
end
end NF

set_option Elab.async false
set_option linter.all false
set_option maxRecDepth 100000
set_option maxHeartbeats 1000000
/-! Nf15: isinstance of the caught error (with its dict), defs called in the suite. -/
namespace PySem.W
open PySem PySem.Spec PySem.Calls PyProof.Rows
section
variable {prog : Program} {w : World} {A : Around} {E : Value → Shared → Prop} {s : Shared} {K : Frag} {x D : Addr} {ox : Obj} {od : Option Obj}
theorem nf_find {a g : Value} (hc : (clsIn K D).isSome = true) (ha : findIn K (.ref D) "__class__" = some (some a)) (hg : specialIn K a "__get__" = some (some g)) (ht : takesIn K a = some true) : findObj K D od "__class__" = some (.bind g a) := by
  cases od with
  | none => exact findObj_dataN hc ha hg ht
  | some o => exact findObj_data hc ha hg ht
theorem nf_kitx (C : L2.ExcC K D) : KitX K (.ref x) (.ref D) (fun h => InstAt h x ox D od) where
  ty := fun _ _ _ I => I.type
  it := fun M h X _ => by
    obtain ⟨cd, hc, _⟩ := any_some C.hd
    unfold clsIn at hc
    split at hc
    · rename_i ho
      exact fun A Q E s k q => by
        unfold isType loadHead
        exact wpAny_bind (wpAny_loadPart (k _ _ (X _ _ ho)) (wpAny_pure q))
    · cases hc
  ne := (handS_kitx_exc (x := x) (ox := ox) C.hg C.hk C.hs C.hd C.ha C.hn C.ht C.hm).ne
  ca := fun {prog w A E Q s} X I h => by
    have hf : findObj K D od "__class__" = _ := nf_find (by obtain ⟨cd, hc, _⟩ := any_some C.hd; rw [hc]; rfl) C.ha C.hn C.ht
    obtain ⟨hp, g, d, t, os⟩ := s
    have L0 := I.type (M := model prog w)
    have hx2 : (Value.builtin "BaseException.__getattribute__" == Value.builtin "object.__getattribute__") = false := by decide +kernel
    unfold getAttr? getAttrBy? getAttrBy
    refine wpAny_bind (wpAny_mkText (wpAny_bind (wpAny_attempt (wpAny_holding (wpAny_bind (L0.at (wpAny_bind ((looks_findIn (M := model prog w) X C.hg).at ?_))))))))
    show wpAny _ _ (if (onTheHeap (Value.ref D) && Value.builtin "BaseException.__getattribute__" == Value.builtin "object.__getattribute__") = true then _ else _) _ _ _
    rw [show (onTheHeap (Value.ref D) && Value.builtin "BaseException.__getattribute__" == Value.builtin "object.__getattribute__") = false by rw [hx2]; rfl, if_neg Bool.false_ne_true]
    unfold getAttrByItsOwn hookBefore
    refine wpAny_bind ?_
    rw [if_pos (show onTheHeap (Value.ref D) = true from rfl)]
    refine (looks_findIn (M := model prog w) X C.hk).at (wpAny_bind (wpAny_attempt (wpAny_holding ?_)))
    unfold callGetattribute
    rw [show (false && onTheHeap (Value.builtin "BaseException.__getattribute__")) = false from rfl, if_neg Bool.false_ne_true]
    unfold boundAndCalled
    rw [PySem.F.excAttr_ValueError.ga.bind (.ref x)]
    refine wpAny_bind (wpAny_pure ?_)
    show wpAny _ _ (call (.builtin "BaseException.__getattribute__") [.ref x, .str "__class__" t]) _ _ _
    refine wpAny_call (codeAny_call_builtin PySem.F.excAttr_ValueError.ga.plain PySem.F.entry_bexc_ga ?_)
    refine @check_slot (model prog w) _ _ ⟨hp, g, d, t + 1, os⟩ "BaseException.__getattribute__" "BaseException" "__getattribute__" (.ref x) [.str "__class__" t] [] _ (by decide +kernel) (by decide +kernel) (L0.andThen (looks_subIn X C.hs)) (PySem.F.args_bexc_ga (.ref x) (.str "__class__" t)) ?_
    unfold Builtin.«object.__getattribute__»
    refine wpAny_bind (wpAny_of_eq (a := ((Value.ref x : Value), [Value.str "__class__" t])) (by first | rfl | (simp only [slotArgs]; rfl)) ?_)
    refine wpAny_bind (wpAny_pure (wpAny_bind (L0.at (wpAny_bind ((looks_find (M := model prog w) X I hf).at ?_)))))
    show wpAny _ _ (holding [Value.builtin "object.__class__"] (call (.builtin "getset_descriptor.__get__") [.builtin "object.__class__", .ref x, .ref D]) >>= ret) _ _ _
    refine wpAny_bind (wpAny_holding (wpAny_call (class_get (s := ⟨hp, g, d, t + 1, os⟩) (ox := ox) (od := od) X I C.hm ?_)))
    refine wpAny_pure ?_
    show wpAny _ _ (handedOut (.ref D)) _ _ _
    rw [handedOut_of (v := .ref D) rfl]
    first
      | exact wpAny_pure (wpAny_pure h)
      | exact wpAny_pure h
      | exact wpAny_pure (wpAny_bind (wpAny_pure (wpAny_pure h)))
end
end PySem.W
namespace NF
open PySem PySem.Spec PyProof.Rows L2
open Data (toD)
/-- isinstance(e, c) -/
def rIsD (K : Fg) (D a : Addr) (d : Option Addr) : List V → Hp → VK → Prop := fun xs H Q => ∃ (c : V) (cv : Value) (b : Bool), xs = [.ref a, c] ∧ (∀ u, RelV c u → u = cv) ∧ PySem.W.kitOne K (.ref D) cv = some b ∧ (∀ dd, d = some dd → ∃ fs, H dd = some (.xd fs)) ∧ Q (.bl b) H
theorem call_isD {X : Cx} {a D : Addr} {oe : Obj} {d : Option Addr} {pn : List (Addr × Obj)} (C : ExcC X.K D) (hz : L2N.Zn (.ref D) d oe) (hf : ∃ vs, oe.data = .fields vs) : CallR (X.suite a ((a, oe) :: pn)) (.builtin "isinstance") (rIsD X.K D a d) := by
  intro pins s σ H xs us Q I r h
  obtain ⟨c, cv, b, rfl, hcv, e, hd, q⟩ := h
  cases r with
  | cons rx rr =>
    cases rr with
    | cons rt rr =>
      cases rr
      cases rx
      have ec := hcv _ rt
      subst ec
      obtain ⟨hget, _⟩ := I.pin (a, oe) (List.mem_append.mpr (.inl List.mem_cons_self))
      obtain ⟨vs, hv⟩ := hf
      have J : ∃ od, PySem.W.InstAt s.heap a oe D od := by
        cases d with
        | none => exact ⟨none, hget, hz.1, by unfold PySem.W.notCls; rw [hv] <;> rfl, by rw [hz.2.1] <;> trivial⟩
        | some dd =>
          obtain ⟨fs, hx⟩ := hd dd rfl
          have hx : ObjOk X.prog X.w H s.heap dd (.xd fs) := I.hok dd _ hx
          obtain ⟨mA, hns, _⟩ := hx
          obtain ⟨o, ho, _⟩ := lookIn_ns hns
          exact ⟨some o, hget, hz.1, by unfold PySem.W.notCls; rw [hv] <;> rfl, by rw [hz.2.1]; exact ho⟩
      obtain ⟨od, J⟩ := J
      exact PySem.W.kia_one (PySem.W.nf_kitx C) I.kIn J e (fun z => nomatch z) fun tk => ⟨.bl b, H, I.kept (t' := tk) fun _ _ z => z, rfl, q⟩
section
variable {X : Cx} {F : Fr} {L : List (Option Asr)} {O : List Own} {b3 : Bool} {a C C2 : Addr} {oe : Obj} {d : Option Addr} {pn : List (Addr × Obj)} {fs : List (Str × PyData)} {n y : Str} {p1 p2 p3 pos : Pos}
theorem n_isE {v : Bool} (i : Nat) (T : ExcC X.K C) (hz : L2N.Zn (.ref C) d oe) (hd : ∃ vs, oe.data = .fields vs) (hL : L[i]? = some (rf a)) (hm : X.mg y = some (.ref C2)) (hk : PySem.W.kitOne X.K (.ref C) (.ref C2) = some v) (hib : X.mg "isinstance" = none)
    (hN : X.N[i]? = some n := by rfl) (hv : Vis X.env.scope n := by first | exact Or.inl rfl | exact Or.inr (Or.inl rfl) | exact Or.inr (Or.inr rfl)) (hd1 : (n == ("__debug__" : Str)) = false := by decide) (hcd : (n == ("__classdict__" : Str)) = false := by decide)
    (hg : Gl X "isinstance" := by rfl) (hgy : Gl X y := by rfl) (hd2 : (y == ("__debug__" : Str)) = false := by decide)
    (h1 : starEach [.Name n p2, .Name y p3] (X.suite a ((a, oe) :: pn)).env = (false, eval (.Name n p2) (X.suite a ((a, oe) :: pn)).env) :: starEach [.Name y p3] (X.suite a ((a, oe) :: pn)).env := by rfl) (h2 : starEach [.Name y p3] (X.suite a ((a, oe) :: pn)).env = (false, eval (.Name y p3) (X.suite a ((a, oe) :: pn)).env) :: starEach [] (X.suite a ((a, oe) :: pn)).env := by rfl)
    (hpl : (backTo pos (starEach [.Name y p3] (X.suite a ((a, oe) :: pn)).env)).any (·.1) = false := by rfl) :
    PE (X.suite a ((a, oe) :: pn)) (.Call (.Name "isinstance" p1) [.Name n p2, .Name y p3] [] pos) (tP b3 (F.add (xdF d fs)) L O (.ok v)) :=
  pe_imp (pe_callB (X := X.suite a ((a, oe) :: pn)) (call_isD T hz hd) hg hib (by decide +kernel) (pa_cons (pe_var (X := X.suite a ((a, oe) :: pn)) (i := i) hN hv hd1 hcd) (pa_cons (pe_glob (X := X.suite a ((a, oe) :: pn)) (v := .ref C2) hgy hm rfl hd2) pa_nil h2) h1) (by decide) (by decide) h1 hpl) fun σ H Q ⟨g, q⟩ => by
  obtain ⟨v1, h3, h4⟩ := g.slot hL
  have e1 : v1 = V.ref a := h4
  subst e1
  refine ⟨_, h3, .ref C2, .ref C2, v, rfl, fun u r => r, hk, fun dd e => ?_, q _ H g (Same.refl _) rfl⟩
  subst e
  exact ⟨_, less_same _ _ g.go.fact⟩
end
/-! ### defs called in the suite -/
structure DefH (P : Program) (w : World) (K : Fg) (mg : MG) (base : Heap) (k : Nat) (x : Str) (ps : List Str) (sp : Sp) : Prop where
  ex : ∃ (f : Addr) (fd : FuncData), L2H.FnH P w K mg base CX0 k f fd ps sp ∧ mg x = some (.ref f) ∧ PySem.W.keepIn K (.ref f) = true ∧ Binds K fd ps []
section
variable {P : Program} {w : World} {K : PySem.W.Frag} {mg : Str → Option Value} {base : Heap} {τ ρ : Type} [RepA τ] [Rep ρ]
variable {x qual : Str} {st : Stmt} {f : Addr} {fd : FuncData} {N ps : List Str} {k : Nat}
theorem def_PH {mir : τ → Res ρ} (Fu : Fun K x qual st f fd) (S : FnScope N ps (defScope st)) (L0 : τ → List (Option Asr)) (hl : ∀ (vs : List V) (R : Hp) (a : τ), RepA.rep K mg R vs a → vs.length = ps.length ∧ Paired (SlotOk R) (L0 a) (start N vs))
    (body : ∀ (cdv : Value) (A : Around) (outer : List Env) (s : Shared) (H : Hp) (Av : List Addr) (E : XK) (p : Addr × Obj) (a : τ), L2H.RoomH k (A.deeper (envOfC qual (defScope st) s.heap.objs.size f cdv)) →
      PSs (L2H.cxH CX0 P w K mg base N qual (defScope st) f cdv A outer s H E p).nox (defBody st) (tT (F0 K mg H Av E0) (L0 a) [] (mir a) (rV (F0 K mg H Av E0)))) :
    L2H.FnH P w K mg base CX0 (k + 1) f fd ps (spP K mg mir) := by
  obtain ⟨oc, od, kV, doc, pm, an, cdv, ct, osl, rfl, lk, hcd⟩ := Fu.ex
  refine L2H.fn_ofH lk hcd S (fun vs H Q E ⟨a, A, _, h, _⟩ => (hl vs _ a h).1) fun A outer s H vs Q E p hot hr ⟨a, Av, hA, h, q⟩ =>
    ⟨_, (body cdv A outer s H Av E p a hr).nox, ⟨(hl vs _ a h).2, go_start hA⟩, ?_⟩
  exact q.mono (fun r k v H' ⟨g, r'⟩ => k v H' (go_same g) r') fun H' g => go_same g
end
section
variable {X : Cx} {F : Fr} {L : List (Option Asr)} {O : List Own} {τ ρ : Type} [RepA τ] [Rep ρ]
variable {k : Nat} {ps : List Str} {x : Str} {p1 pos : Pos} {e : Expr} {es : List Expr} {b : Bool} {a : Addr} {oe : Obj} {pn : List (Addr × Obj)} {cls : Value} {d : Option Addr}
theorem nh_call {mir : τ → Res ρ} {m : Res τ} (D : DefH X.prog X.w X.K X.mg X.base k x ps (spP X.K X.mg mir)) (hz : L2N.Zn cls d oe) (hdt : ∃ vs, oe.data = .fields vs) (hr : Room k X.A) (ha : PA (X.suite a ((a, oe) :: pn)) (e :: es) (tA b F L O m)) (hg : Gl X x := by rfl) (hE : F.E = E0 := by rfl) (hK : X.K = F.K := by rfl) (hM : X.mg = F.mg := by rfl) (hd : (x == ("__debug__" : Str)) = false := by decide)
    (hs : starEach (e :: es) (X.suite a ((a, oe) :: pn)).env = (false, eval e (X.suite a ((a, oe) :: pn)).env) :: starEach es (X.suite a ((a, oe) :: pn)).env := by rfl) (hs2 : ((backTo pos (starEach es (X.suite a ((a, oe) :: pn)).env)).any fun x => x.fst) = false := by rfl) :
    PE (X.suite a ((a, oe) :: pn)) (.Call (.Name x p1) (e :: es) [] pos) (tP b F L O (m.bind mir)) := by
  obtain ⟨f, fd, h1, h2, h3, h4⟩ := D.ex
  obtain ⟨vs, hv⟩ := hdt
  refine call_core (sp := spP X.K X.mg mir) hE (fun vs H Q q => by rw [← hK, ← hM] at q; exact q) (pe_imp (L2H.pe_callH (X := X.suite a ((a, oe) :: pn)) (E := fun _ => E0) h1 (L2H.roomH_mark hr _) ⟨(a, oe), ⟨rfl, vs, hv, hz.2.2 vs hv⟩, List.mem_cons_self⟩ hg h2 h3 h4 (fun σ pins H s e s' I c => pass0 pins σ H s e s' I c) ha hd hs hs2) fun σ H Q q => ?_)
  show tA b F L O m σ H (fun vs H1 => spP X.K X.mg mir vs H1 Q E0)
  have q' : tA b F L O m σ H (fun vs H1 => spP X.K X.mg mir (vs ++ []) H1 Q E0) := q
  simp only [List.append_nil] at q'
  exact q'
end
end NF

set_option Elab.async false
set_option linter.all false
set_option maxRecDepth 100000
set_option maxHeartbeats 1000000
/-! Nf16: quiet calls, stores of comprehensions, repr, the script. -/
namespace NF
open PySem PySem.Spec PyProof.Rows L2
open Data (toD)
section
variable {X : Cx} {F : Fr} {L : List (Option Asr)} {O : List Own} {τ ρ α β : Type} [RepA τ] [Rep ρ] [Rep α] [Rep β]
variable {k : Nat} {ps : List Str} {x y : Str} {p1 pos : Pos} {e : Expr} {es : List Expr} {b : Bool}
/-- a call of a def that lets nothing out, where something may be let out -/
theorem nq_call {mir : τ → Res ρ} {m : Res τ} (D : DefAt X.prog X.w X.K X.mg X.base CX0 k x ps (spP X.K X.mg mir)) (hr : Room k X.A) (ha : PA X (e :: es) (tA b F L O m)) (hg : Gl X x := by rfl) (hK : X.K = F.K := by rfl) (hM : X.mg = F.mg := by rfl) (hd : (x == ("__debug__" : Str)) = false := by decide)
    (hs : starEach (e :: es) X.env = (false, eval e X.env) :: starEach es X.env := by rfl) (hs2 : ((backTo pos (starEach es X.env)).any fun x => x.fst) = false := by rfl) : PE X (.Call (.Name x p1) (e :: es) [] pos) (tP b F L O (m.bind fun a => (mir a).quiet)) := by
  obtain ⟨f, fd, h1, h2, h3, h4⟩ := D.ex
  refine pe_imp (pe_call h1 hr hg h2 h3 h4 .nil pass0 ha hd hs hs2) fun σ H Q ⟨g, q⟩ => ?_
  rw [out_bind] at q
  refine ⟨g, q.mono (fun a qa vs H1 g1 s1 r1 => ?_) fun _ z => z⟩
  show spP X.K X.mg mir (vs ++ []) H1 Q E0
  rw [List.append_nil]
  refine ⟨a, avoid b F O, g1.go.avoided, by rw [hK, hM, ← rgn_avoid]; exact r1, ?_⟩
  rw [hK, hM]
  cases e : mir a with
  | ok r =>
    rw [e] at qa
    exact fun v H' s2 r2 => qa v H' (g1.grow s2) (s1.trans s2) (by rw [rgn_avoid]; exact r2)
  | err c fs =>
    rw [e] at qa
    exact qa.elim
  | bad =>
    rw [e] at qa
    exact qa.elim
theorem fq_call {mir : τ → Res (List α)} {m : Res τ} (D : DefAt X.prog X.w X.K X.mg X.base CX0 k x ps (spF X.K X.mg mir)) (hr : Room k X.A) (ha : PA X (e :: es) (tA b F L O m)) (hg : Gl X x := by rfl) (hK : X.K = F.K := by rfl) (hM : X.mg = F.mg := by rfl) (hd : (x == ("__debug__" : Str)) = false := by decide)
    (hs : starEach (e :: es) X.env = (false, eval e X.env) :: starEach es X.env := by rfl) (hs2 : ((backTo pos (starEach es X.env)).any fun x => x.fst) = false := by rfl) : PE X (.Call (.Name x p1) (e :: es) [] pos) (tF b F L O (m.bind fun a => (mir a).quiet)) := by
  obtain ⟨f, fd, h1, h2, h3, h4⟩ := D.ex
  refine pe_imp (pe_call h1 hr hg h2 h3 h4 .nil pass0 ha hd hs hs2) fun σ H Q ⟨g, q⟩ => ?_
  rw [out_bind] at q
  refine ⟨g, q.mono (fun a qa vs H1 g1 s1 r1 => ?_) fun _ z => z⟩
  show spF X.K X.mg mir (vs ++ []) H1 Q E0
  rw [List.append_nil]
  refine ⟨a, avoid b F O, g1.go.avoided, by rw [hK, hM, ← rgn_avoid]; exact r1, ?_⟩
  rw [hK, hM]
  cases e : mir a with
  | ok r =>
    rw [e] at qa
    exact fun p ws H' s2 h1 h2 r2 => qa p ws H' (g1.grow s2) (s1.trans s2) (s1.free h1) h2 (by rw [rgn_avoid]; exact r2)
  | err c fs =>
    rw [e] at qa
    exact qa.elim
  | bad =>
    rw [e] at qa
    exact qa.elim
/-! x = [..] -/
inductive SpN : Nat → Prop
  | mk {i : Nat} : SpN i
section
variable {tg iter elt : Expr} {ifs : List Expr} {scope : Scope} {own : List (Str × Nat)} {p2 pos2 : Pos} {g : TG} {bd : α → List (Option Asr) → List (Option Asr)} {m : Res (List α)} {p : α → Res Bool} {f : α → Res β}
/-- a value -/
theorem s_setLc (i : Nat) (hc : X.calm = true) (hN : X.N.Nodup) (hO : List.Sublist F.O0 O) (hi : PI X tg iter (tI b F L O m)) (hfl : b = true ∨ FlatP α) (hb : BlkOk X.N X.env.scope scope own)
    (hok : TgOk F.K F.mg g (own.map (·.2)) bd) (ht : ∀ (s : Shared) (H : Hp) (C : Addr) (cl : List (Str × Addr)) (fp : List Addr), Tg (X.blk s H scope (compEnvC scope cl C X.env) fp) F.K F.mg tg g (own.map (·.2)) bd)
    (hp : ∀ (s : Shared) (H : Hp) (C : Addr) (cl : List (Str × Addr)) (fp : List Addr) (a : α) (D : Addr) (ds : List β), PTs (X.blk s H scope (compEnvC scope cl C X.env) fp) ifs (tB' F.nox (bd a (wipeL L (own.map (·.2)))) (ow F.K F.mg D ds :: O) (p a)))
    (he : ∀ (s : Shared) (H : Hp) (C : Addr) (cl : List (Str × Addr)) (fp : List Addr) (a : α) (D : Addr) (ds : List β), PE (X.blk s H scope (compEnvC scope cl C X.env) fp) elt (tP true F.nox (bd a (wipeL L (own.map (·.2)))) (ow F.K F.mg D ds :: O) (f a)))
    (hy : X.N[i]? = some y := by rfl) (hyl : X.env.scope.names.lookup y = some .local := by rfl) (hk : X.env.scope.kind = .function := by rfl) (hl : (p1.line == pos.line) = true := by rfl) (ha : (scope.names.any fun (n, k) => n == y && (k == .local || k == .cell)) = false := by rfl) (hpl : pos2.line = pos.line := by rfl)
    (hf : ∀ x, foldedSetIterable iter X.env x = pure x := by intro _; rfl) :
    PS X (.Assign [.Name y p1] (.ListComp elt [{ target := tg, iter := iter, ifs := ifs, is_async := 0 }] scope pos) pos2) (tN F L O (m.bind fun as => need (as.length ≤ sizeLine) (filtR (fun a => (p a).quiet) (fun a => (f a).quiet) as)) (fun as => L.set i (vl F.K F.mg as)) (fun _ => O)) := by
  refine ps_imp (ps_setLc hc hN hy hyl (sw_true hk hyl hl ha) hi hb (fun s H C cl fp => (ht s H C cl fp).pg) (fun s H C cl fp => pts_ex fun a => pts_ex fun D => pts_ex fun ds => hp s H C cl fp a D ds) (fun s H C cl fp => pe_ex fun a => pe_ex fun D => pe_ex fun ds => he s H C cl fp a D ds) hf) fun D σ H ⟨g0, q⟩ => ?_
  refine comp_core _ _ rfl hfl hok rfl rfl σ H (fun x H1 => gName i x σ H1 D.nx) ⟨g0, q.mono (fun as k p vs H1 g1 s1 h1 h2 r1 => ?_) fun H' ⟨a, _⟩ => a.go.sub hO⟩
  refine k _ _ ⟨set_ok (p := vl F.K F.mg as) ?_ i g1.slots, g1.go⟩
  refine ⟨p, vs, rfl, ?_, r1.mono less_same⟩
  show less H1 (addrs O ++ F.A) p = some (.lst vs)
  rw [less_out (g0.go.out h1)]
  exact h2
/-- an owned list -/
theorem s_ownLc (i : Nat) (hc : X.calm = true) (hN : X.N.Nodup) (hO : List.Sublist F.O0 O) (hi : PI X tg iter (tI b F L O m)) (hfl : b = true ∨ FlatP α) (hb : BlkOk X.N X.env.scope scope own)
    (hok : TgOk F.K F.mg g (own.map (·.2)) bd) (ht : ∀ (s : Shared) (H : Hp) (C : Addr) (cl : List (Str × Addr)) (fp : List Addr), Tg (X.blk s H scope (compEnvC scope cl C X.env) fp) F.K F.mg tg g (own.map (·.2)) bd)
    (hp : ∀ (s : Shared) (H : Hp) (C : Addr) (cl : List (Str × Addr)) (fp : List Addr) (a : α) (D : Addr) (ds : List β), PTs (X.blk s H scope (compEnvC scope cl C X.env) fp) ifs (tB' F.nox (bd a (wipeL L (own.map (·.2)))) (ow F.K F.mg D ds :: O) (p a)))
    (he : ∀ (s : Shared) (H : Hp) (C : Addr) (cl : List (Str × Addr)) (fp : List Addr) (a : α) (D : Addr) (ds : List β), PE (X.blk s H scope (compEnvC scope cl C X.env) fp) elt (tP true F.nox (bd a (wipeL L (own.map (·.2)))) (ow F.K F.mg D ds :: O) (f a)))
    (hy : X.N[i]? = some y := by rfl) (hyl : X.env.scope.names.lookup y = some .local := by rfl) (hk : X.env.scope.kind = .function := by rfl) (hl : (p1.line == pos.line) = true := by rfl) (ha : (scope.names.any fun (n, k) => n == y && (k == .local || k == .cell)) = false := by rfl) (hpl : pos2.line = pos.line := by rfl)
    (hf : ∀ x, foldedSetIterable iter X.env x = pure x := by intro _; rfl) :
    PS X (.Assign [.Name y p1] (.ListComp elt [{ target := tg, iter := iter, ifs := ifs, is_async := 0 }] scope pos) pos2) (tNp F L O (m.bind fun as => need (as.length ≤ sizeLine) (filtR (fun a => (p a).quiet) (fun a => (f a).quiet) as)) (fun p _ => L.set i (rf p)) (fun p as => ow F.K F.mg p as :: O)) := by
  refine ps_imp (ps_setLc hc hN hy hyl (sw_true hk hyl hl ha) hi hb (fun s H C cl fp => (ht s H C cl fp).pg) (fun s H C cl fp => pts_ex fun a => pts_ex fun D => pts_ex fun ds => hp s H C cl fp a D ds) (fun s H C cl fp => pe_ex fun a => pe_ex fun D => pe_ex fun ds => he s H C cl fp a D ds) hf) fun D σ H ⟨g0, q⟩ => ?_
  refine comp_core _ _ rfl hfl hok rfl rfl σ H (fun x H1 => gName i x σ H1 D.nx) ⟨g0, q.mono (fun as k p vs H1 g1 s1 h1 h2 r1 => ?_) fun H' ⟨a, _⟩ => a.go.sub hO⟩
  exact k p _ _ ⟨set_ok (p := rf p) rfl i (L2.Paired.mapP g0.slots fun _ _ z => z.mono (rg_new rfl s1 h1)), go_new g0 g1.go s1 h1 h2 r1⟩
end
/-! repr of an int -/
theorem n_repr {b1 b3 : Bool} {m : Res Int} {t : TA} (h : PE X e (tCB (fun xs H Q => ∃ i, xs = [.int i] ∧ i.natAbs.log2 < 1920 ∧ Q (.str (PySem.Str.ofString (toString i))) H) t)) (ht : t = tCons (tP b1 F L O m) tNil) : PE X e (tP b3 F L O (m.bind fun i => need (i.natAbs.log2 < 1920) (.ok (PySem.Str.ofString (toString i))))) := pe_imp h fun σ H Q ⟨g, q⟩ => by
  subst ht
  rw [out_bind] at q
  refine ⟨g, q.mono (fun i k v H1 g1 s1 r1 => ?_) fun _ z => z⟩
  rw [out_need] at k
  exact ⟨i, by cases r1; rfl, k.1, k.2 _ H1 g1 s1 rfl⟩
end
/-! the script -/
structure Scr where
  ns : List Int
instance : Rep Scr := ⟨fun K _ H v a => ∃ p, v = .ref p ∧ SqL K H p (a.ns.map V.int), fun e ⟨p, h1, h2⟩ => ⟨p, h1, e.seq h2⟩⟩
theorem reps_ints {K : Fg} {mg : MG} {H : Hp} (ns : List Int) : Reps K mg H (ns.map V.int) ns := reps_flat.mpr rfl
instance : Lk Scr Int := ⟨Scr.ns, fun ⟨p, h1, h2⟩ => ⟨p, _, h1, .inl h2, reps_ints _⟩⟩
section
variable {X : Cx} {F : Fr} {L : List (Option Asr)} {O : List Own}
theorem f_sliceS {x : Expr} {b : Bool} {ma : Res Scr} {lo hi : Option Expr} {ml mh : Res (Option Int)} {p1 p2 : Pos} (hx : PE X x (tP b F L O ma)) (hl : PO X lo (tO F L O ml)) (hh : PO X hi (tO F L O mh)) (hK : X.K = F.K := by rfl) :
    PE X (.Subscript x (.Slice lo hi none p2) p1) (tF b F L O (ma.bind fun x => ml.bind fun l => mh.bind fun h => .ok (cut x.ns l h))) := pe_imp (pe_slice sl_list hx hl hh) fun σ H Q ⟨g, q⟩ => by
  rw [out_bind] at q
  refine ⟨g, q.mono (fun x qx v1 H1 g1 s1 r1 => ?_) fun _ z => z⟩
  rw [out_bind] at qx
  refine ⟨g1, qx.mono (fun l ql H2 g2 s2 => ?_) fun H' ⟨a, b⟩ => ⟨a, s1.trans b⟩⟩
  rw [out_bind] at ql
  refine ⟨g2, ql.mono (fun h qh H3 g3 s3 => ?_) fun H' ⟨a, b⟩ => ⟨a, (s1.trans s2).trans b⟩⟩
  obtain ⟨p, rfl, h2⟩ := r1
  refine ⟨p, x.ns.map V.int, rfl, ?_, kf_new g3 (KF.mono ((s1.trans s2).trans s3) qh) ?_⟩
  · rw [hK]
    exact (s2.trans s3).seq (rgn_sub.seq h2)
  · unfold cutV cut
    rw [List.length_map]
    exact reps_take _ (reps_drop _ (reps_ints _))
end
theorem FnOk.weaker {P : Program} {w : World} {K : Fg} {mg : MG} {base : Heap} {CX : CXT} {k : Nat} {f : Addr} {fd : FuncData} {ps : List Str} {sp sp' : Sp} (F : FnOk P w K mg base CX k f fd ps sp) (i : ∀ vs H Q E, sp' vs H Q E → sp vs H Q E) : FnOk P w K mg base CX k f fd ps sp' :=
  ⟨fun vs H Q E h => F.len _ _ _ _ (i _ _ _ _ h), fun A outer s H args us vs Q E h1 h2 h3 h4 h => F.run A outer s H args us vs Q E h1 h2 h3 h4 (i _ _ _ _ h)⟩
/-- a law over a list of ints -/
def spLaw (K : Fg) (n : Nat) : Sp := fun vs H Q _ => ∃ (a : Addr) (ns : List Int), vs = [.ref a] ∧ SqL K H a (ns.map V.int) ∧ ns.length ≤ n ∧ ∀ H', Q (.bl true) H'
theorem law_of {P : Program} {w : World} {K : Fg} {mg : MG} {base : Heap} {k n : Nat} {f : Addr} {fd : FuncData} {ps : List Str} {mir : Ar Scr Unit → Res Bool} (F : FnOk P w K mg base CX0 k f fd ps (spP K mg mir)) (math : ∀ ns : List Int, ns.length ≤ n → mir ⟨⟨ns⟩, ()⟩ = .ok true) :
    FnOk P w K mg base CX0 k f fd ps (spLaw K n) := FnOk.weaker F fun vs H Q E ⟨a, ns, e, h, hl, q⟩ => by
  refine ⟨⟨⟨ns⟩, ()⟩, [], fun _ z => (List.not_mem_nil z).elim, ?_, ?_⟩
  · subst e
    refine ⟨_, _, rfl, ⟨a, rfl, ?_⟩, rfl⟩
    have : Same H (less H []) := fun b o z => by rw [less_out List.not_mem_nil]; exact z
    exact this.seq h
  · rw [math ns hl]
    intro v H' _ r
    have r' : v = .bl true := r
    rw [r']
    exact q H'
end NF

set_option Elab.async false
set_option linter.all false
set_option maxRecDepth 100000
set_option maxHeartbeats 4000000
namespace K12
open PySem PySem.Spec PyProof.Rows L2 NF
open NF.Data (toD)
def topS (i : Nat) : Stmt := PySem.Challenge.pw_colonnade_k12_rows_withstand.main.body.getD i (.Pass ⟨0, 0, 0, 0⟩)
section
variable {P : Program} {w : World} {K : Fg} {mg : MG} {base : Heap}

/-! ### _neighbours -/
def m_neighbours (a : (Ar (Sq Int) (Ar Int (Ar Int Unit)))) : Res (Int × Int) :=
  (if (decide ((0 : Int) < a.r.r.x)) then (idx (Lk.its a.x) (a.r.r.x - (1 : Int))) else (Res.ok (-(1 : Int)))).bind fun low_1 => (if (decide (a.r.r.x < (List.length (Lk.its a.x) : Int))) then (idx (Lk.its a.x) a.r.r.x) else (Res.ok a.r.x)).bind fun high_2 => Res.ok (low_1, high_2)
abbrev s__neighbours : Stmt := topS 5
theorem sc__neighbours : FnScope ["row", "room", "rank", "low", "high"] ["row", "room", "rank"] (defScope s__neighbours) := ⟨rfl, rfl, rfl, by decide +kernel, rfl, by decide +kernel, by decide +kernel⟩
theorem ok__neighbours {f : Addr} {fd : FuncData} (Fu : Fun K "_neighbours" "_neighbours" s__neighbours f fd) (z_len : mg "len" = none) : FnOk P w K mg base CX0 1 f fd ["row", "room", "rank"] (spP K mg m_neighbours) := by
  refine def_P (τ := (Ar (Sq Int) (Ar Int (Ar Int Unit)))) (ρ := (Int × Int)) Fu sc__neighbours (fun a => [vl K mg a.x, vl K mg a.r.x, vl K mg a.r.r.x, none, none]) (fun vs R a h => by
    obtain ⟨v0, w0, e0, h0, v1, w1, e1, h1, v2, w2, e2, h2, e3⟩ := h
    cases e3; cases e2; cases e1; cases e0
    exact ⟨rfl, .cons h0 (.cons h1 (.cons h2 (.cons trivial (.cons trivial (.nil)))))⟩) (fun cdv A outer s H Av E a hr => ?_)
  refine tT_cast (b_N (s_set 3 sc__neighbours.nd (List.nil_sublist _) (n_if (t_gt (n_var 2) (n_int (b := true))) (n_idx (n_var 0) (n_sub (b3 := true) (n_var 2) (n_int (b := true)))) (n_neg (b3 := true) (n_int (b := true))))) (fun low_1 => (b_N (s_set 4 sc__neighbours.nd (List.nil_sublist _) (n_if (t_lt (n_var 2) (n_len (b3 := true) (pe_callB call_len_seq (by rfl) z_len (by decide +kernel) (pa_cons (n_var 0) pa_nil)) rfl)) (n_idx (n_var 0) (n_var 2)) (n_var 1))) (fun high_2 => (b_ret (n_tup2 (n_var 3) (n_var 4)) (List.nil_sublist _)))))) ?_
  simp only [Res.bind_ok]
  rfl

/-! ### _middle -/
def m_middle (a : (Ar Int (Ar Int Unit))) : Res Int :=
  (need (CDiv (a.r.x - a.x) (2 : Int)) (Res.ok ((a.r.x - a.x) / (2 : Int)))).bind fun v3 => Res.ok (a.x + v3)
abbrev s__middle : Stmt := topS 6
theorem sc__middle : FnScope ["low", "high"] ["low", "high"] (defScope s__middle) := ⟨rfl, rfl, rfl, by decide +kernel, rfl, by decide +kernel, by decide +kernel⟩
theorem ok__middle {f : Addr} {fd : FuncData} (Fu : Fun K "_middle" "_middle" s__middle f fd) : FnOk P w K mg base CX0 1 f fd ["low", "high"] (spP K mg m_middle) := by
  refine def_P (τ := (Ar Int (Ar Int Unit))) (ρ := Int) Fu sc__middle (fun a => [vl K mg a.x, vl K mg a.r.x]) (fun vs R a h => by
    obtain ⟨v0, w0, e0, h0, v1, w1, e1, h1, e2⟩ := h
    cases e2; cases e1; cases e0
    exact ⟨rfl, .cons h0 (.cons h1 (.nil))⟩) (fun cdv A outer s H Av E a hr => ?_)
  refine tT_cast (b_ret (n_add (b3 := true) (n_var 0) (n_fdiv (b3 := true) (n_sub (b3 := true) (n_var 1) (n_var 0)) (n_int (b := true)))) (List.nil_sublist _)) ?_
  simp only [Res.bind_ok]
  rfl

/-! ### _halvings -/
def m_halvings (a : (Ar Int Unit)) : Res Int :=
  Res.ok (((Builtin.Int.intBits a.x : Nat) : Int) - (1 : Int))
abbrev s__halvings : Stmt := topS 7
theorem sc__halvings : FnScope ["span"] ["span"] (defScope s__halvings) := ⟨rfl, rfl, rfl, by decide +kernel, rfl, by decide +kernel, by decide +kernel⟩
theorem ok__halvings {f : Addr} {fd : FuncData} (Fu : Fun K "_halvings" "_halvings" s__halvings f fd) : FnOk P w K mg base CX0 1 f fd ["span"] (spP K mg m_halvings) := by
  refine def_P (τ := (Ar Int Unit)) (ρ := Int) Fu sc__halvings (fun a => [vl K mg a.x]) (fun vs R a h => by
    obtain ⟨v0, w0, e0, h0, e1⟩ := h
    cases e1; cases e0
    exact ⟨rfl, .cons h0 (.nil)⟩) (fun cdv A outer s H Av E a hr => ?_)
  refine tT_cast (b_ret (n_sub (b3 := true) (n_bits (b3 := true) (n_var 0)) (n_int (b := true))) (List.nil_sublist _)) ?_
  simp only [Res.bind_ok]
  rfl

/-! ### spans -/
def m_spans (a : (Ar (Sq Int) (Ar Int Unit))) : Res (List Int) :=
  (need (List.length ((-(1 : Int)) :: ((Lk.its a.x) ++ (a.r.x :: []))) ≤ sizeLine) (Res.ok ((-(1 : Int)) :: ((Lk.its a.x) ++ (a.r.x :: []))))).bind fun codes_4 => need (List.length (List.zip codes_4 (cut codes_4 (some (1 : Int)) none)) ≤ sizeLine) (filtR (fun (a5 : (Int × Int)) => Res.quiet (Res.ok true)) (fun (a5 : (Int × Int)) => Res.quiet (Res.ok (a5.2 - a5.1))) (List.zip codes_4 (cut codes_4 (some (1 : Int)) none)))
abbrev s_spans : Stmt := topS 8
theorem sc_spans : FnScope ["row", "room", "codes", "low", "high"] ["row", "room"] (defScope s_spans) := ⟨rfl, rfl, rfl, by decide +kernel, rfl, by decide +kernel, by decide +kernel⟩
theorem ok_spans {f : Addr} {fd : FuncData} (Fu : Fun K "spans" "spans" s_spans f fd) (z_zip : mg "zip" = none) : FnOk P w K mg base CX0 1 f fd ["row", "room"] (spF K mg m_spans) := by
  refine def_F (τ := (Ar (Sq Int) (Ar Int Unit))) (α := Int) Fu sc_spans (fun a => [vl K mg a.x, vl K mg a.r.x, none, none, none]) (fun vs R a h => by
    obtain ⟨v0, w0, e0, h0, v1, w1, e1, h1, e2⟩ := h
    cases e2; cases e1; cases e0
    exact ⟨rfl, .cons h0 (.cons h1 (.cons trivial (.cons trivial (.cons trivial (.nil)))))⟩) (fun cdv A outer s H Av E a hr => ?_)
  refine tT_cast (b_N (s_set 2 sc_spans.nd (List.nil_sublist _) (f_val (f_lst (l_cons (n_neg (b3 := true) (n_int (b := true))) (l_star (n_var 0) (l_cons (n_var 1) (l_nil (α := Int)))))))) (fun codes_4 => (b_retF (f_lcf (own := [("low", 3), ("high", 4)]) rfl sc_spans.nd (i_zip (n_var 2) (f_val (f_slice (n_var 2) (o_some (n_int (b := true))) o_none)) z_zip) (.inl rfl) (blkOk_by (N := ["row", "room", "codes", "low", "high"]) (sc := defScope s_spans) (by decide +kernel)) (tgok_pair 3 4 (by decide)) (fun _ _ _ _ _ => (tg_pair 3 4 (by decide) rfl sc_spans.nd)) (fun _ _ _ _ _ a5 D6 ds7 => ts_nil) (fun _ _ _ _ _ a5 D6 ds7 => (n_sub (b3 := true) (n_var 4) (n_var 3)))) (List.nil_sublist _)))) ?_
  simp only [Res.bind_ok]
  rfl

/-! ### withstands -/
def m_withstands (a : (Ar (Sq Int) (Ar Int Unit))) : Res Int :=
  (((m_spans (Ar.mk a.x (Ar.mk a.r.x ()))).bind fun v8 => Res.ok v8).bind fun v12 => need (List.length v12 ≤ sizeLine) (filtR (fun (a9 : Int) => Res.quiet (Res.ok true)) (fun (a9 : Int) => Res.quiet (m_halvings (Ar.mk a9 ()))) v12)).bind fun v13 => minR v13
abbrev s_withstands : Stmt := topS 9
theorem sc_withstands : FnScope ["row", "room", "span"] ["row", "room"] (defScope s_withstands) := ⟨rfl, rfl, rfl, by decide +kernel, rfl, by decide +kernel, by decide +kernel⟩
theorem ok_withstands {f : Addr} {fd : FuncData} (Fu : Fun K "withstands" "withstands" s_withstands f fd) (D_spans : DefAt P w K mg base CX0 1 "spans" ["row", "room"] (spF K mg m_spans)) (D__halvings : DefAt P w K mg base CX0 1 "_halvings" ["span"] (spP K mg m_halvings)) (z_min : mg "min" = none) : FnOk P w K mg base CX0 2 f fd ["row", "room"] (spP K mg m_withstands) := by
  refine def_P (τ := (Ar (Sq Int) (Ar Int Unit))) (ρ := Int) Fu sc_withstands (fun a => [vl K mg a.x, vl K mg a.r.x, none]) (fun vs R a h => by
    obtain ⟨v0, w0, e0, h0, v1, w1, e1, h1, e2⟩ := h
    cases e2; cases e1; cases e0
    exact ⟨rfl, .cons h0 (.cons h1 (.cons trivial (.nil)))⟩) (fun cdv A outer s H Av E a hr => ?_)
  refine tT_cast (b_ret (n_min (b3 := true) (pe_callB (cr_min rfl) (by rfl) z_min (by decide +kernel) (pa_cons (f_val (f_lcf (own := [("span", 2)]) rfl sc_withstands.nd (i_lk (f_val (fd_call D_spans (hr.mono (by decide)) (a_cons (n_var 0) (a_cons (n_var 1) a_nil))))) (.inl rfl) (blkOk_by (N := ["row", "room", "span"]) (sc := defScope s_withstands) (by decide +kernel)) (tgok_name 2) (fun _ _ _ _ _ => (tg_name 2 sc_withstands.nd)) (fun _ _ _ _ _ a9 D10 ds11 => ts_nil) (fun _ _ _ _ _ a9 D10 ds11 => (nd_call D__halvings (hr.mono (by decide)) (a_cons (n_var 2) a_nil))))) pa_nil)) rfl) (List.nil_sublist _)) ?_
  simp only [Res.bind_ok]
  rfl

/-! ### _weakest_rank -/
def m_weakest_rank (a : (Ar (Sq Int) (Ar Int Unit))) : Res Int :=
  (((m_spans (Ar.mk a.x (Ar.mk a.r.x ()))).bind fun v14 => Res.ok v14).bind fun v18 => need (List.length v18 ≤ sizeLine) (filtR (fun (a15 : Int) => Res.quiet (Res.ok true)) (fun (a15 : Int) => Res.quiet (m_halvings (Ar.mk a15 ()))) v18)).bind fun v19 => (m_withstands (Ar.mk a.x (Ar.mk a.r.x ()))).bind fun v20 => indexR v19 v20
abbrev s__weakest_rank : Stmt := topS 10
theorem sc__weakest_rank : FnScope ["row", "room", "span"] ["row", "room"] (defScope s__weakest_rank) := ⟨rfl, rfl, rfl, by decide +kernel, rfl, by decide +kernel, by decide +kernel⟩
theorem ok__weakest_rank {f : Addr} {fd : FuncData} (Fu : Fun K "_weakest_rank" "_weakest_rank" s__weakest_rank f fd) (D_spans : DefAt P w K mg base CX0 1 "spans" ["row", "room"] (spF K mg m_spans)) (D__halvings : DefAt P w K mg base CX0 1 "_halvings" ["span"] (spP K mg m_halvings)) (D_withstands : DefAt P w K mg base CX0 2 "withstands" ["row", "room"] (spP K mg m_withstands)) : FnOk P w K mg base CX0 3 f fd ["row", "room"] (spP K mg m_weakest_rank) := by
  refine def_P (τ := (Ar (Sq Int) (Ar Int Unit))) (ρ := Int) Fu sc__weakest_rank (fun a => [vl K mg a.x, vl K mg a.r.x, none]) (fun vs R a h => by
    obtain ⟨v0, w0, e0, h0, v1, w1, e1, h1, e2⟩ := h
    cases e2; cases e1; cases e0
    exact ⟨rfl, .cons h0 (.cons h1 (.cons trivial (.nil)))⟩) (fun cdv A outer s H Av E a hr => ?_)
  refine tT_cast (b_ret (n_index (b3 := true) (f_val (f_lcf (own := [("span", 2)]) rfl sc__weakest_rank.nd (i_lk (f_val (fd_call D_spans (hr.mono (by decide)) (a_cons (n_var 0) (a_cons (n_var 1) a_nil))))) (.inl rfl) (blkOk_by (N := ["row", "room", "span"]) (sc := defScope s__weakest_rank) (by decide +kernel)) (tgok_name 2) (fun _ _ _ _ _ => (tg_name 2 sc__weakest_rank.nd)) (fun _ _ _ _ _ a15 D16 ds17 => ts_nil) (fun _ _ _ _ _ a15 D16 ds17 => (nd_call D__halvings (hr.mono (by decide)) (a_cons (n_var 2) a_nil))))) (nd_call D_withstands (hr.mono (by decide)) (a_cons (n_var 0) (a_cons (n_var 1) a_nil))) (fun h1 h2 => pe_bm PySem.F.plainAttrs_list PySem.F.slot_list_index PySem.F.type_list_index mt_index h1 h2)) (List.nil_sublist _)) ?_
  simp only [Res.bind_ok]
  rfl

/-! ### place_comer -/
def m_place_comer (a : (Ar (Sq Int) (Ar Int (Ar Int Unit)))) : Res Int :=
  (Res.quiet (m_neighbours (Ar.mk a.x (Ar.mk a.r.x (Ar.mk a.r.r.x ()))))).bind fun t21 => if (decide ((t21.2 - t21.1) < (2 : Int))) then (Res.err "NoPlace" [("rank", toD a.r.r.x)]) else (Res.quiet (m_middle (Ar.mk t21.1 (Ar.mk t21.2 ()))))
abbrev s_place_comer : Stmt := topS 11
theorem sc_place_comer : FnScope ["row", "room", "rank", "low", "high"] ["row", "room", "rank"] (defScope s_place_comer) := ⟨rfl, rfl, rfl, by decide +kernel, rfl, by decide +kernel, by decide +kernel⟩
theorem ok_place_comer {f : Addr} {fd : FuncData} (Fu : Fun K "place_comer" "place_comer" s_place_comer f fd) (D__neighbours : DefAt P w K mg base CX0 1 "_neighbours" ["row", "room", "rank"] (spP K mg m_neighbours)) (R_NoPlace : ErrAt P w K mg base 1 "NoPlace" "rank") (D__middle : DefAt P w K mg base CX0 1 "_middle" ["low", "high"] (spP K mg m_middle)) : FnOk P w K mg base (L2N.CX P w) 3 f fd ["row", "room", "rank"] (spX K mg m_place_comer) := by
  refine def_XN (τ := (Ar (Sq Int) (Ar Int (Ar Int Unit)))) (ρ := Int) Fu sc_place_comer (fun a => [vl K mg a.x, vl K mg a.r.x, vl K mg a.r.r.x, none, none]) (fun vs R a h => by
    obtain ⟨v0, w0, e0, h0, v1, w1, e1, h1, v2, w2, e2, h2, e3⟩ := h
    cases e3; cases e2; cases e1; cases e0
    exact ⟨rfl, .cons h0 (.cons h1 (.cons h2 (.cons trivial (.cons trivial (.nil)))))⟩) (fun cdv A outer s H Av E a hr htk => ?_)
  refine tT_cast (b_N (s_unp 3 4 (by decide) rfl sc_place_comer.nd (List.nil_sublist _) (nq_call D__neighbours (hr.mono (by decide)) (a_cons (n_var 0) (a_cons (n_var 1) (a_cons (n_var 2) a_nil))))) (fun t21 => (b_if (t_lt (n_sub (b3 := true) (n_var 4) (n_var 3)) (n_int (b := true))) (b_s (s_raise R_NoPlace (hr.mono (by decide)) rfl (htk _ _) (List.nil_sublist _) (n_var 2))) (b_ret (nq_call D__middle (hr.mono (by decide)) (a_cons (n_var 3) (a_cons (n_var 4) a_nil))) (List.nil_sublist _)) (List.nil_sublist _)))) ?_
  simp only [Res.bind_ok]
  rfl

/-! ### comers_placed -/
def m_comers_placed (a : (Ar (Sq Int) (Ar Int (Ar (List Int) Unit)))) : Res Int :=
  (let codes_22 := (Lk.its a.x)
  goOn (foldM (fun (a24 : (Int × Int)) (b25 : ((List Int))) => (m_neighbours (Ar.mk (Sq.l b25) (Ar.mk a.r.x (Ar.mk a24.2 ())))).bind fun t28 => if (decide ((t28.2 - t28.1) < (2 : Int))) then ((Res.ok a24.1).bind fun d => Res.ok (Sum.inr d)) else (((m_middle (Ar.mk t28.1 (Ar.mk t28.2 ()))).bind fun v29 => need (List.length b25 < sizeLine ∧ Ps63 a24.2) (Res.ok (List.take (a24.2).toNat b25 ++ [v29] ++ List.drop (a24.2).toNat b25))).bind fun codes_30 => Res.ok (Sum.inl codes_30))) (enumF 0 a.r.r.x) codes_22) (fun b27 => Res.ok (List.length a.r.r.x : Int)))
abbrev s_comers_placed : Stmt := topS 12
theorem sc_comers_placed : FnScope ["row", "room", "ranks", "codes", "placed", "rank", "low", "high"] ["row", "room", "ranks"] (defScope s_comers_placed) := ⟨rfl, rfl, rfl, by decide +kernel, rfl, by decide +kernel, by decide +kernel⟩
theorem ok_comers_placed {f : Addr} {fd : FuncData} (Fu : Fun K "comers_placed" "comers_placed" s_comers_placed f fd) (D__neighbours : DefAt P w K mg base CX0 1 "_neighbours" ["row", "room", "rank"] (spP K mg m_neighbours)) (D__middle : DefAt P w K mg base CX0 1 "_middle" ["low", "high"] (spP K mg m_middle)) (z_enumerate : mg "enumerate" = none) (z_len : mg "len" = none) (z_list : mg "list" = none) : FnOk P w K mg base CX0 2 f fd ["row", "room", "ranks"] (spP K mg m_comers_placed) := by
  refine def_P (τ := (Ar (Sq Int) (Ar Int (Ar (List Int) Unit)))) (ρ := Int) Fu sc_comers_placed (fun a => [vl K mg a.x, vl K mg a.r.x, vl K mg a.r.r.x, none, none, none, none, none]) (fun vs R a h => by
    obtain ⟨v0, w0, e0, h0, v1, w1, e1, h1, v2, w2, e2, h2, e3⟩ := h
    cases e3; cases e2; cases e1; cases e0
    exact ⟨rfl, .cons h0 (.cons h1 (.cons h2 (.cons trivial (.cons trivial (.cons trivial (.cons trivial (.cons trivial (.nil))))))))⟩) (fun cdv A outer s H Av E a hr => ?_)
  refine tT_cast (b_Np (s_own 3 sc_comers_placed.nd (List.nil_sublist _) (f_list (pe_callTy call_list_of (by rfl) z_list (by decide +kernel) (pa_cons (n_var 0) pa_nil)) rfl)) (fun codes_22 p23 => (b_M (s_forM (Sp3.mk : Sp3 (fun b : ((List Int)) => [vl K mg (a.x : (Sq Int)), vl K mg (a.r.x : Int), vl K mg (a.r.r.x : (List Int)), rf p23, none, none, none, none]) (fun b : ((List Int)) => ([ow K mg p23 (b : List Int)] : List Own)) codes_22) PassesOwn.never rfl (i_enum (n_var 2) z_enumerate) (tg_pair 4 5 (by decide) rfl sc_comers_placed.nd) (List.nil_sublist _) ⟨.inr rfl, .inr rfl, .inr rfl, .inr rfl, .inl rfl, .inl rfl, .inl rfl, .inl rfl, trivial⟩ (List.Sublist.refl _) (fun z26 a24 b25 => (m_N (s_unp 6 7 (by decide) rfl sc_comers_placed.nd (List.nil_sublist _) (nd_call D__neighbours (hr.mono (by decide)) (a_cons (n_sql (n_own 3 rfl List.mem_cons_self)) (a_cons (weak (n_var 1)) (a_cons (weak (n_var 5)) a_nil))))) (fun t28 => (m_if (t_lt (n_sub (b3 := true) (n_var 7) (n_var 6)) (n_int (b := true))) (b_le (rV_le (.add (.refl _))) (b_ret (n_var 4) (List.nil_sublist _))) (m_N (s_ins (b := true) 3 rfl (List.nil_sublist _) (n_var 5) (nd_call D__middle (hr.mono (by decide)) (a_cons (n_var 6) (a_cons (n_var 7) a_nil))) (fun h0 h1 h2 => pe_bm PySem.F.plainAttrs_list PySem.F.slot_list_insert PySem.F.type_list_insert h0 h1 h2)) (fun codes_30 => (m_end codes_30 ⟨.inr rfl, .inr rfl, .inr rfl, .inr rfl, .inl rfl, .inl rfl, .inl rfl, .inl rfl, trivial⟩ (List.Sublist.cons₂ _ (List.nil_sublist _))))) (List.nil_sublist _)))))) (fun b27 => (b_ret (n_len (b3 := true) (pe_callB call_len_seq (by rfl) z_len (by decide +kernel) (pa_cons (n_var 2) pa_nil)) rfl) (List.nil_sublist _)))))) ?_
  simp only [Res.bind_ok]
  rfl

/-! ### breaking -/
def m_breaking (a : (Ar (Sq Int) (Ar Int Unit))) : Res (List Int) :=
  (((m_weakest_rank (Ar.mk a.x (Ar.mk a.r.x ()))).bind fun v31 => Res.ok (v31 :: [])).bind fun v32 => need (List.length v32 ≤ sizeLine) (Res.ok v32)).bind fun v34 => ((m_withstands (Ar.mk a.x (Ar.mk a.r.x ()))).bind fun v33 => Res.ok (v33 + (1 : Int))).bind fun v35 => need (Rg63 v35 ∧ List.length v34 * (v35).toNat ≤ sizeLine) (Res.ok (List.replicate (v35).toNat v34).flatten)
abbrev s_breaking : Stmt := topS 13
theorem sc_breaking : FnScope ["row", "room"] ["row", "room"] (defScope s_breaking) := ⟨rfl, rfl, rfl, by decide +kernel, rfl, by decide +kernel, by decide +kernel⟩
theorem ok_breaking {f : Addr} {fd : FuncData} (Fu : Fun K "breaking" "breaking" s_breaking f fd) (D__weakest_rank : DefAt P w K mg base CX0 3 "_weakest_rank" ["row", "room"] (spP K mg m_weakest_rank)) (D_withstands : DefAt P w K mg base CX0 2 "withstands" ["row", "room"] (spP K mg m_withstands)) : FnOk P w K mg base CX0 4 f fd ["row", "room"] (spF K mg m_breaking) := by
  refine def_F (τ := (Ar (Sq Int) (Ar Int Unit))) (α := Int) Fu sc_breaking (fun a => [vl K mg a.x, vl K mg a.r.x]) (fun vs R a h => by
    obtain ⟨v0, w0, e0, h0, v1, w1, e1, h1, e2⟩ := h
    cases e2; cases e1; cases e0
    exact ⟨rfl, .cons h0 (.cons h1 (.nil))⟩) (fun cdv A outer s H Av E a hr => ?_)
  refine tT_cast (b_retF (f_rep (f_val (f_lst (l_cons (nd_call D__weakest_rank (hr.mono (by decide)) (a_cons (n_var 0) (a_cons (n_var 1) a_nil))) (l_nil (α := Int))))) (n_add (b3 := true) (nd_call D_withstands (hr.mono (by decide)) (a_cons (n_var 0) (a_cons (n_var 1) a_nil))) (n_int (b := true)))) (List.nil_sublist _)) ?_
  simp only [Res.bind_ok]
  rfl

/-! ### _law_take -/
def m_law_take (xs0 : List Int) (a : (Ar Int Unit)) : Res (Int × List Int) :=
  ((((idx xs0 (0 : Int)).bind fun v36 => Res.ok (decide (v36 = (0 : Int)))).bind fun v37 => if v37 then (Res.ok (decide ((1 : Int) < (List.length xs0 : Int)))) else Res.ok false).bind fun v45 => if v45 then (((popAtR xs0 (1 : Int)).bind fun u43 => setR u43.2 (0 : Int) u43.1).bind fun xs44 => Res.ok xs44) else (Res.ok xs0)).bind fun b41 => (((idx b41 (0 : Int)).bind fun v46 => Res.ok v46).bind fun v47 => need (0 < a.x) (Res.ok (v47 % a.x))).bind fun digit_48 => ((((idx b41 (0 : Int)).bind fun v49 => need (CDiv v49 a.x) (Res.ok (v49 / a.x))).bind fun v50 => Res.ok (v50, b41)).bind fun u52 => setR u52.2 (0 : Int) u52.1).bind fun xs53 => Res.ok (digit_48, xs53)
abbrev s__law_take : Stmt := topS 15
theorem sc__law_take : FnScope ["pool", "many", "digit"] ["pool", "many"] (defScope s__law_take) := ⟨rfl, rfl, rfl, by decide +kernel, rfl, by decide +kernel, by decide +kernel⟩
theorem ok__law_take {f : Addr} {fd : FuncData} (Fu : Fun K "_law_take" "_law_take" s__law_take f fd) (z_int : mg "int" = none) (z_len : mg "len" = none) : FnOk P w K mg base CX0 1 f fd ["pool", "many"] (spI K mg m_law_take) := by
  refine def_I (τ := (Ar Int Unit)) (ρ := Int) (ι := Int) Fu sc__law_take (fun p a => [rf p, vl K mg a.x, none]) (fun vs R p a h => by
    obtain ⟨v0, w0, e0, h0, e1⟩ := h
    cases e1; cases e0
    exact ⟨rfl, .cons rfl (.cons h0 (.cons trivial (.nil)))⟩) (fun cdv A outer s H Av E p0 xs0 a hr => ?_)
  refine tT_cast (b_N (s_ifS (Sp2.mk : Sp2 (fun b : ((List Int)) => [rf p0, vl K mg (a.x : Int), none]) (fun b : ((List Int)) => ([ow K mg p0 (b : List Int)] : List Own))) (PW.pt (w_and (t_eq (n_idx (n_own 0 rfl List.mem_cons_self) (n_int (b := true))) (n_int (b := true))) (w_and1 (t_gt (n_len (b3 := true) (pe_callB call_len_seq (by rfl) z_len (by decide +kernel) (pa_cons (n_own 0 rfl List.mem_cons_self) pa_nil)) rfl) (n_int (b := true)))))) (n_N (s_sub 0 rfl (fun _ => List.nil_sublist _) (e_popAt 0 rfl (fun _ => List.nil_sublist _) (n_int (b := true)) (fun h1 h2 => pe_bm PySem.F.plainAttrs_list PySem.F.slot_list_pop PySem.F.type_list_pop mt_popAt h1 h2)) (fun xs42 => (n_int (b := true)))) (fun xs44 => (n_end xs44 ⟨.inr rfl, .inr rfl, .inl rfl, trivial⟩ (List.Sublist.cons₂ _ (List.nil_sublist _))))) (n_end xs0 ⟨.inr rfl, .inr rfl, .inl rfl, trivial⟩ (List.Sublist.cons₂ _ (List.nil_sublist _))) (List.nil_sublist _)) (fun b41 => (b_N (s_set 2 sc__law_take.nd (List.nil_sublist _) (n_mod (b3 := true) (n_int1 (b3 := true) (pe_callTy call_int1 (by rfl) z_int (by decide +kernel) (pa_cons (n_idx (n_own 0 rfl List.mem_cons_self) (n_int (b := true))) pa_nil)) rfl) (n_var 1))) (fun digit_48 => (b_N (s_sub 0 rfl (fun _ => List.nil_sublist _) (e_p (List.nil_sublist _) (n_fdiv (b3 := true) (n_idx (n_own 0 rfl List.mem_cons_self) (n_int (b := true))) (n_var 1))) (fun xs51 => (n_int (b := true)))) (fun xs53 => (b_retI (n_var 2) (List.Sublist.cons₂ _ (List.nil_sublist _)) (List.nil_sublist _)))))))) ?_
  simp only [Res.bind_ok]
  rfl

/-! ### _law_whole -/
def m_law_whole (a : (Ar PyData Unit)) : Res Bool :=
  (isT "int" (Ty.tyN a.x)).bind fun v55 => if v55 then ((isT "bool" (Ty.tyN a.x)).bind fun v54 => Res.ok (!v54)) else Res.ok false
abbrev s__law_whole : Stmt := topS 16
theorem sc__law_whole : FnScope ["thing"] ["thing"] (defScope s__law_whole) := ⟨rfl, rfl, rfl, by decide +kernel, rfl, by decide +kernel, by decide +kernel⟩
theorem ok__law_whole {f : Addr} {fd : FuncData} (Fu : Fun K "_law_whole" "_law_whole" s__law_whole f fd) (z_bool : mg "bool" = none) (z_int : mg "int" = none) (z_isinstance : mg "isinstance" = none) : FnOk P w K mg base CX0 1 f fd ["thing"] (spP K mg m_law_whole) := by
  refine def_P (τ := (Ar PyData Unit)) (ρ := Bool) Fu sc__law_whole (fun a => [vl K mg a.x]) (fun vs R a h => by
    obtain ⟨v0, w0, e0, h0, e1⟩ := h
    cases e1; cases e0
    exact ⟨rfl, .cons h0 (.nil)⟩) (fun cdv A outer s H Av E a hr => ?_)
  refine tT_cast (b_ret (n_and (b3 := true) (n_isi (b3 := true) (n := "int") (n_var 0) (by decide +kernel) z_int z_isinstance rfl rfl rfl rfl (by decide) (by decide) rfl rfl (fun h1 h2 => pe_callB h1 (by rfl) z_isinstance (by decide +kernel) h2)) (n_one (n_not (b3 := true) (n_isi (b3 := true) (n := "bool") (n_var 0) (by decide +kernel) z_bool z_isinstance rfl rfl rfl rfl (by decide) (by decide) rfl rfl (fun h1 h2 => pe_callB h1 (by rfl) z_isinstance (by decide +kernel) h2))))) (List.nil_sublist _)) ?_
  simp only [Res.bind_ok]
  rfl

theorem okH__law_whole {f : Addr} {fd : FuncData} (Fu : Fun K "_law_whole" "_law_whole" s__law_whole f fd) (z_bool : mg "bool" = none) (z_int : mg "int" = none) (z_isinstance : mg "isinstance" = none) : L2H.FnH P w K mg base CX0 1 f fd ["thing"] (spP K mg m_law_whole) := by
  refine def_PH (τ := (Ar PyData Unit)) (ρ := Bool) Fu sc__law_whole (fun a => [vl K mg a.x]) (fun vs R a h => by
    obtain ⟨v0, w0, e0, h0, e1⟩ := h
    cases e1; cases e0
    exact ⟨rfl, .cons h0 (.nil)⟩) (fun cdv A outer s H Av E p a hr => ?_)
  refine tT_cast (b_ret (n_and (b3 := true) (n_isi (b3 := true) (n := "int") (n_var 0) (by decide +kernel) z_int z_isinstance rfl rfl rfl rfl (by decide) (by decide) rfl rfl (fun h1 h2 => pe_callB h1 (by rfl) z_isinstance (by decide +kernel) h2)) (n_one (n_not (b3 := true) (n_isi (b3 := true) (n := "bool") (n_var 0) (by decide +kernel) z_bool z_isinstance rfl rfl rfl rfl (by decide) (by decide) rfl rfl (fun h1 h2 => pe_callB h1 (by rfl) z_isinstance (by decide +kernel) h2))))) (List.nil_sublist _)) ?_
  simp only [Res.bind_ok]
  rfl

/-! ### _law_power -/
def m_law_power (a : (Ar Int Unit)) : Res Int :=
  (let power_56 := (0 : Int)
  ((need (Rg62 (24 : Int)) (Res.ok (irange 0 (24 : Int)))).bind fun v66 => foldR (fun (a57 : Int) (b58 : (Int × Int)) => (if (decide ((2 : Int) ≤ b58.1)) then ((need (CDiv b58.1 (2 : Int)) (Res.ok (b58.1 / (2 : Int)))).bind fun span_64 => (let power_65 := (b58.2 + (1 : Int))
  Res.ok (span_64, power_65))) else (Res.ok (b58.1, b58.2))).bind fun b63 => Res.ok (b63.1, b63.2)) v66 (a.x, power_56)).bind fun b60 => Res.ok b60.2)
abbrev s__law_power : Stmt := topS 17
theorem sc__law_power : FnScope ["span", "power", "k"] ["span"] (defScope s__law_power) := ⟨rfl, rfl, rfl, by decide +kernel, rfl, by decide +kernel, by decide +kernel⟩
theorem ok__law_power {f : Addr} {fd : FuncData} (Fu : Fun K "_law_power" "_law_power" s__law_power f fd) (z_range : mg "range" = none) : FnOk P w K mg base CX0 1 f fd ["span"] (spP K mg m_law_power) := by
  refine def_P (τ := (Ar Int Unit)) (ρ := Int) Fu sc__law_power (fun a => [vl K mg a.x, none, none]) (fun vs R a h => by
    obtain ⟨v0, w0, e0, h0, e1⟩ := h
    cases e1; cases e0
    exact ⟨rfl, .cons h0 (.cons trivial (.cons trivial (.nil)))⟩) (fun cdv A outer s H Av E a hr => ?_)
  refine tT_cast (b_N (s_set 1 sc__law_power.nd (List.nil_sublist _) (n_int (b := true))) (fun power_56 => (b_N (s_for (Sp3.mk : Sp3 (fun b : (Int × Int) => [vl K mg (b.1 : Int), vl K mg (b.2 : Int), none]) (fun b : (Int × Int) => ([] : List Own)) (a.x, power_56)) PassesOwn.never rfl (i_range1 (b' := true) (n_int (b := true)) z_range) (tg_name 2 sc__law_power.nd) (List.nil_sublist _) ⟨.inr rfl, .inr rfl, .inl rfl, trivial⟩ (List.Sublist.refl _) (fun z59 a57 b58 => (n_N (s_ifS (Sp2.mk : Sp2 (fun b : (Int × Int) => [vl K mg (b.1 : Int), vl K mg (b.2 : Int), vl K mg (a57 : Int)]) (fun b : (Int × Int) => ([] : List Own))) (t_ge (n_var 0) (n_int (b := true))) (n_N (s_set 0 sc__law_power.nd (List.nil_sublist _) (n_fdiv (b3 := true) (n_var 0) (n_int (b := true)))) (fun span_64 => (n_N (s_set 1 sc__law_power.nd (List.nil_sublist _) (n_add (b3 := true) (n_var 1) (n_int (b := true)))) (fun power_65 => (n_end (span_64, power_65) ⟨.inr rfl, .inr rfl, .inr rfl, trivial⟩ (List.nil_sublist _)))))) (n_end (b58.1, b58.2) ⟨.inr rfl, .inr rfl, .inr rfl, trivial⟩ (List.nil_sublist _)) (List.nil_sublist _)) (fun b63 => (n_end (b63.1, b63.2) ⟨.inr rfl, .inr rfl, .inl rfl, trivial⟩ (List.nil_sublist _)))))) (fun b60 => (b_ret (n_var 1) (List.nil_sublist _)))))) ?_
  simp only [Res.bind_ok]
  rfl

/-! ### _law_row -/
def m_law_row (xs0 : List Int) (a : Unit) : Res ((List Int) × List Int) :=
  (m_law_take xs0 (Ar.mk (4 : Int) ())).bind fun kind_67 => ((need (List.length ((9 : Int) :: ((2 : Int) :: ((20 : Int) :: ((100000 : Int) :: [])))) ≤ sizeLine) (Res.ok ((9 : Int) :: ((2 : Int) :: ((20 : Int) :: ((100000 : Int) :: [])))))).bind fun v68 => idx v68 kind_67.1).bind fun gap_69 => ((((m_law_take kind_67.2 (Ar.mk (9 : Int) ())).bind fun u75 => Res.ok (((2 : Int) + u75.1), u75.2)).bind fun u76 => Res.ok (u76.1, u76.2)).bind fun u78 => (need (0 < (9 : Int)) (Res.ok (u78.1 % (9 : Int)))).bind fun v79 => Res.ok (v79, u78.2)).bind fun many_80 => ((if (decide (kind_67.1 < (3 : Int))) then ((m_law_take many_80.2 (Ar.mk (16 : Int) ())).bind fun u83 => Res.ok ((decide (u83.1 = (15 : Int))), u83.2)) else Res.ok (false, many_80.2)).bind fun u93 => if u93.1 then (((m_law_take u93.2 (Ar.mk (21 : Int) ())).bind fun u91 => Res.ok (((100 : Int) + u91.1), u91.2)).bind fun many_92 => Res.ok (many_92.1, many_92.2)) else (Res.ok (many_80.1, u93.2))).bind fun b87 => ((((m_law_take b87.2 (Ar.mk gap_69 ())).bind fun u99 => Res.ok (((3 : Int) + u99.1), u99.2)).bind fun u100 => Res.ok (u100.1, u100.2)).bind fun u102 => (need (0 < gap_69) (Res.ok (u102.1 % gap_69))).bind fun v103 => Res.ok (v103, u102.2)).bind fun code_104 => (need (List.length ([] : List Int) ≤ sizeLine) (Res.ok ([] : List Int))).bind fun row_105 => ((need (Rg62 b87.1) (Res.ok (irange 0 b87.1))).bind fun v135 => foldR (fun (a107 : Int) (b108 : (Int × (List Int) × (List Int))) => (need (List.length b108.2.1 < sizeLine) (Res.ok (b108.2.1 ++ [b108.1]))).bind fun row_111 => (((((m_law_take b108.2.2 (Ar.mk gap_69 ())).bind fun u128 => Res.ok (((4 : Int) + u128.1), u128.2)).bind fun u129 => Res.ok (u129.1, u129.2)).bind fun u131 => (need (0 < gap_69) (Res.ok (u131.1 % gap_69))).bind fun v132 => Res.ok (v132, u131.2)).bind fun u133 => Res.ok (((b108.1 + (1 : Int)) + u133.1), u133.2)).bind fun code_134 => Res.ok (code_134.1, row_111, code_134.2)) v135 (code_104.1, row_105, code_104.2)).bind fun b110 => Res.ok (b110.2.1, b110.2.2)
abbrev s__law_row : Stmt := topS 18
theorem sc__law_row : FnScope ["pool", "kind", "gap", "many", "code", "row", "k"] ["pool"] (defScope s__law_row) := ⟨rfl, rfl, rfl, by decide +kernel, rfl, by decide +kernel, by decide +kernel⟩
theorem ok__law_row {f : Addr} {fd : FuncData} (Fu : Fun K "_law_row" "_law_row" s__law_row f fd) (D__law_take : DefAt P w K mg base CX0 1 "_law_take" ["pool", "many"] (spI K mg m_law_take)) (z_int : mg "int" = none) (z_range : mg "range" = none) : FnOk P w K mg base CX0 2 f fd ["pool"] (spI K mg m_law_row) := by
  refine def_I (τ := Unit) (ρ := (List Int)) (ι := Int) Fu sc__law_row (fun p a => [rf p, none, none, none, none, none, none]) (fun vs R p a h => by
    have e0 := h
    cases e0
    exact ⟨rfl, .cons rfl (.cons trivial (.cons trivial (.cons trivial (.cons trivial (.cons trivial (.cons trivial (.nil)))))))⟩) (fun cdv A outer s H Av E p0 xs0 a hr => ?_)
  refine tT_cast (b_N (s_setE 1 sc__law_row.nd (e_call 0 D__law_take (hr.mono (by decide)) rfl (ea_p (List.nil_sublist _) (a_cons (n_int (b := true)) a_nil)))) (fun kind_67 => (b_N (s_set 2 sc__law_row.nd (List.nil_sublist _) (n_idx (f_val (f_lst (l_cons (n_int (b := true)) (l_cons (n_int (b := true)) (l_cons (n_int (b := true)) (l_cons (n_int (b := true)) (l_nil (α := Int)))))))) (n_var 1))) (fun gap_69 => (b_N (s_setE 3 sc__law_row.nd (e_mod (b3 := true) (e_int1 (b3 := true) (pe_callTy call_int1 (by rfl) z_int (by decide +kernel) (pa_cons (e_add (b3 := true) (e_p (List.nil_sublist _) (n_int (b := true))) (fun xs74 => (e_call 0 D__law_take (hr.mono (by decide)) rfl (ea_p (List.nil_sublist _) (a_cons (n_int (b := true)) a_nil)))) (fun _ => List.nil_sublist _)) pa_nil)) rfl (fun _ => List.nil_sublist _)) (fun xs77 => (e_p (List.nil_sublist _) (n_int (b := true)))) (fun _ => List.nil_sublist _))) (fun many_80 => (b_N (se_if (Sp2.mk : Sp2 (fun b : (Int × (List Int)) => [rf p0, vl K mg (kind_67.1 : Int), vl K mg (gap_69 : Int), vl K mg (b.1 : Int), none, none, none]) (fun b : (Int × (List Int)) => ([ow K mg p0 (b.2 : List Int)] : List Own))) (PW.pt (ew_and (eb_p (List.nil_sublist _) (t_lt (n_var 1) (n_int (b := true)))) (fun xs81 => (ew_and1 (et_eq (e_call 0 D__law_take (hr.mono (by decide)) rfl (ea_p (List.nil_sublist _) (a_cons (n_int (b := true)) a_nil))) (fun xs82 => (e_p (List.nil_sublist _) (n_int (b := true)))) (fun _ => List.nil_sublist _)))))) (fun xs88 => (n_N (s_setE 3 sc__law_row.nd (e_add (b3 := true) (e_p (List.nil_sublist _) (n_int (b := true))) (fun xs90 => (e_call 0 D__law_take (hr.mono (by decide)) rfl (ea_p (List.nil_sublist _) (a_cons (n_int (b := true)) a_nil)))) (fun _ => List.nil_sublist _))) (fun many_92 => (n_end (many_92.1, many_92.2) ⟨.inr rfl, .inr rfl, .inr rfl, .inr rfl, .inl rfl, .inl rfl, .inl rfl, trivial⟩ (List.Sublist.cons₂ _ (List.nil_sublist _)))))) (fun xs89 => (n_end (many_80.1, xs89) ⟨.inr rfl, .inr rfl, .inr rfl, .inr rfl, .inl rfl, .inl rfl, .inl rfl, trivial⟩ (List.Sublist.cons₂ _ (List.nil_sublist _))))) (fun b87 => (b_N (s_setE 4 sc__law_row.nd (e_mod (b3 := true) (e_int1 (b3 := true) (pe_callTy call_int1 (by rfl) z_int (by decide +kernel) (pa_cons (e_add (b3 := true) (e_p (List.nil_sublist _) (n_int (b := true))) (fun xs98 => (e_call 0 D__law_take (hr.mono (by decide)) rfl (ea_p (List.nil_sublist _) (a_cons (n_var 2) a_nil)))) (fun _ => List.nil_sublist _)) pa_nil)) rfl (fun _ => List.nil_sublist _)) (fun xs101 => (e_p (List.nil_sublist _) (n_var 2))) (fun _ => List.nil_sublist _))) (fun code_104 => (b_Np (s_own 5 sc__law_row.nd (List.nil_sublist _) (f_lst (l_nil (α := Int)))) (fun row_105 p106 => (b_N (s_for (Sp3.mk : Sp3 (fun b : (Int × (List Int) × (List Int)) => [rf p0, vl K mg (kind_67.1 : Int), vl K mg (gap_69 : Int), vl K mg (b87.1 : Int), vl K mg (b.1 : Int), rf p106, none]) (fun b : (Int × (List Int) × (List Int)) => ([ow K mg p106 (b.2.1 : List Int), ow K mg p0 (b.2.2 : List Int)] : List Own)) (code_104.1, row_105, code_104.2)) PassesOwn.never rfl (i_range1 (b' := true) (n_var 3) z_range) (tg_name 6 sc__law_row.nd) (List.nil_sublist _) ⟨.inr rfl, .inr rfl, .inr rfl, .inr rfl, .inr rfl, .inr rfl, .inl rfl, trivial⟩ (List.Sublist.refl _) (fun z109 a107 b108 => (n_N (s_app 5 rfl (fun _ => List.nil_sublist _) (n_var 4) (fun h1 h2 => pe_bm PySem.F.plainAttrs_list PySem.F.slot_list_append PySem.F.type_list_append mt_append h1 h2)) (fun row_111 => (n_perm (List.Perm.swap _ _ _) (n_N (s_setE 4 sc__law_row.nd (e_add (b3 := true) (e_p (List.nil_sublist _) (n_add (b3 := true) (n_var 4) (n_int (b := true)))) (fun xs122 => (e_mod (b3 := true) (e_int1 (b3 := true) (pe_callTy call_int1 (by rfl) z_int (by decide +kernel) (pa_cons (e_add (b3 := true) (e_p (List.nil_sublist _) (n_int (b := true))) (fun xs127 => (e_call 0 D__law_take (hr.mono (by decide)) rfl (ea_p (List.nil_sublist _) (a_cons (n_var 2) a_nil)))) (fun _ => List.nil_sublist _)) pa_nil)) rfl (fun _ => List.nil_sublist _)) (fun xs130 => (e_p (List.nil_sublist _) (n_var 2))) (fun _ => List.nil_sublist _))) (fun _ => List.nil_sublist _))) (fun code_134 => (n_perm (List.Perm.swap _ _ _) (n_end (code_134.1, row_111, code_134.2) ⟨.inr rfl, .inr rfl, .inr rfl, .inr rfl, .inr rfl, .inr rfl, .inl rfl, trivial⟩ (List.Sublist.cons₂ _ (List.Sublist.cons₂ _ (List.nil_sublist _)))))))))))) (fun b110 => (b_retOI 5 rfl List.mem_cons_self (List.Sublist.cons _ (List.Sublist.cons₂ _ (List.nil_sublist _))) (.inr (List.Sublist.cons₂ _ (List.Sublist.cons₂ _ (List.nil_sublist _)))) (List.nil_sublist _)))))))))))))))) ?_
  simp only [Res.bind_ok]
  rfl

/-! ### _law_room -/
def m_law_room (xs0 : List Int) (a : (Ar (List Int) Unit)) : Res (Int × List Int) :=
  (((need (List.length ((-(1 : Int)) :: []) ≤ sizeLine) (Res.ok ((-(1 : Int)) :: []))).bind fun v136 => need (List.length v136 + List.length a.x ≤ sizeLine) (Res.ok (v136 ++ a.x))).bind fun v137 => idx v137 (-(1 : Int))).bind fun top_138 => (m_law_take xs0 (Ar.mk (4 : Int) ())).bind fun kind_139 => if (decide (kind_139.1 = (3 : Int))) then ((m_law_take kind_139.2 (Ar.mk (40 : Int) ())).bind fun u141 => Res.ok (((1000000 : Int) - u141.1), u141.2)) else (if (decide (kind_139.1 = (2 : Int))) then (Res.ok ((top_138 + (2 : Int)), kind_139.2)) else ((((((m_law_take kind_139.2 (Ar.mk (40 : Int) ())).bind fun u181 => Res.ok (((4 : Int) + u181.1), u181.2)).bind fun u182 => Res.ok (u182.1, u182.2)).bind fun u184 => (need (0 < (40 : Int)) (Res.ok (u184.1 % (40 : Int)))).bind fun v185 => Res.ok (v185, u184.2)).bind fun u186 => Res.ok (((top_138 + (1 : Int)) + u186.1), u186.2)).bind fun u187 => Res.ok ((if u187.1 > (1 : Int) then u187.1 else (1 : Int)), u187.2)))
abbrev s__law_room : Stmt := topS 19
theorem sc__law_room : FnScope ["pool", "row", "top", "kind"] ["pool", "row"] (defScope s__law_room) := ⟨rfl, rfl, rfl, by decide +kernel, rfl, by decide +kernel, by decide +kernel⟩
theorem ok__law_room {f : Addr} {fd : FuncData} (Fu : Fun K "_law_room" "_law_room" s__law_room f fd) (D__law_take : DefAt P w K mg base CX0 1 "_law_take" ["pool", "many"] (spI K mg m_law_take)) (z_int : mg "int" = none) (z_max : mg "max" = none) : FnOk P w K mg base CX0 2 f fd ["pool", "row"] (spI K mg m_law_room) := by
  refine def_I (τ := (Ar (List Int) Unit)) (ρ := Int) (ι := Int) Fu sc__law_room (fun p a => [rf p, vl K mg a.x, none, none]) (fun vs R p a h => by
    obtain ⟨v0, w0, e0, h0, e1⟩ := h
    cases e1; cases e0
    exact ⟨rfl, .cons rfl (.cons h0 (.cons trivial (.cons trivial (.nil))))⟩) (fun cdv A outer s H Av E p0 xs0 a hr => ?_)
  refine tT_cast (b_N (s_set 2 sc__law_room.nd (List.nil_sublist _) (n_idx (f_val (f_cat (f_val (f_lst (l_cons (n_neg (b3 := true) (n_int (b := true))) (l_nil (α := Int))))) (n_var 1))) (n_neg (b3 := true) (n_int (b := true))))) (fun top_138 => (b_N (s_setE 3 sc__law_room.nd (e_call 0 D__law_take (hr.mono (by decide)) rfl (ea_p (List.nil_sublist _) (a_cons (n_int (b := true)) a_nil)))) (fun kind_139 => (b_if (t_eq (n_var 3) (n_int (b := true))) (b_retE (e_sub (b3 := true) (e_p (List.nil_sublist _) (n_int (b := true))) (fun xs140 => (e_call 0 D__law_take (hr.mono (by decide)) rfl (ea_p (List.nil_sublist _) (a_cons (n_int (b := true)) a_nil)))) (fun _ => List.nil_sublist _))) (b_if (t_eq (n_var 3) (n_int (b := true))) (b_retI (n_add (b3 := true) (n_var 2) (n_int (b := true))) (List.Sublist.cons₂ _ (List.nil_sublist _)) (List.nil_sublist _)) (b_retE (e_max2 (b3 := true) (pe_callB (call_max2 rfl) (by rfl) z_max (by decide +kernel) (pa_cons (e_p (List.nil_sublist _) (n_int (b := true))) (pa_cons (pe_ex fun xs164 => (e_add (b3 := true) (e_p (List.nil_sublist _) (n_add (b3 := true) (n_var 2) (n_int (b := true)))) (fun xs175 => (e_mod (b3 := true) (e_int1 (b3 := true) (pe_callTy call_int1 (by rfl) z_int (by decide +kernel) (pa_cons (e_add (b3 := true) (e_p (List.nil_sublist _) (n_int (b := true))) (fun xs180 => (e_call 0 D__law_take (hr.mono (by decide)) rfl (ea_p (List.nil_sublist _) (a_cons (n_int (b := true)) a_nil)))) (fun _ => List.nil_sublist _)) pa_nil)) rfl (fun _ => List.nil_sublist _)) (fun xs183 => (e_p (List.nil_sublist _) (n_int (b := true)))) (fun _ => List.nil_sublist _))) (fun _ => List.nil_sublist _))) pa_nil))) rfl (fun _ => List.nil_sublist _))) (List.nil_sublist _)) (List.nil_sublist _)))))) ?_
  simp only [Res.bind_ok]
  rfl

/-! ### _law_spans -/
def m_law_spans (a : (Ar (List Int) (Ar Int Unit))) : Res (List Int) :=
  (((need (List.length ((-(1 : Int)) :: []) ≤ sizeLine) (Res.ok ((-(1 : Int)) :: []))).bind fun v188 => need (List.length v188 + List.length a.x ≤ sizeLine) (Res.ok (v188 ++ a.x))).bind fun v189 => (need (List.length (a.r.x :: []) ≤ sizeLine) (Res.ok (a.r.x :: []))).bind fun v190 => need (List.length v189 + List.length v190 ≤ sizeLine) (Res.ok (v189 ++ v190))).bind fun ends_191 => (need (Rg62 ((List.length a.x : Int) + (1 : Int))) (Res.ok (irange 0 ((List.length a.x : Int) + (1 : Int))))).bind fun v197 => need (List.length v197 ≤ sizeLine) (filtR (fun (a192 : Int) => Res.quiet (Res.ok true)) (fun (a192 : Int) => Res.quiet ((idx ends_191 (a192 + (1 : Int))).bind fun v195 => (idx ends_191 a192).bind fun v196 => Res.ok (v195 - v196))) v197)
abbrev s__law_spans : Stmt := topS 20
theorem sc__law_spans : FnScope ["row", "room", "ends", "k"] ["row", "room"] (defScope s__law_spans) := ⟨rfl, rfl, rfl, by decide +kernel, rfl, by decide +kernel, by decide +kernel⟩
theorem ok__law_spans {f : Addr} {fd : FuncData} (Fu : Fun K "_law_spans" "_law_spans" s__law_spans f fd) (z_len : mg "len" = none) (z_range : mg "range" = none) : FnOk P w K mg base CX0 1 f fd ["row", "room"] (spF K mg m_law_spans) := by
  refine def_F (τ := (Ar (List Int) (Ar Int Unit))) (α := Int) Fu sc__law_spans (fun a => [vl K mg a.x, vl K mg a.r.x, none, none]) (fun vs R a h => by
    obtain ⟨v0, w0, e0, h0, v1, w1, e1, h1, e2⟩ := h
    cases e2; cases e1; cases e0
    exact ⟨rfl, .cons h0 (.cons h1 (.cons trivial (.cons trivial (.nil))))⟩) (fun cdv A outer s H Av E a hr => ?_)
  refine tT_cast (b_N (s_set 2 sc__law_spans.nd (List.nil_sublist _) (f_val (f_cat (f_val (f_cat (f_val (f_lst (l_cons (n_neg (b3 := true) (n_int (b := true))) (l_nil (α := Int))))) (n_var 0))) (f_val (f_lst (l_cons (n_var 1) (l_nil (α := Int)))))))) (fun ends_191 => (b_retF (f_lcf (own := [("k", 3)]) rfl sc__law_spans.nd (i_range1 (b' := true) (n_add (b3 := true) (n_len (b3 := true) (pe_callB call_len_seq (by rfl) z_len (by decide +kernel) (pa_cons (n_var 0) pa_nil)) rfl) (n_int (b := true))) z_range) (.inl rfl) (blkOk_by (N := ["row", "room", "ends", "k"]) (sc := defScope s__law_spans) (by decide +kernel)) (tgok_name 3) (fun _ _ _ _ _ => (tg_name 3 sc__law_spans.nd)) (fun _ _ _ _ _ a192 D193 ds194 => ts_nil) (fun _ _ _ _ _ a192 D193 ds194 => (n_sub (b3 := true) (n_idx (n_var 2) (n_add (b3 := true) (n_var 3) (n_int (b := true)))) (n_idx (n_var 2) (n_var 3))))) (List.nil_sublist _)))) ?_
  simp only [Res.bind_ok]
  rfl

/-! ### _law_ranks -/
def m_law_ranks (xs0 : List Int) (a : (Ar (List Int) (Ar Int (Ar Int Unit)))) : Res ((List Int) × List Int) :=
  (let codes_198 := a.x
  (let stuck_200 := false
  (need (List.length ([] : List Int) ≤ sizeLine) (Res.ok ([] : List Int))).bind fun ranks_201 => ((need (Rg62 a.r.r.x) (Res.ok (irange 0 a.r.r.x))).bind fun v225 => foldR (fun (a203 : Int) (b204 : (Bool × (List Int) × (List Int) × (List Int))) => (m_law_take b204.2.1 (Ar.mk ((List.length b204.2.2.2 : Int) + (1 : Int)) ())).bind fun rank_207 => (need (List.length b204.2.2.1 < sizeLine) (Res.ok (b204.2.2.1 ++ [rank_207.1]))).bind fun ranks_208 => ((m_law_spans (Ar.mk b204.2.2.2 (Ar.mk a.r.x ()))).bind fun v209 => idx v209 rank_207.1).bind fun span_210 => (if b204.1 then Res.ok true else (Res.ok (decide (span_210 < (2 : Int))))).bind fun stuck_211 => (if (!stuck_211) then ((((((need (List.length ((-(1 : Int)) :: []) ≤ sizeLine) (Res.ok ((-(1 : Int)) :: []))).bind fun v219 => need (List.length v219 + List.length b204.2.2.2 ≤ sizeLine) (Res.ok (v219 ++ b204.2.2.2))).bind fun v220 => idx v220 rank_207.1).bind fun v221 => (need (CDiv span_210 (2 : Int)) (Res.ok (span_210 / (2 : Int)))).bind fun v222 => Res.ok (v221 + v222)).bind fun v223 => need (List.length b204.2.2.2 < sizeLine ∧ Ps63 rank_207.1) (Res.ok (List.take (rank_207.1).toNat b204.2.2.2 ++ [v223] ++ List.drop (rank_207.1).toNat b204.2.2.2))).bind fun codes_224 => Res.ok codes_224) else (Res.ok b204.2.2.2)).bind fun b218 => Res.ok (stuck_211, rank_207.2, ranks_208, b218)) v225 (stuck_200, xs0, ranks_201, codes_198)).bind fun b206 => Res.ok (b206.2.2.1, b206.2.1)))
abbrev s__law_ranks : Stmt := topS 21
theorem sc__law_ranks : FnScope ["pool", "row", "room", "count", "codes", "stuck", "ranks", "k", "rank", "span"] ["pool", "row", "room", "count"] (defScope s__law_ranks) := ⟨rfl, rfl, rfl, by decide +kernel, rfl, by decide +kernel, by decide +kernel⟩
theorem ok__law_ranks {f : Addr} {fd : FuncData} (Fu : Fun K "_law_ranks" "_law_ranks" s__law_ranks f fd) (D__law_take : DefAt P w K mg base CX0 1 "_law_take" ["pool", "many"] (spI K mg m_law_take)) (D__law_spans : DefAt P w K mg base CX0 1 "_law_spans" ["row", "room"] (spF K mg m_law_spans)) (z_len : mg "len" = none) (z_list : mg "list" = none) (z_range : mg "range" = none) : FnOk P w K mg base CX0 2 f fd ["pool", "row", "room", "count"] (spI K mg m_law_ranks) := by
  refine def_I (τ := (Ar (List Int) (Ar Int (Ar Int Unit)))) (ρ := (List Int)) (ι := Int) Fu sc__law_ranks (fun p a => [rf p, vl K mg a.x, vl K mg a.r.x, vl K mg a.r.r.x, none, none, none, none, none, none]) (fun vs R p a h => by
    obtain ⟨v0, w0, e0, h0, v1, w1, e1, h1, v2, w2, e2, h2, e3⟩ := h
    cases e3; cases e2; cases e1; cases e0
    exact ⟨rfl, .cons rfl (.cons h0 (.cons h1 (.cons h2 (.cons trivial (.cons trivial (.cons trivial (.cons trivial (.cons trivial (.cons trivial (.nil))))))))))⟩) (fun cdv A outer s H Av E p0 xs0 a hr => ?_)
  refine tT_cast (b_Np (s_own 4 sc__law_ranks.nd (List.nil_sublist _) (f_list (pe_callTy call_list_of (by rfl) z_list (by decide +kernel) (pa_cons (n_var 1) pa_nil)) rfl)) (fun codes_198 p199 => (b_N (s_set 5 sc__law_ranks.nd (List.nil_sublist _) (n_bl (b := true))) (fun stuck_200 => (b_Np (s_own 6 sc__law_ranks.nd (List.nil_sublist _) (f_lst (l_nil (α := Int)))) (fun ranks_201 p202 => (b_N (s_for (Sp3.mk : Sp3 (fun b : (Bool × (List Int) × (List Int) × (List Int)) => [rf p0, vl K mg (a.x : (List Int)), vl K mg (a.r.x : Int), vl K mg (a.r.r.x : Int), rf p199, vl K mg (b.1 : Bool), rf p202, none, none, none]) (fun b : (Bool × (List Int) × (List Int) × (List Int)) => ([ow K mg p202 (b.2.2.1 : List Int), ow K mg p199 (b.2.2.2 : List Int), ow K mg p0 (b.2.1 : List Int)] : List Own)) (stuck_200, xs0, ranks_201, codes_198)) PassesOwn.never rfl (i_range1 (b' := true) (n_var 3) z_range) (tg_name 7 sc__law_ranks.nd) (List.nil_sublist _) ⟨.inr rfl, .inr rfl, .inr rfl, .inr rfl, .inr rfl, .inr rfl, .inr rfl, .inl rfl, .inl rfl, .inl rfl, trivial⟩ (List.Sublist.refl _) (fun z205 a203 b204 => (n_perm (((List.Perm.swap _ _ _).trans (List.Perm.swap _ _ _)).trans ((List.Perm.cons _ (List.Perm.swap _ _ _)).trans (List.Perm.swap _ _ _))) (n_N (s_setE 8 sc__law_ranks.nd (e_call 0 D__law_take (hr.mono (by decide)) rfl (ea_p (List.nil_sublist _) (a_cons (n_add (b3 := true) (n_len (b3 := true) (pe_callB call_len_seq (by rfl) z_len (by decide +kernel) (pa_cons (n_own 4 rfl (List.mem_cons_of_mem _ (List.mem_cons_of_mem _ List.mem_cons_self))) pa_nil)) rfl) (n_int (b := true))) a_nil)))) (fun rank_207 => (n_perm ((((List.Perm.cons _ (List.Perm.swap _ _ _)).trans (List.Perm.swap _ _ _)).trans (List.Perm.swap _ _ _)).trans ((List.Perm.cons _ (List.Perm.swap _ _ _)).trans (List.Perm.swap _ _ _))) (n_N (s_app 6 rfl (fun _ => List.nil_sublist _) (n_var 8) (fun h1 h2 => pe_bm PySem.F.plainAttrs_list PySem.F.slot_list_append PySem.F.type_list_append mt_append h1 h2)) (fun ranks_208 => (n_N (s_set 9 sc__law_ranks.nd (List.nil_sublist _) (n_idx (f_val (f_strong (b := false) (b' := true) (fd_call D__law_spans (hr.mono (by decide)) (a_cons (n_own 4 rfl (List.mem_cons_of_mem _ (List.mem_cons_of_mem _ List.mem_cons_self))) (a_cons (weak (n_var 2)) a_nil))))) (n_var 8))) (fun span_210 => (n_N (s_set 5 sc__law_ranks.nd (List.nil_sublist _) (n_or (b3 := true) (n_var 5) (n_one (n_lt (b3 := true) (n_var 9) (n_int (b := true)))))) (fun stuck_211 => (n_N (s_ifS (Sp2.mk : Sp2 (fun b : ((List Int)) => [rf p0, vl K mg (a.x : (List Int)), vl K mg (a.r.x : Int), vl K mg (a.r.r.x : Int), rf p199, vl K mg (stuck_211 : Bool), rf p202, vl K mg (a203 : Int), vl K mg (rank_207.1 : Int), vl K mg (span_210 : Int)]) (fun b : ((List Int)) => ([ow K mg p202 (ranks_208 : List Int), ow K mg p0 (rank_207.2 : List Int), ow K mg p199 (b : List Int)] : List Own))) (t_not (t_val (n_var 5))) (n_perm (((List.Perm.swap _ _ _).trans (List.Perm.swap _ _ _)).trans ((List.Perm.cons _ (List.Perm.swap _ _ _)).trans (List.Perm.swap _ _ _))) (n_N (s_ins (b := true) 4 rfl (List.nil_sublist _) (n_var 8) (n_add (b3 := true) (n_idx (f_val (f_strong (b := false) (b' := true) (f_cat (weak (f_val (f_lst (l_cons (n_neg (b3 := true) (n_int (b := true))) (l_nil (α := Int)))))) (n_own 4 rfl List.mem_cons_self)))) (n_var 8)) (n_fdiv (b3 := true) (n_var 9) (n_int (b := true)))) (fun h0 h1 h2 => pe_bm PySem.F.plainAttrs_list PySem.F.slot_list_insert PySem.F.type_list_insert h0 h1 h2)) (fun codes_224 => (n_perm (((List.Perm.cons _ (List.Perm.swap _ _ _)).trans (List.Perm.swap _ _ _)).trans ((List.Perm.cons _ (List.Perm.swap _ _ _)).trans (List.Perm.swap _ _ _))) (n_end codes_224 ⟨.inr rfl, .inr rfl, .inr rfl, .inr rfl, .inr rfl, .inr rfl, .inr rfl, .inr rfl, .inr rfl, .inr rfl, trivial⟩ (List.Sublist.cons₂ _ (List.Sublist.cons₂ _ (List.Sublist.cons₂ _ (List.nil_sublist _))))))))) (n_end b204.2.2.2 ⟨.inr rfl, .inr rfl, .inr rfl, .inr rfl, .inr rfl, .inr rfl, .inr rfl, .inr rfl, .inr rfl, .inr rfl, trivial⟩ (List.Sublist.cons₂ _ (List.Sublist.cons₂ _ (List.Sublist.cons₂ _ (List.nil_sublist _))))) (List.nil_sublist _)) (fun b218 => (n_perm (((List.Perm.swap _ _ _).trans ((List.Perm.cons _ (List.Perm.swap _ _ _)).trans (List.Perm.swap _ _ _))).trans ((List.Perm.cons _ (List.Perm.swap _ _ _)).trans (List.Perm.swap _ _ _))) (n_end (stuck_211, rank_207.2, ranks_208, b218) ⟨.inr rfl, .inr rfl, .inr rfl, .inr rfl, .inr rfl, .inr rfl, .inr rfl, .inl rfl, .inl rfl, .inl rfl, trivial⟩ (List.Sublist.cons₂ _ (List.Sublist.cons₂ _ (List.Sublist.cons₂ _ (List.nil_sublist _)))))))))))))))))))) (fun b206 => (b_retOI 6 rfl List.mem_cons_self (List.Sublist.cons _ (List.Sublist.cons _ (List.Sublist.cons₂ _ (List.nil_sublist _)))) (.inr (List.Sublist.cons₂ _ (List.Sublist.cons _ (List.Sublist.cons₂ _ (List.nil_sublist _))))) (List.nil_sublist _)))))))))) ?_
  simp only [Res.bind_ok]
  rfl

/-! ### _law_placed -/
def m_law_placed (a : (Ar (List Int) (Ar Int (Ar (List Int) Unit)))) : Res Int :=
  (let codes_226 := a.x
  goOn ((need (Rg62 (List.length a.r.r.x : Int)) (Res.ok (irange 0 (List.length a.r.r.x : Int)))).bind fun v241 => foldM (fun (a228 : Int) (b229 : ((List Int))) => (idx a.r.r.x a228).bind fun rank_232 => ((m_law_spans (Ar.mk b229 (Ar.mk a.r.x ()))).bind fun v233 => idx v233 rank_232).bind fun span_234 => if (decide (span_234 < (2 : Int))) then ((Res.ok a228).bind fun d => Res.ok (Sum.inr d)) else ((((((need (List.length ((-(1 : Int)) :: []) ≤ sizeLine) (Res.ok ((-(1 : Int)) :: []))).bind fun v235 => need (List.length v235 + List.length b229 ≤ sizeLine) (Res.ok (v235 ++ b229))).bind fun v236 => idx v236 rank_232).bind fun v237 => (need (CDiv span_234 (2 : Int)) (Res.ok (span_234 / (2 : Int)))).bind fun v238 => Res.ok (v237 + v238)).bind fun v239 => need (List.length b229 < sizeLine ∧ Ps63 rank_232) (Res.ok (List.take (rank_232).toNat b229 ++ [v239] ++ List.drop (rank_232).toNat b229))).bind fun codes_240 => Res.ok (Sum.inl codes_240))) v241 codes_226) (fun b231 => Res.ok (List.length a.r.r.x : Int)))
abbrev s__law_placed : Stmt := topS 22
theorem sc__law_placed : FnScope ["row", "room", "ranks", "codes", "k", "rank", "span"] ["row", "room", "ranks"] (defScope s__law_placed) := ⟨rfl, rfl, rfl, by decide +kernel, rfl, by decide +kernel, by decide +kernel⟩
theorem ok__law_placed {f : Addr} {fd : FuncData} (Fu : Fun K "_law_placed" "_law_placed" s__law_placed f fd) (D__law_spans : DefAt P w K mg base CX0 1 "_law_spans" ["row", "room"] (spF K mg m_law_spans)) (z_len : mg "len" = none) (z_list : mg "list" = none) (z_range : mg "range" = none) : FnOk P w K mg base CX0 2 f fd ["row", "room", "ranks"] (spP K mg m_law_placed) := by
  refine def_P (τ := (Ar (List Int) (Ar Int (Ar (List Int) Unit)))) (ρ := Int) Fu sc__law_placed (fun a => [vl K mg a.x, vl K mg a.r.x, vl K mg a.r.r.x, none, none, none, none]) (fun vs R a h => by
    obtain ⟨v0, w0, e0, h0, v1, w1, e1, h1, v2, w2, e2, h2, e3⟩ := h
    cases e3; cases e2; cases e1; cases e0
    exact ⟨rfl, .cons h0 (.cons h1 (.cons h2 (.cons trivial (.cons trivial (.cons trivial (.cons trivial (.nil)))))))⟩) (fun cdv A outer s H Av E a hr => ?_)
  refine tT_cast (b_Np (s_own 3 sc__law_placed.nd (List.nil_sublist _) (f_list (pe_callTy call_list_of (by rfl) z_list (by decide +kernel) (pa_cons (n_var 0) pa_nil)) rfl)) (fun codes_226 p227 => (b_M (s_forM (Sp3.mk : Sp3 (fun b : ((List Int)) => [vl K mg (a.x : (List Int)), vl K mg (a.r.x : Int), vl K mg (a.r.r.x : (List Int)), rf p227, none, none, none]) (fun b : ((List Int)) => ([ow K mg p227 (b : List Int)] : List Own)) codes_226) PassesOwn.never rfl (i_range1 (b' := true) (n_len (b3 := true) (pe_callB call_len_seq (by rfl) z_len (by decide +kernel) (pa_cons (n_var 2) pa_nil)) rfl) z_range) (tg_name 4 sc__law_placed.nd) (List.nil_sublist _) ⟨.inr rfl, .inr rfl, .inr rfl, .inr rfl, .inl rfl, .inl rfl, .inl rfl, trivial⟩ (List.Sublist.refl _) (fun z230 a228 b229 => (m_N (s_set 5 sc__law_placed.nd (List.nil_sublist _) (n_idx (n_var 2) (n_var 4))) (fun rank_232 => (m_N (s_set 6 sc__law_placed.nd (List.nil_sublist _) (n_idx (f_val (f_strong (b := false) (b' := true) (fd_call D__law_spans (hr.mono (by decide)) (a_cons (n_own 3 rfl List.mem_cons_self) (a_cons (weak (n_var 1)) a_nil))))) (n_var 5))) (fun span_234 => (m_if (t_lt (n_var 6) (n_int (b := true))) (b_le (rV_le (.add (.refl _))) (b_ret (n_var 4) (List.nil_sublist _))) (m_N (s_ins (b := true) 3 rfl (List.nil_sublist _) (n_var 5) (n_add (b3 := true) (n_idx (f_val (f_strong (b := false) (b' := true) (f_cat (weak (f_val (f_lst (l_cons (n_neg (b3 := true) (n_int (b := true))) (l_nil (α := Int)))))) (n_own 3 rfl List.mem_cons_self)))) (n_var 5)) (n_fdiv (b3 := true) (n_var 6) (n_int (b := true)))) (fun h0 h1 h2 => pe_bm PySem.F.plainAttrs_list PySem.F.slot_list_insert PySem.F.type_list_insert h0 h1 h2)) (fun codes_240 => (m_end codes_240 ⟨.inr rfl, .inr rfl, .inr rfl, .inr rfl, .inl rfl, .inl rfl, .inl rfl, trivial⟩ (List.Sublist.cons₂ _ (List.nil_sublist _))))) (List.nil_sublist _)))))))) (fun b231 => (b_ret (n_len (b3 := true) (pe_callB call_len_seq (by rfl) z_len (by decide +kernel) (pa_cons (n_var 2) pa_nil)) rfl) (List.nil_sublist _)))))) ?_
  simp only [Res.bind_ok]
  rfl

/-! ### _law_place -/
def m_law_place (a : (Ar (List Int) (Ar Int (Ar Int Unit)))) : Res PyData :=
  ((need (List.length ((Sq.l a.x) :: ((Sq.t (Tp.mk a.x).xs) :: [])) ≤ sizeLine) (Res.ok ((Sq.l a.x) :: ((Sq.t (Tp.mk a.x).xs) :: [])))).bind fun v242 => (need (0 < (2 : Int)) (Res.ok (a.r.r.x % (2 : Int)))).bind fun v243 => idx v242 v243).bind fun handed_244 => goOn (tryR "NoPlace" ((m_place_comer (Ar.mk handed_244 (Ar.mk a.r.x (Ar.mk a.r.r.x ())))).bind fun code_249 => Res.ok (Sum.inl code_249)) (fun fs246 => (if true then (Res.ok (!false)) else Res.ok false).bind fun known_250 => (if known_250 then ((((xfR fs246 "rank").bind fun v252 => Res.ok (Ar.mk v252 ())).bind fun u253 => m_law_whole u253).bind fun v255 => if v255 then ((xfR fs246 "rank").bind fun v254 => need (shp v254 = true ∧ shp a.r.r.x = true) (Res.ok (eqD v254 a.r.r.x))) else Res.ok false) else Res.ok false).bind fun known_256 => ((if known_256 then (need (shp (Lk.its handed_244) = true ∧ shp a.x = true) (Res.ok (eqD (Lk.its handed_244) a.x))) else Res.ok false).bind fun v258 => if v258 then ((need (List.length ((PySem.Str.ofString "refused") :: []) ≤ sizeLine) (Res.ok (Tp.mk ((PySem.Str.ofString "refused") :: [])))).bind fun v257 => Res.ok (toD v257)) else (Res.ok (toD (-(2 : Int))))).bind fun d => Res.ok (Sum.inr d))) (fun b259 => (((m_law_whole (Ar.mk (toD b259) ())).bind fun v260 => Res.ok (!v260)).bind fun v261 => if v261 then Res.ok true else (need (shp (Lk.its handed_244) = true ∧ shp a.x = true) (Res.ok (!eqD (Lk.its handed_244) a.x)))).bind fun v262 => if v262 then (Res.ok (toD (-(2 : Int)))) else (Res.ok (toD b259)))
abbrev s__law_place : Stmt := topS 23
theorem sc__law_place : FnScope ["row", "room", "rank", "handed", "code", "e", "known"] ["row", "room", "rank"] (defScope s__law_place) := ⟨rfl, rfl, rfl, by decide +kernel, rfl, by decide +kernel, by decide +kernel⟩
theorem ok__law_place {f : Addr} {fd : FuncData} (Fu : Fun K "_law_place" "_law_place" s__law_place f fd) {C_NoPlace C_ColonnadeError C_BadCode : Addr} (D_place_comer : DefAt P w K mg base (L2N.CX P w) 3 "place_comer" ["row", "room", "rank"] (spX K mg m_place_comer)) (m_NoPlace : mg "NoPlace" = some (.ref C_NoPlace)) (m_ColonnadeError : mg "ColonnadeError" = some (.ref C_ColonnadeError)) (ec_NoPlace : ExcC K C_NoPlace) (k_NoPlace_ColonnadeError : PySem.W.kitOne K (.ref C_NoPlace) (.ref C_ColonnadeError) = some true) (m_BadCode : mg "BadCode" = some (.ref C_BadCode)) (k_NoPlace_BadCode : PySem.W.kitOne K (.ref C_NoPlace) (.ref C_BadCode) = some false) (xf_NoPlace : XfC K C_NoPlace) (nf_NoPlace_rank : PySem.W.findIn K (.ref C_NoPlace) "rank" = some none) (DH__law_whole : DefH P w K mg base 1 "_law_whole" ["thing"] (spP K mg m_law_whole)) (ex_NoPlace : PySem.W.exmOne K (.ref C_NoPlace) (.ref C_NoPlace) = some true) (D__law_whole : DefAt P w K mg base CX0 1 "_law_whole" ["thing"] (spP K mg m_law_whole)) (z_int : mg "int" = none) (z_isinstance : mg "isinstance" = none) (z_list : mg "list" = none) (z_tuple : mg "tuple" = none) : FnOk P w K mg base CX0 4 f fd ["row", "room", "rank"] (spP K mg m_law_place) := by
  refine def_P (τ := (Ar (List Int) (Ar Int (Ar Int Unit)))) (ρ := PyData) Fu sc__law_place (fun a => [vl K mg a.x, vl K mg a.r.x, vl K mg a.r.r.x, none, none, none, none]) (fun vs R a h => by
    obtain ⟨v0, w0, e0, h0, v1, w1, e1, h1, v2, w2, e2, h2, e3⟩ := h
    cases e3; cases e2; cases e1; cases e0
    exact ⟨rfl, .cons h0 (.cons h1 (.cons h2 (.cons trivial (.cons trivial (.cons trivial (.cons trivial (.nil)))))))⟩) (fun cdv A outer s H Av E a hr => ?_)
  refine tT_cast (b_N (s_set 3 sc__law_place.nd (List.nil_sublist _) (n_idx (f_val (f_lst (l_cons (n_sql (f_val (f_list (pe_callTy call_list_of (by rfl) z_list (by decide +kernel) (pa_cons (n_var 0) pa_nil)) rfl))) (l_cons (n_sqt (n_tupleOf (pe_callTy call_tuple_of (by rfl) z_tuple (by decide +kernel) (pa_cons (n_var 0) pa_nil)) rfl)) (l_nil (α := (Sq Int))))))) (n_mod (b3 := true) (n_int1 (b3 := true) (pe_callTy call_int1 (by rfl) z_int (by decide +kernel) (pa_cons (n_var 2) pa_nil)) rfl) (n_int (b := true))))) (fun handed_244 => (b_M (s_try (Lh := [vl K mg (a.x : (List Int)), vl K mg (a.r.x : Int), vl K mg (a.r.r.x : Int), vl K mg (handed_244 : (Sq Int)), none, none, none]) (L' := (fun b : (Int) => [vl K mg (a.x : (List Int)), vl K mg (a.r.x : Int), vl K mg (a.r.r.x : Int), vl K mg (handed_244 : (Sq Int)), vl K mg (b : Int), none, none])) (O' := (fun b : (Int) => ([] : List Own))) 5 m_NoPlace ex_NoPlace takes0N sc__law_place.nd noxd_nil (List.nil_sublist _) (fun _ => rfl) (fun _ _ _ tk245 => (m_N (s_set 4 sc__law_place.nd (List.nil_sublist _) (n_callX D_place_comer (hr.mono (by decide)) (TkX.to tk245 ⟨.inr rfl, .inr rfl, .inr rfl, .inr rfl, .inl rfl, .inl rfl, .inl rfl, trivial⟩ (List.Sublist.refl _)) (a_cons (n_var 3) (a_cons (n_var 1) (a_cons (n_var 2) a_nil))))) (fun code_249 => (m_end code_249 ⟨.inr rfl, .inr rfl, .inr rfl, .inr rfl, .inr rfl, .inl rfl, .inl rfl, trivial⟩ (List.nil_sublist _))))) (fun ae247 _ _ _ fs246 hz hd => (m_N (s_set 6 sc__law_place.nd (List.nil_sublist _) (n_and (b3 := true) (n_isE (b3 := true) (v := true) 5 ec_NoPlace hz hd rfl m_ColonnadeError k_NoPlace_ColonnadeError z_isinstance) (n_one (n_not (b3 := true) (n_isE (b3 := true) (v := false) 5 ec_NoPlace hz hd rfl m_BadCode k_NoPlace_BadCode z_isinstance))))) (fun known_250 => (m_N (s_set 6 sc__law_place.nd (List.nil_sublist _) (n_and (b3 := true) (n_var 6) (n_and (b3 := true) (nh_call DH__law_whole hz hd (hr.mono (by decide)) (a_cons (n_xf (b3 := true) 5 xf_NoPlace nf_NoPlace_rank hz hd rfl) a_nil)) (n_one (n_eqD (b3 := true) (n_xf (b3 := true) 5 xf_NoPlace nf_NoPlace_rank hz hd rfl) (n_var 2) hr.units))))) (fun known_256 => (m_T (b_le (rV_le (.add (.refl _))) (b_ret (n_if (PW.pt (w_and (t_val (n_var 6)) (w_and1 (t_eqD (f_val (f_list (pe_callTy call_list_of (by rfl) z_list (by decide +kernel) (pa_cons (n_var 3) pa_nil)) rfl)) (n_var 0) hr.units)))) (n_toD (n_tupN (l_cons (n_str (b := true)) (l_nil (α := Str))))) (n_toD (n_neg (b3 := true) (n_int (b := true))))) (List.nil_sublist _)))))))))) (fun b259 => (b_if (PW.pt (w_or (t_not (t_val (nd_call D__law_whole (hr.mono (by decide)) (a_cons (n_toD (n_var 4)) a_nil)))) (w_or1 (t_neD (f_val (f_list (pe_callTy call_list_of (by rfl) z_list (by decide +kernel) (pa_cons (n_var 3) pa_nil)) rfl)) (n_var 0) hr.units)))) (b_ret (n_toD (n_neg (b3 := true) (n_int (b := true)))) (List.nil_sublist _)) (b_ret (n_toD (n_var 4)) (List.nil_sublist _)) (List.nil_sublist _)))))) ?_
  simp only [Res.bind_ok]
  rfl

/-! ### _law_count -/
def m_law_count (a : (Ar (List Int) (Ar Int (Ar (List Int) Unit)))) : Res Int :=
  (let handed_263 := a.x
  (let copies_264 := a.r.r.x
  (m_comers_placed (Ar.mk (Sq.l handed_263) (Ar.mk a.r.x (Ar.mk copies_264 ())))).bind fun told_265 => ((need (shp handed_263 = true ∧ shp a.x = true) (Res.ok (!eqD handed_263 a.x))).bind fun v268 => if v268 then Res.ok true else ((need (shp copies_264 = true ∧ shp a.r.r.x = true) (Res.ok (!eqD copies_264 a.r.r.x))).bind fun v267 => if v267 then Res.ok true else ((m_law_whole (Ar.mk (toD told_265) ())).bind fun v266 => Res.ok (!v266)))).bind fun v273 => if v273 then (Res.ok (-(1 : Int))) else ((((m_comers_placed (Ar.mk (Sq.t (Tp.mk a.x).xs) (Ar.mk a.r.x (Ar.mk copies_264 ())))).bind fun v269 => need ((v269 : Int).natAbs.log2 < 1920) (Res.ok (PySem.Str.ofString (toString (v269 : Int))))).bind fun v270 => (need ((told_265 : Int).natAbs.log2 < 1920) (Res.ok (PySem.Str.ofString (toString (told_265 : Int))))).bind fun v271 => need (shp v270 = true ∧ shp v271 = true) (Res.ok (!eqD v270 v271))).bind fun v272 => if v272 then (Res.ok (-(1 : Int))) else (Res.ok told_265))))
abbrev s__law_count : Stmt := topS 24
theorem sc__law_count : FnScope ["row", "room", "ranks", "handed", "copies", "told"] ["row", "room", "ranks"] (defScope s__law_count) := ⟨rfl, rfl, rfl, by decide +kernel, rfl, by decide +kernel, by decide +kernel⟩
theorem ok__law_count {f : Addr} {fd : FuncData} (Fu : Fun K "_law_count" "_law_count" s__law_count f fd) (D_comers_placed : DefAt P w K mg base CX0 2 "comers_placed" ["row", "room", "ranks"] (spP K mg m_comers_placed)) (D__law_whole : DefAt P w K mg base CX0 1 "_law_whole" ["thing"] (spP K mg m_law_whole)) (z_list : mg "list" = none) (z_repr : mg "repr" = none) (z_tuple : mg "tuple" = none) : FnOk P w K mg base CX0 3 f fd ["row", "room", "ranks"] (spP K mg m_law_count) := by
  refine def_P (τ := (Ar (List Int) (Ar Int (Ar (List Int) Unit)))) (ρ := Int) Fu sc__law_count (fun a => [vl K mg a.x, vl K mg a.r.x, vl K mg a.r.r.x, none, none, none]) (fun vs R a h => by
    obtain ⟨v0, w0, e0, h0, v1, w1, e1, h1, v2, w2, e2, h2, e3⟩ := h
    cases e3; cases e2; cases e1; cases e0
    exact ⟨rfl, .cons h0 (.cons h1 (.cons h2 (.cons trivial (.cons trivial (.cons trivial (.nil))))))⟩) (fun cdv A outer s H Av E a hr => ?_)
  refine tT_cast (b_N (s_set 3 sc__law_count.nd (List.nil_sublist _) (f_val (f_list (pe_callTy call_list_of (by rfl) z_list (by decide +kernel) (pa_cons (n_var 0) pa_nil)) rfl))) (fun handed_263 => (b_N (s_set 4 sc__law_count.nd (List.nil_sublist _) (f_val (f_list (pe_callTy call_list_of (by rfl) z_list (by decide +kernel) (pa_cons (n_var 2) pa_nil)) rfl))) (fun copies_264 => (b_N (s_set 5 sc__law_count.nd (List.nil_sublist _) (nd_call D_comers_placed (hr.mono (by decide)) (a_cons (n_sql (n_var 3)) (a_cons (n_var 1) (a_cons (n_var 4) a_nil))))) (fun told_265 => (b_if (PW.pt (w_or (t_neD (n_var 3) (n_var 0) hr.units) (w_or (t_neD (n_var 4) (n_var 2) hr.units) (w_or1 (t_not (t_val (nd_call D__law_whole (hr.mono (by decide)) (a_cons (n_toD (n_var 5)) a_nil)))))))) (b_ret (n_neg (b3 := true) (n_int (b := true))) (List.nil_sublist _)) (b_if (t_neD (n_repr (b3 := true) (pe_callB SkE.call_repr_int (by rfl) z_repr (by decide +kernel) (pa_cons (nd_call D_comers_placed (hr.mono (by decide)) (a_cons (n_sqt (n_tupleOf (pe_callTy call_tuple_of (by rfl) z_tuple (by decide +kernel) (pa_cons (n_var 0) pa_nil)) rfl)) (a_cons (n_var 1) (a_cons (n_var 4) a_nil)))) pa_nil)) rfl) (n_repr (b3 := true) (pe_callB SkE.call_repr_int (by rfl) z_repr (by decide +kernel) (pa_cons (n_var 5) pa_nil)) rfl) hr.units) (b_ret (n_neg (b3 := true) (n_int (b := true))) (List.nil_sublist _)) (b_ret (n_var 5) (List.nil_sublist _)) (List.nil_sublist _)) (List.nil_sublist _)))))))) ?_
  simp only [Res.bind_ok]
  rfl

/-! ### _law_list -/
def m_law_list (a : (Ar (List Int) (Ar (List Int) Unit))) : Res Bool :=
  (((isT "list" (Ty.tyN a.x)).bind fun v274 => Res.ok (!v274)).bind fun v275 => if v275 then Res.ok true else (Res.ok (!decide ((List.length a.x : Int) = (List.length a.r.x : Int))))).bind fun v281 => if v281 then (Res.ok false) else ((need (shp a.x = true ∧ shp a.r.x = true) (Res.ok (eqD a.x a.r.x))).bind fun v280 => if v280 then ((need (List.length a.x ≤ sizeLine) (filtR (fun (a276 : Int) => Res.quiet (Res.ok true)) (fun (a276 : Int) => Res.quiet (m_law_whole (Ar.mk (toD a276) ()))) a.x)).bind fun v279 => Res.ok (List.all v279 id)) else Res.ok false)
abbrev s__law_list : Stmt := topS 25
theorem sc__law_list : FnScope ["told", "due", "thing"] ["told", "due"] (defScope s__law_list) := ⟨rfl, rfl, rfl, by decide +kernel, rfl, by decide +kernel, by decide +kernel⟩
theorem ok__law_list {f : Addr} {fd : FuncData} (Fu : Fun K "_law_list" "_law_list" s__law_list f fd) (D__law_whole : DefAt P w K mg base CX0 1 "_law_whole" ["thing"] (spP K mg m_law_whole)) (z_all : mg "all" = none) (z_isinstance : mg "isinstance" = none) (z_len : mg "len" = none) (z_list : mg "list" = none) : FnOk P w K mg base CX0 2 f fd ["told", "due"] (spP K mg m_law_list) := by
  refine def_P (τ := (Ar (List Int) (Ar (List Int) Unit))) (ρ := Bool) Fu sc__law_list (fun a => [vl K mg a.x, vl K mg a.r.x, none]) (fun vs R a h => by
    obtain ⟨v0, w0, e0, h0, v1, w1, e1, h1, e2⟩ := h
    cases e2; cases e1; cases e0
    exact ⟨rfl, .cons h0 (.cons h1 (.cons trivial (.nil)))⟩) (fun cdv A outer s H Av E a hr => ?_)
  refine tT_cast (b_if (PW.pt (w_or (t_not (t_val (n_isi (b3 := true) (n := "list") (n_var 0) (by decide +kernel) z_list z_isinstance rfl rfl rfl rfl (by decide) (by decide) rfl rfl (fun h1 h2 => pe_callB h1 (by rfl) z_isinstance (by decide +kernel) h2)))) (w_or1 (t_ne (n_len (b3 := true) (pe_callB call_len_seq (by rfl) z_len (by decide +kernel) (pa_cons (n_var 0) pa_nil)) rfl) (n_len (b3 := true) (pe_callB call_len_seq (by rfl) z_len (by decide +kernel) (pa_cons (n_var 1) pa_nil)) rfl))))) (b_ret (n_bl (b := true)) (List.nil_sublist _)) (b_ret (n_and (b3 := true) (n_eqD (b3 := true) (n_var 0) (n_var 1) hr.units) (n_one (n_all (b3 := true) (pe_callB (cr_all rfl) (by rfl) z_all (by decide +kernel) (pa_cons (f_val (f_lcf (own := [("thing", 2)]) rfl sc__law_list.nd (i_lk (n_var 0)) (.inl rfl) (blkOk_by (N := ["told", "due", "thing"]) (sc := defScope s__law_list) (by decide +kernel)) (tgok_name 2) (fun _ _ _ _ _ => (tg_name 2 sc__law_list.nd)) (fun _ _ _ _ _ a276 D277 ds278 => ts_nil) (fun _ _ _ _ _ a276 D277 ds278 => (nd_call D__law_whole (hr.mono (by decide)) (a_cons (n_toD (n_var 2)) a_nil))))) pa_nil)) rfl))) (List.nil_sublist _)) (List.nil_sublist _)) ?_
  simp only [Res.bind_ok]
  rfl

/-! ### law -/
def m_law (a : (Ar Scr Unit)) : Res Bool :=
  ((need (List.length ((0 : Int) :: []) ≤ sizeLine) (Res.ok ((0 : Int) :: []))).bind fun v285 => (need (List.length (cut a.x.ns none (some (63 : Int))) ≤ sizeLine) (filtR (fun (a282 : Int) => Res.quiet (Res.ok true)) (fun (a282 : Int) => Res.quiet (Res.ok (if a282 < 0 then -a282 else a282))) (cut a.x.ns none (some (63 : Int))))).bind fun v286 => need (List.length v285 + List.length v286 ≤ sizeLine) (Res.ok (v285 ++ v286))).bind fun pool_287 => (m_law_row pool_287 ()).bind fun row_289 => (m_law_room row_289.2 (Ar.mk row_289.1 ())).bind fun room_290 => (m_law_spans (Ar.mk row_289.1 (Ar.mk room_290.1 ()))).bind fun due_291 => (need (List.length due_291 ≤ sizeLine) (filtR (fun (a292 : Int) => Res.quiet (Res.ok true)) (fun (a292 : Int) => Res.quiet (m_law_power (Ar.mk a292 ()))) due_291)).bind fun powers_295 => (minR powers_295).bind fun sure_296 => (let handed_297 := row_289.1
  (m_spans (Ar.mk (Sq.l handed_297) (Ar.mk room_290.1 ()))).bind fun first_298 => ((m_law_list (Ar.mk first_298 (Ar.mk due_291 ()))).bind fun v300 => Res.ok (!v300)).bind fun v377 => if v377 then (Res.ok false) else ((need (List.length first_298 < sizeLine) (Res.ok (first_298 ++ [(1 : Int)]))).bind fun first_301 => ((((m_spans (Ar.mk (Sq.t (Tp.mk row_289.1).xs) (Ar.mk room_290.1 ()))).bind fun v303 => Res.ok (Ar.mk v303 (Ar.mk due_291 ()))).bind fun u304 => m_law_list u304).bind fun v305 => Res.ok (!v305)).bind fun v376 => if v376 then (Res.ok false) else ((m_withstands (Ar.mk (Sq.l handed_297) (Ar.mk room_290.1 ()))).bind fun told_306 => ((need (shp handed_297 = true ∧ shp row_289.1 = true) (Res.ok (!eqD handed_297 row_289.1))).bind fun v309 => if v309 then Res.ok true else (((m_law_whole (Ar.mk (toD told_306) ())).bind fun v307 => Res.ok (!v307)).bind fun v308 => if v308 then Res.ok true else (Res.ok (!decide (told_306 = sure_296))))).bind fun v375 => if v375 then (Res.ok false) else (goOn ((need (Rg62 (List.length due_291 : Int)) (Res.ok (irange 0 (List.length due_291 : Int)))).bind fun v335 => foldM (fun (a310 : Int) (b311 : Unit) => ((need (List.length ((PySem.Str.ofString "refused") :: []) ≤ sizeLine) (Res.ok (Tp.mk ((PySem.Str.ofString "refused") :: [])))).bind fun v314 => Res.ok (toD v314)).bind fun code_315 => (((idx due_291 a310).bind fun v316 => Res.ok (decide ((2 : Int) ≤ v316))).bind fun v332 => if v332 then ((((((need (List.length ((-(1 : Int)) :: []) ≤ sizeLine) (Res.ok ((-(1 : Int)) :: []))).bind fun v325 => need (List.length v325 + List.length row_289.1 ≤ sizeLine) (Res.ok (v325 ++ row_289.1))).bind fun v326 => idx v326 a310).bind fun v328 => ((idx due_291 a310).bind fun v327 => need (CDiv v327 (2 : Int)) (Res.ok (v327 / (2 : Int)))).bind fun v329 => Res.ok (v328 + v329)).bind fun v330 => Res.ok (toD v330)).bind fun code_331 => Res.ok code_331) else (Res.ok code_315)).bind fun b324 => ((m_law_place (Ar.mk row_289.1 (Ar.mk room_290.1 (Ar.mk a310 ())))).bind fun v333 => need (shp v333 = true ∧ shp b324 = true) (Res.ok (!eqD v333 b324))).bind fun v334 => if v334 then ((Res.ok false).bind fun d => Res.ok (Sum.inr d)) else (Res.ok (Sum.inl ()))) v335 ()) (fun b313 => ((((((m_law_take room_290.2 (Ar.mk (13 : Int) ())).bind fun u341 => Res.ok (((5 : Int) + u341.1), u341.2)).bind fun u342 => Res.ok (u342.1, u342.2)).bind fun u344 => (need (0 < (13 : Int)) (Res.ok (u344.1 % (13 : Int)))).bind fun v345 => Res.ok (v345, u344.2)).bind fun u347 => Res.ok (Ar.mk row_289.1 (Ar.mk room_290.1 (Ar.mk u347.1 ())), u347.2)).bind fun u348 => m_law_ranks u348.2 u348.1).bind fun ranks_349 => (m_law_placed (Ar.mk row_289.1 (Ar.mk room_290.1 (Ar.mk ranks_349.1 ())))).bind fun many_350 => ((m_law_count (Ar.mk row_289.1 (Ar.mk room_290.1 (Ar.mk ranks_349.1 ())))).bind fun v351 => Res.ok (!decide (v351 = many_350))).bind fun v374 => if v374 then (Res.ok false) else ((m_law_ranks ranks_349.2 (Ar.mk row_289.1 (Ar.mk room_290.1 (Ar.mk sure_296 ())))).bind fun ranks_352 => (m_law_placed (Ar.mk row_289.1 (Ar.mk room_290.1 (Ar.mk ranks_352.1 ())))).bind fun many_353 => (((m_law_count (Ar.mk row_289.1 (Ar.mk room_290.1 (Ar.mk ranks_352.1 ())))).bind fun v354 => Res.ok (!decide (v354 = many_353))).bind fun v355 => if v355 then Res.ok true else (Res.ok (!decide (many_353 = sure_296)))).bind fun v373 => if v373 then (Res.ok false) else ((m_breaking (Ar.mk (Sq.l handed_297) (Ar.mk room_290.1 ()))).bind fun last_356 => ((((indexR powers_295 sure_296).bind fun v358 => Res.ok (v358 :: [])).bind fun v359 => need (List.length v359 ≤ sizeLine) (Res.ok v359)).bind fun v360 => need (Rg63 (sure_296 + (1 : Int)) ∧ List.length v360 * ((sure_296 + (1 : Int))).toNat ≤ sizeLine) (Res.ok (List.replicate ((sure_296 + (1 : Int))).toNat v360).flatten)).bind fun due_361 => (((m_law_list (Ar.mk last_356 (Ar.mk due_361 ()))).bind fun v362 => Res.ok (!v362)).bind fun v363 => if v363 then Res.ok true else (need (shp handed_297 = true ∧ shp row_289.1 = true) (Res.ok (!eqD handed_297 row_289.1)))).bind fun v372 => if v372 then (Res.ok false) else ((m_law_placed (Ar.mk row_289.1 (Ar.mk room_290.1 (Ar.mk last_356 ())))).bind fun many_364 => (((m_law_count (Ar.mk row_289.1 (Ar.mk room_290.1 (Ar.mk last_356 ())))).bind fun v365 => Res.ok (!decide (v365 = many_364))).bind fun v366 => if v366 then Res.ok true else (Res.ok (!decide (many_364 = sure_296)))).bind fun v371 => if v371 then (Res.ok false) else ((need (List.length last_356 < sizeLine) (Res.ok (last_356 ++ [(0 : Int)]))).bind fun last_367 => (m_breaking (Ar.mk (Sq.t (Tp.mk row_289.1).xs) (Ar.mk room_290.1 ()))).bind fun again_368 => (m_law_list (Ar.mk again_368 (Ar.mk due_361 ()))).bind fun v370 => if v370 then ((m_withstands (Ar.mk (Sq.t (Tp.mk row_289.1).xs) (Ar.mk room_290.1 ()))).bind fun v369 => Res.ok (decide (v369 = sure_296))) else Res.ok false)))))))))
abbrev s_law : Stmt := topS 26
theorem sc_law : FnScope ["script", "pool", "row", "room", "due", "powers", "sure", "handed", "first", "told", "rank", "code", "ranks", "many", "last", "again", "cell", "span"] ["script"] (defScope s_law) := ⟨rfl, rfl, rfl, by decide +kernel, rfl, by decide +kernel, by decide +kernel⟩
theorem ok_law {f : Addr} {fd : FuncData} (Fu : Fun K "law" "law" s_law f fd) (D__law_row : DefAt P w K mg base CX0 2 "_law_row" ["pool"] (spI K mg m_law_row)) (D__law_room : DefAt P w K mg base CX0 2 "_law_room" ["pool", "row"] (spI K mg m_law_room)) (D__law_spans : DefAt P w K mg base CX0 1 "_law_spans" ["row", "room"] (spF K mg m_law_spans)) (D__law_power : DefAt P w K mg base CX0 1 "_law_power" ["span"] (spP K mg m_law_power)) (D_spans : DefAt P w K mg base CX0 1 "spans" ["row", "room"] (spF K mg m_spans)) (D__law_list : DefAt P w K mg base CX0 2 "_law_list" ["told", "due"] (spP K mg m_law_list)) (D_withstands : DefAt P w K mg base CX0 2 "withstands" ["row", "room"] (spP K mg m_withstands)) (D__law_whole : DefAt P w K mg base CX0 1 "_law_whole" ["thing"] (spP K mg m_law_whole)) (D__law_place : DefAt P w K mg base CX0 4 "_law_place" ["row", "room", "rank"] (spP K mg m_law_place)) (D__law_ranks : DefAt P w K mg base CX0 2 "_law_ranks" ["pool", "row", "room", "count"] (spI K mg m_law_ranks)) (D__law_take : DefAt P w K mg base CX0 1 "_law_take" ["pool", "many"] (spI K mg m_law_take)) (D__law_placed : DefAt P w K mg base CX0 2 "_law_placed" ["row", "room", "ranks"] (spP K mg m_law_placed)) (D__law_count : DefAt P w K mg base CX0 3 "_law_count" ["row", "room", "ranks"] (spP K mg m_law_count)) (D_breaking : DefAt P w K mg base CX0 4 "breaking" ["row", "room"] (spF K mg m_breaking)) (z_abs : mg "abs" = none) (z_int : mg "int" = none) (z_len : mg "len" = none) (z_list : mg "list" = none) (z_min : mg "min" = none) (z_range : mg "range" = none) (z_tuple : mg "tuple" = none) : FnOk P w K mg base CX0 5 f fd ["script"] (spP K mg m_law) := by
  refine def_P (τ := (Ar Scr Unit)) (ρ := Bool) Fu sc_law (fun a => [vl K mg a.x, none, none, none, none, none, none, none, none, none, none, none, none, none, none, none, none, none]) (fun vs R a h => by
    obtain ⟨v0, w0, e0, h0, e1⟩ := h
    cases e1; cases e0
    exact ⟨rfl, .cons h0 (.cons trivial (.cons trivial (.cons trivial (.cons trivial (.cons trivial (.cons trivial (.cons trivial (.cons trivial (.cons trivial (.cons trivial (.cons trivial (.cons trivial (.cons trivial (.cons trivial (.cons trivial (.cons trivial (.cons trivial (.nil))))))))))))))))))⟩) (fun cdv A outer s H Av E a hr => ?_)
  refine tT_cast (b_Np (s_own 1 sc_law.nd (List.nil_sublist _) (f_cat (f_val (f_lst (l_cons (n_int (b := true)) (l_nil (α := Int))))) (f_val (f_lcf (own := [("cell", 16)]) rfl sc_law.nd (i_lk (f_val (f_sliceS (n_var 0) o_none (o_some (n_int (b := true)))))) (.inl rfl) (blkOk_by (N := ["script", "pool", "row", "room", "due", "powers", "sure", "handed", "first", "told", "rank", "code", "ranks", "many", "last", "again", "cell", "span"]) (sc := defScope s_law) (by decide +kernel)) (tgok_name 16) (fun _ _ _ _ _ => (tg_name 16 sc_law.nd)) (fun _ _ _ _ _ a282 D283 ds284 => ts_nil) (fun _ _ _ _ _ a282 D283 ds284 => (n_abs (b3 := true) (pe_callB call_abs (by rfl) z_abs (by decide +kernel) (pa_cons (n_var 16) pa_nil)) rfl)))))) (fun pool_287 p288 => (b_N (s_setE 2 sc_law.nd (e_call 1 D__law_row (hr.mono (by decide)) rfl (ea_p (List.nil_sublist _) a_nil))) (fun row_289 => (b_N (s_setE 3 sc_law.nd (e_call 1 D__law_room (hr.mono (by decide)) rfl (ea_p (List.nil_sublist _) (a_cons (n_var 2) a_nil)))) (fun room_290 => (b_N (s_set 4 sc_law.nd (List.nil_sublist _) (f_val (fd_call D__law_spans (hr.mono (by decide)) (a_cons (n_var 2) (a_cons (n_var 3) a_nil))))) (fun due_291 => (b_N (s_setLc 5 (own := [("span", 17)]) rfl sc_law.nd (List.nil_sublist _) (i_lk (n_var 4)) (.inl rfl) (blkOk_by (N := ["script", "pool", "row", "room", "due", "powers", "sure", "handed", "first", "told", "rank", "code", "ranks", "many", "last", "again", "cell", "span"]) (sc := defScope s_law) (by decide +kernel)) (tgok_name 17) (fun _ _ _ _ _ => (tg_name 17 sc_law.nd)) (fun _ _ _ _ _ a292 D293 ds294 => ts_nil) (fun _ _ _ _ _ a292 D293 ds294 => (nd_call D__law_power (hr.mono (by decide)) (a_cons (n_var 17) a_nil)))) (fun powers_295 => (b_N (s_set 6 sc_law.nd (List.nil_sublist _) (n_min (b3 := true) (pe_callB (cr_min rfl) (by rfl) z_min (by decide +kernel) (pa_cons (n_var 5) pa_nil)) rfl)) (fun sure_296 => (b_N (s_set 7 sc_law.nd (List.nil_sublist _) (f_val (f_list (pe_callTy call_list_of (by rfl) z_list (by decide +kernel) (pa_cons (n_var 2) pa_nil)) rfl))) (fun handed_297 => (b_Np (s_own 8 sc_law.nd (List.nil_sublist _) (fd_call D_spans (hr.mono (by decide)) (a_cons (n_sql (n_var 7)) (a_cons (n_var 3) a_nil)))) (fun first_298 p299 => (b_if (t_not (t_val (nd_call D__law_list (hr.mono (by decide)) (a_cons (n_own 8 rfl List.mem_cons_self) (a_cons (weak (n_var 4)) a_nil))))) (b_ret (n_bl (b := true)) (List.nil_sublist _)) (b_N (s_app 8 rfl (fun _ => List.nil_sublist _) (n_int (b := true)) (fun h1 h2 => pe_bm PySem.F.plainAttrs_list PySem.F.slot_list_append PySem.F.type_list_append mt_append h1 h2)) (fun first_301 => (b_if (t_not (t_val (nd_call D__law_list (hr.mono (by decide)) (a_cons (f_val (fd_call D_spans (hr.mono (by decide)) (a_cons (n_sqt (n_tupleOf (pe_callTy call_tuple_of (by rfl) z_tuple (by decide +kernel) (pa_cons (n_var 2) pa_nil)) rfl)) (a_cons (n_var 3) a_nil)))) (a_cons (n_var 4) a_nil))))) (b_ret (n_bl (b := true)) (List.nil_sublist _)) (b_N (s_set 9 sc_law.nd (List.nil_sublist _) (nd_call D_withstands (hr.mono (by decide)) (a_cons (n_sql (n_var 7)) (a_cons (n_var 3) a_nil)))) (fun told_306 => (b_if (PW.pt (w_or (t_neD (n_var 7) (n_var 2) hr.units) (w_or (t_not (t_val (nd_call D__law_whole (hr.mono (by decide)) (a_cons (n_toD (n_var 9)) a_nil)))) (w_or1 (t_ne (n_var 9) (n_var 6)))))) (b_ret (n_bl (b := true)) (List.nil_sublist _)) (b_M (s_forM (Sp3.mk : Sp3 (fun b : Unit => [vl K mg (a.x : Scr), rf p288, vl K mg (row_289.1 : (List Int)), vl K mg (room_290.1 : Int), vl K mg (due_291 : (List Int)), vl K mg (powers_295 : (List Int)), vl K mg (sure_296 : Int), vl K mg (handed_297 : (List Int)), rf p299, vl K mg (told_306 : Int), none, none, none, none, none, none, none, none]) (fun b : Unit => ([ow K mg p299 (first_301 : List Int), ow K mg p288 (room_290.2 : List Int)] : List Own)) ()) PassesOwn.never rfl (i_range1 (b' := true) (n_len (b3 := true) (pe_callB call_len_seq (by rfl) z_len (by decide +kernel) (pa_cons (n_var 4) pa_nil)) rfl) z_range) (tg_name 10 sc_law.nd) (List.nil_sublist _) ⟨.inr rfl, .inr rfl, .inr rfl, .inr rfl, .inr rfl, .inr rfl, .inr rfl, .inr rfl, .inr rfl, .inr rfl, .inl rfl, .inl rfl, .inl rfl, .inl rfl, .inl rfl, .inl rfl, .inl rfl, .inl rfl, trivial⟩ (List.Sublist.refl _) (fun z312 a310 b311 => (m_N (s_set 11 sc_law.nd (List.nil_sublist _) (n_toD (n_tupN (l_cons (n_str (b := true)) (l_nil (α := Str)))))) (fun code_315 => (m_N (s_ifS (Sp2.mk : Sp2 (fun b : (PyData) => [vl K mg (a.x : Scr), rf p288, vl K mg (row_289.1 : (List Int)), vl K mg (room_290.1 : Int), vl K mg (due_291 : (List Int)), vl K mg (powers_295 : (List Int)), vl K mg (sure_296 : Int), vl K mg (handed_297 : (List Int)), rf p299, vl K mg (told_306 : Int), vl K mg (a310 : Int), vl K mg (b : PyData), none, none, none, none, none, none]) (fun b : (PyData) => ([ow K mg p299 (first_301 : List Int), ow K mg p288 (room_290.2 : List Int)] : List Own))) (t_ge (n_idx (n_var 4) (n_var 10)) (n_int (b := true))) (n_N (s_set 11 sc_law.nd (List.nil_sublist _) (n_toD (n_add (b3 := true) (n_idx (f_val (f_cat (f_val (f_lst (l_cons (n_neg (b3 := true) (n_int (b := true))) (l_nil (α := Int))))) (n_var 2))) (n_var 10)) (n_fdiv (b3 := true) (n_idx (n_var 4) (n_var 10)) (n_int (b := true)))))) (fun code_331 => (n_end code_331 ⟨.inr rfl, .inr rfl, .inr rfl, .inr rfl, .inr rfl, .inr rfl, .inr rfl, .inr rfl, .inr rfl, .inr rfl, .inr rfl, .inr rfl, .inl rfl, .inl rfl, .inl rfl, .inl rfl, .inl rfl, .inl rfl, trivial⟩ (List.Sublist.cons₂ _ (List.Sublist.cons₂ _ (List.nil_sublist _)))))) (n_end code_315 ⟨.inr rfl, .inr rfl, .inr rfl, .inr rfl, .inr rfl, .inr rfl, .inr rfl, .inr rfl, .inr rfl, .inr rfl, .inr rfl, .inr rfl, .inl rfl, .inl rfl, .inl rfl, .inl rfl, .inl rfl, .inl rfl, trivial⟩ (List.Sublist.cons₂ _ (List.Sublist.cons₂ _ (List.nil_sublist _)))) (List.nil_sublist _)) (fun b324 => (m_if (t_neD (nd_call D__law_place (hr.mono (by decide)) (a_cons (n_var 2) (a_cons (n_var 3) (a_cons (n_var 10) a_nil)))) (n_var 11) hr.units) (b_le (rV_le (.add (.refl _))) (b_ret (n_bl (b := true)) (List.nil_sublist _))) (m_end () ⟨.inr rfl, .inr rfl, .inr rfl, .inr rfl, .inr rfl, .inr rfl, .inr rfl, .inr rfl, .inr rfl, .inr rfl, .inl rfl, .inl rfl, .inl rfl, .inl rfl, .inl rfl, .inl rfl, .inl rfl, .inl rfl, trivial⟩ (List.Sublist.cons₂ _ (List.Sublist.cons₂ _ (List.nil_sublist _)))) (List.nil_sublist _)))))))) (fun b313 => (b_perm (List.Perm.swap _ _ _) (b_N (s_setE 12 sc_law.nd (e_call 1 D__law_ranks (hr.mono (by decide)) rfl (ea_consP (List.nil_sublist _) (n_var 2) (ea_consP (List.nil_sublist _) (n_var 3) (ea_cons (e_mod (b3 := true) (e_int1 (b3 := true) (pe_callTy call_int1 (by rfl) z_int (by decide +kernel) (pa_cons (e_add (b3 := true) (e_p (List.nil_sublist _) (n_int (b := true))) (fun xs340 => (e_call 1 D__law_take (hr.mono (by decide)) rfl (ea_p (List.nil_sublist _) (a_cons (n_int (b := true)) a_nil)))) (fun _ => List.nil_sublist _)) pa_nil)) rfl (fun _ => List.nil_sublist _)) (fun xs343 => (e_p (List.nil_sublist _) (n_int (b := true)))) (fun _ => List.nil_sublist _)) (fun xs346 => (ea_p (List.nil_sublist _) a_nil))))))) (fun ranks_349 => (b_N (s_set 13 sc_law.nd (List.nil_sublist _) (nd_call D__law_placed (hr.mono (by decide)) (a_cons (n_var 2) (a_cons (n_var 3) (a_cons (n_var 12) a_nil))))) (fun many_350 => (b_if (t_ne (nd_call D__law_count (hr.mono (by decide)) (a_cons (n_var 2) (a_cons (n_var 3) (a_cons (n_var 12) a_nil)))) (n_var 13)) (b_ret (n_bl (b := true)) (List.nil_sublist _)) (b_N (s_setE 12 sc_law.nd (e_call 1 D__law_ranks (hr.mono (by decide)) rfl (ea_p (List.nil_sublist _) (a_cons (n_var 2) (a_cons (n_var 3) (a_cons (n_var 6) a_nil)))))) (fun ranks_352 => (b_N (s_set 13 sc_law.nd (List.nil_sublist _) (nd_call D__law_placed (hr.mono (by decide)) (a_cons (n_var 2) (a_cons (n_var 3) (a_cons (n_var 12) a_nil))))) (fun many_353 => (b_if (PW.pt (w_or (t_ne (nd_call D__law_count (hr.mono (by decide)) (a_cons (n_var 2) (a_cons (n_var 3) (a_cons (n_var 12) a_nil)))) (n_var 13)) (w_or1 (t_ne (n_var 13) (n_var 6))))) (b_ret (n_bl (b := true)) (List.nil_sublist _)) (b_Np (s_own 14 sc_law.nd (List.nil_sublist _) (fd_call D_breaking (hr.mono (by decide)) (a_cons (n_sql (n_var 7)) (a_cons (n_var 3) a_nil)))) (fun last_356 p357 => (b_N (s_set 4 sc_law.nd (List.nil_sublist _) (f_val (f_rep (f_val (f_lst (l_cons (n_index (b3 := true) (n_var 5) (n_var 6) (fun h1 h2 => pe_bm PySem.F.plainAttrs_list PySem.F.slot_list_index PySem.F.type_list_index mt_index h1 h2)) (l_nil (α := Int))))) (n_add (b3 := true) (n_var 6) (n_int (b := true)))))) (fun due_361 => (b_if (PW.pt (w_or (t_not (t_val (nd_call D__law_list (hr.mono (by decide)) (a_cons (n_own 14 rfl List.mem_cons_self) (a_cons (weak (n_var 4)) a_nil))))) (w_or1 (t_neD (n_var 7) (n_var 2) hr.units)))) (b_ret (n_bl (b := true)) (List.nil_sublist _)) (b_N (s_set 13 sc_law.nd (List.nil_sublist _) (strong (b := false) (nd_call D__law_placed (hr.mono (by decide)) (a_cons (weak (n_var 2)) (a_cons (weak (n_var 3)) (a_cons (n_own 14 rfl List.mem_cons_self) a_nil)))))) (fun many_364 => (b_if (PW.pt (w_or (t_ne (nd_call D__law_count (hr.mono (by decide)) (a_cons (weak (n_var 2)) (a_cons (weak (n_var 3)) (a_cons (n_own 14 rfl List.mem_cons_self) a_nil)))) (n_var 13)) (w_or1 (t_ne (n_var 13) (n_var 6))))) (b_ret (n_bl (b := true)) (List.nil_sublist _)) (b_N (s_app 14 rfl (fun _ => List.nil_sublist _) (n_int (b := true)) (fun h1 h2 => pe_bm PySem.F.plainAttrs_list PySem.F.slot_list_append PySem.F.type_list_append mt_append h1 h2)) (fun last_367 => (b_N (s_set 15 sc_law.nd (List.nil_sublist _) (f_val (fd_call D_breaking (hr.mono (by decide)) (a_cons (n_sqt (n_tupleOf (pe_callTy call_tuple_of (by rfl) z_tuple (by decide +kernel) (pa_cons (n_var 2) pa_nil)) rfl)) (a_cons (n_var 3) a_nil))))) (fun again_368 => (b_ret (n_and (b3 := true) (nd_call D__law_list (hr.mono (by decide)) (a_cons (n_var 15) (a_cons (n_var 4) a_nil))) (n_one (n_eq (b3 := true) (nd_call D_withstands (hr.mono (by decide)) (a_cons (n_sqt (n_tupleOf (pe_callTy call_tuple_of (by rfl) z_tuple (by decide +kernel) (pa_cons (n_var 2) pa_nil)) rfl)) (a_cons (n_var 3) a_nil))) (n_var 6)))) (List.nil_sublist _)))))) (List.nil_sublist _)))) (List.nil_sublist _)))))) (List.nil_sublist _)))))) (List.nil_sublist _))))))))) (List.nil_sublist _)))) (List.nil_sublist _)))) (List.nil_sublist _)))))))))))))))))) ?_
  unfold m_law
  simp only [Res.bind_ok, Res.bind_assoc]
  rfl

end
end K12
set_option Elab.async false
set_option linter.all false
/-! M12: the mathematics of k12. -/
namespace K12
open PySem PySem.Spec PyProof.Rows L2 NF
open NF.Data (toD)
theorem need_ok {α : Type} {p : Prop} [Decidable p] {m : Res α} (h : p) : need p m = m := by unfold need; rw [if_pos h]
theorem filtR_ok {α β : Type} {f : α → Res β} {g : α → β} : ∀ {as : List α}, (∀ a ∈ as, f a = .ok (g a)) → filtR (fun _ => Res.ok true) f as = .ok (as.map g)
  | [], _ => rfl
  | a :: as, h => by
    rw [filtR_yes]
    show ((f a).bind fun y => (mapR f as).bind fun ys => .ok (y :: ys)) = _
    rw [h a List.mem_cons_self, ← filtR_yes, filtR_ok (fun b hb => h b (List.mem_cons_of_mem _ hb))]
    rfl
theorem idx_nat {α : Type} {xs : List α} {k : Nat} {a : α} (h : xs[k]? = some a) : idx xs (k : Int) = .ok a := by
  unfold idx
  rw [atI_nat (j := k) h]
theorem sl : sizeLine = 10000000 ∨ 100000 ≤ sizeLine := by rw [sizeLine_eq]; decide
/-! the spans -/
def dif : List Int → List Int
  | a :: b :: r => (b - a) :: dif (b :: r)
  | _ => []
theorem dif_len : ∀ xs : List Int, (dif xs).length = xs.length - 1
  | [] => rfl
  | [_] => rfl
  | a :: b :: r => by show (dif (b :: r)).length + 1 = _; rw [dif_len (b :: r)]; simp
theorem dif_zip : ∀ xs : List Int, (xs.zip xs.tail).map (fun p => p.2 - p.1) = dif xs
  | [] => rfl
  | [_] => rfl
  | a :: b :: r => by
    show (b - a) :: (((b :: r).zip (b :: r).tail).map fun p => p.2 - p.1) = (b - a) :: dif (b :: r)
    rw [dif_zip (b :: r)]
theorem dif_get : ∀ (xs : List Int) (k : Nat) (a b : Int), xs[k]? = some a → xs[k + 1]? = some b → (dif xs)[k]? = some (b - a)
  | [], _, _, _, h, _ => by simp at h
  | [_], 0, _, _, _, h => by simp at h
  | [_], k + 1, _, _, h, _ => by simp at h
  | x :: y :: r, 0, a, b, h, h2 => by
    simp at h h2
    subst h h2
    rfl
  | x :: y :: r, k + 1, a, b, h, h2 => dif_get (y :: r) k a b (by simpa using h) (by simpa using h2)
def ends (row : List Int) (room : Int) : List Int := -1 :: (row ++ [room])
def spn (row : List Int) (room : Int) : List Int := dif (ends row room)
theorem ends_len (row : List Int) (room : Int) : (ends row room).length = row.length + 2 := by unfold ends; simp
theorem spn_len (row : List Int) (room : Int) : (spn row room).length = row.length + 1 := by unfold spn; rw [dif_len, ends_len]; rfl
theorem cut1 {α : Type} (xs : List α) : cut xs (some 1) none = xs.tail := by
  unfold cut
  rw [show HT.sIx xs.length 0 (some 1) = min 1 xs.length from HT.sIx_nat xs.length 0 1, HT.sIx_none]
  cases xs with
  | nil => rfl
  | cons x r =>
    rw [show min 1 (x :: r).length = 1 by rw [List.length_cons]; omega]
    show List.take ((x :: r).length - 1) r = r
    rw [List.length_cons, Nat.add_sub_cancel, List.take_length]
theorem spans_ok (s : Sq Int) (room : Int) (h : (Lk.its s).length ≤ 1000) : m_spans ⟨s, ⟨room, ()⟩⟩ = .ok (spn (Lk.its s) room) := by
  have hs : 100000 ≤ sizeLine := by rw [sizeLine_eq]; decide
  unfold m_spans
  have hl : (-1 :: (Lk.its s ++ [room]) : List Int).length ≤ sizeLine := by simp; omega
  rw [need_ok hl, Res.bind_ok, cut1, need_ok (by rw [List.length_zip]; exact Nat.le_trans (Nat.min_le_left _ _) hl)]
  show filtR (fun _ => Res.ok true) (fun a5 : Int × Int => Res.ok (a5.2 - a5.1)) _ = _
  rw [filtR_ok (g := fun a5 : Int × Int => a5.2 - a5.1) (fun _ _ => rfl), dif_zip]
  rfl
theorem lspans_ok (row : List Int) (room : Int) (h : row.length ≤ 1000) : m_law_spans ⟨row, ⟨room, ()⟩⟩ = .ok (spn row room) := by
  have hs : 100000 ≤ sizeLine := by rw [sizeLine_eq]; decide
  unfold m_law_spans
  dsimp only
  rw [need_ok (by simp; omega), Res.bind_ok, need_ok (by simp; omega), Res.bind_ok, need_ok (by simp; omega), Res.bind_ok, need_ok (by simp; omega), Res.bind_ok, need_ok (by unfold Rg62; omega), Res.bind_ok, need_ok (by rw [irange_len]; omega)]
  show filtR (fun _ => Res.ok true) _ _ = _
  have key : ∀ a ∈ irange 0 ((row.length : Int) + 1), Res.quiet ((idx ([-1] ++ row ++ [room]) (a + 1)).bind fun v195 => (idx ([-1] ++ row ++ [room]) a).bind fun v196 => Res.ok (v195 - v196)) = .ok ((spn row room).getD a.toNat 0) := by
    intro a ha
    unfold irange at ha
    obtain ⟨k, hk, e⟩ := List.mem_map.mp ha
    have hk' : k < row.length + 1 := by
      have := List.mem_range.mp hk
      omega
    subst e
    have e0 : ([-1] ++ row ++ [room] : List Int) = ends row room := rfl
    have l1 : k < (ends row room).length := by rw [ends_len]; omega
    have l2 : k + 1 < (ends row room).length := by rw [ends_len]; omega
    have g1 := List.getElem?_eq_getElem l1
    have g2 := List.getElem?_eq_getElem l2
    rw [e0, show ((0 : Int) + (k : Int) + 1) = ((k + 1 : Nat) : Int) by omega, idx_nat g2, Res.bind_ok, show ((0 : Int) + (k : Int)) = (k : Int) by omega, idx_nat g1, Res.bind_ok]
    have g3 := dif_get _ _ _ _ g1 g2
    show Res.ok _ = Res.ok _
    rw [Int.toNat_natCast, List.getD_eq_getElem?_getD, show (spn row room)[k]? = _ from g3]
    rfl
  rw [filtR_ok (g := fun a => (spn row room).getD a.toNat 0) key]
  congr 1
  unfold irange
  rw [List.map_map]
  apply List.ext_getElem
  · simp [spn_len]
  · intro n h1 h2
    simp only [List.getElem_map, List.getElem_range, Function.comp]
    rw [show ((0 : Int) + (n : Int)).toNat = n by omega, List.getD_eq_getElem?_getD, List.getElem?_eq_getElem h2]
    rfl
/-! the pool -/
theorem idx0 {α : Type} (x : α) (r : List α) : idx (x :: r) 0 = .ok x := idx_nat (k := 0) rfl
theorem ixN0 (n : Nat) (h : 0 < n) : ixN n 0 = some 0 := by
  unfold ixN
  rw [if_pos (by omega), if_pos (by omega)]
  rfl
theorem setR0 (x y : Int) (r : List Int) : setR (x :: r) 0 y = .ok (y :: r) := by
  unfold setR
  rw [ixN0 _ (by simp)]
  rfl
theorem take_ok {pool : List Int} (h : pool ≠ []) {m : Int} (h0 : 0 < m) (h1 : m < 2 ^ 30) : ∃ d p, m_law_take pool ⟨m, ()⟩ = .ok (d, p) ∧ 0 ≤ d ∧ d < m ∧ p ≠ [] := by
  have fin : ∀ (y : Int) (r : List Int), ((((idx (y :: r) (0 : Int)).bind fun v46 => Res.ok v46).bind fun v47 => need (0 < m) (Res.ok (v47 % m))).bind fun digit_48 => ((((idx (y :: r) (0 : Int)).bind fun v49 => need (CDiv v49 m) (Res.ok (v49 / m))).bind fun v50 => Res.ok (v50, (y :: r))).bind fun u52 => setR u52.2 (0 : Int) u52.1).bind fun xs53 => Res.ok (digit_48, xs53)) = .ok (y % m, (y / m) :: r) := by
    intro y r
    rw [idx0, Res.bind_ok, Res.bind_ok, need_ok h0, Res.bind_ok, Res.bind_ok, need_ok (by unfold CDiv; omega), Res.bind_ok, Res.bind_ok, setR0]
    rfl
  cases pool with
  | nil => exact absurd rfl h
  | cons x r =>
    unfold m_law_take
    dsimp only
    rw [idx0, Res.bind_ok, Res.bind_ok]
    cases r with
    | nil =>
      have e : (if decide (x = 0) = true then Res.ok (decide ((1 : Int) < ([x].length : Int))) else Res.ok false) = Res.ok false := by
        split <;> rfl
      rw [e, Res.bind_ok, if_neg (by decide), Res.bind_ok, fin]
      exact ⟨_, _, rfl, Int.emod_nonneg _ (by omega), Int.emod_lt_of_pos _ h0, by simp⟩
    | cons y r =>
      by_cases hx : x = 0
      · subst hx
        have e : decide ((1 : Int) < (((0 : Int) :: y :: r).length : Int)) = true := by simp; omega
        rw [if_pos (by decide), e, Res.bind_ok, if_pos rfl]
        have e2 : popAtR ((0 : Int) :: y :: r) 1 = .ok (y, 0 :: r) := by
          unfold popAtR
          rw [show seqIndex? 1 ((0 : Int) :: y :: r).length = some 1 by unfold seqIndex?; simp; omega]
          show need (Rg63 1) _ = _
          rw [need_ok (by unfold Rg63; omega)]
          rfl
        rw [e2, Res.bind_ok, setR0, Res.bind_ok, Res.bind_ok, fin]
        exact ⟨_, _, rfl, Int.emod_nonneg _ (by omega), Int.emod_lt_of_pos _ h0, by simp⟩
      · have e : (if decide (x = 0) = true then Res.ok (decide ((1 : Int) < ((x :: y :: r).length : Int))) else Res.ok false) = Res.ok false := by
          rw [if_neg (by simpa using hx)]
        rw [e, Res.bind_ok, if_neg (by decide), Res.bind_ok, fin]
        exact ⟨_, _, rfl, Int.emod_nonneg _ (by omega), Int.emod_lt_of_pos _ h0, by simp⟩
/-! the row: strictly going up from 0 -/
def Up : Int → List Int → Prop
  | _, [] => True
  | lo, x :: r => lo < x ∧ Up x r
def top : Int → List Int → Int
  | lo, [] => lo
  | _, x :: r => top x r
theorem up_snoc : ∀ {lo : Int} {r : List Int} {x : Int}, Up lo r → top lo r < x → Up lo (r ++ [x])
  | _, [], _, _, h => ⟨h, trivial⟩
  | _, _ :: _, _, h, h2 => ⟨h.1, up_snoc h.2 h2⟩
theorem top_snoc : ∀ {lo : Int} {r : List Int} {x : Int}, top lo (r ++ [x]) = x
  | _, [], _ => rfl
  | _, _ :: r, _ => top_snoc (r := r)
/-- code after a turn: at most gap further on -/
theorem row_loop {gap : Int} (g0 : 0 < gap) (g1 : gap < 2 ^ 30) : ∀ (as : List Int) (code : Int) (row p : List Int), p ≠ [] → Up (-1) row → top (-1) row < code → row.length + as.length ≤ 1000 →
    ∃ code' row' p', foldR (fun (a107 : Int) (b108 : (Int × (List Int) × (List Int))) => (need (List.length b108.2.1 < sizeLine) (Res.ok (b108.2.1 ++ [b108.1]))).bind fun row_111 => (((((m_law_take b108.2.2 (Ar.mk gap ())).bind fun u128 => Res.ok (((4 : Int) + u128.1), u128.2)).bind fun u129 => Res.ok (u129.1, u129.2)).bind fun u131 => (need (0 < gap) (Res.ok (u131.1 % gap))).bind fun v132 => Res.ok (v132, u131.2)).bind fun u133 => Res.ok (((b108.1 + (1 : Int)) + u133.1), u133.2)).bind fun code_134 => Res.ok (code_134.1, row_111, code_134.2)) as (code, row, p) = .ok (code', row', p') ∧
      p' ≠ [] ∧ Up (-1) row' ∧ top (-1) row' < code' ∧ row'.length = row.length + as.length ∧ code' ≤ code + gap * as.length ∧ (as ≠ [] → top (-1) row' + 1 ≤ code + gap * (as.length - 1) + 1)
  | [], code, row, p, hp, hu, ht, hl => ⟨code, row, p, rfl, hp, hu, ht, by simp, by simp, fun z => absurd rfl z⟩
  | a :: as, code, row, p, hp, hu, ht, hl => by
    have hs : 100000 ≤ sizeLine := by rw [sizeLine_eq]; decide
    obtain ⟨d, p1, e1, d0, d1, hp1⟩ := take_ok hp g0 g1
    have m0 := Int.emod_nonneg (4 + d) (show gap ≠ 0 by omega)
    have m1 := Int.emod_lt_of_pos (4 + d) g0
    have hl' : (row ++ [code]).length + as.length ≤ 1000 := by simp at hl ⊢; omega
    obtain ⟨c', r', p', e2, q1, q2, q3, q4, q5, q6⟩ := row_loop g0 g1 as (code + 1 + (4 + d) % gap) (row ++ [code]) p1 hp1 (up_snoc hu ht) (by rw [top_snoc]; omega) hl'
    refine ⟨c', r', p', ?_, q1, q2, q3, by rw [q4]; simp; omega, ?_, fun _ => ?_⟩
    · rw [← e2]
      show Res.bind _ _ = _
      dsimp only
      rw [need_ok (by simp at hl; omega), Res.bind_ok, e1, Res.bind_ok, Res.bind_ok, Res.bind_ok, need_ok g0, Res.bind_ok, Res.bind_ok, Res.bind_ok]
      rfl
    · rw [List.length_cons]
      have : gap * ((as.length + 1 : Nat) : Int) = gap * as.length + gap := by push_cast; rw [Int.mul_add]; omega
      omega
    · have e3 : gap * (((a :: as).length : Int) - 1) = gap * as.length := by rw [List.length_cons]; congr 1; omega
      rw [e3]
      by_cases hz : as = []
      · subst hz
        cases e2
        rw [top_snoc]
        simp
      · have := q6 hz
        have e4 : gap * ((as.length : Int) - 1) = gap * as.length - gap := by rw [Int.mul_sub]; omega
        omega
end K12

set_option Elab.async false
set_option linter.all false
namespace K12
open PySem PySem.Spec PyProof.Rows L2 NF
open NF.Data (toD)
theorem row_ok {pool : List Int} (h : pool ≠ []) : ∃ row p, m_law_row pool () = .ok (row, p) ∧ p ≠ [] ∧ Up (-1) row ∧ row.length ≤ 120 ∧ top (-1) row ≤ 900000 := by
  have hs : 100000 ≤ sizeLine := by rw [sizeLine_eq]; decide
  obtain ⟨k, p1, e1, k0, k1, hp1⟩ := take_ok h (m := 4) (by omega) (by omega)
  have hg : ∃ gap, idx [(9 : Int), 2, 20, 100000] k = .ok gap ∧ 0 < gap ∧ gap ≤ 100000 ∧ (k < 3 → gap ≤ 20) := by
    rcases (show k = 0 ∨ k = 1 ∨ k = 2 ∨ k = 3 by omega) with e | e | e | e <;> subst e
    · exact ⟨9, idx_nat (k := 0) rfl, by omega, by omega, by omega⟩
    · exact ⟨2, idx_nat (k := 1) rfl, by omega, by omega, by omega⟩
    · exact ⟨20, idx_nat (k := 2) rfl, by omega, by omega, by omega⟩
    · exact ⟨100000, idx_nat (k := 3) rfl, by omega, by omega, by omega⟩
  obtain ⟨gap, eg, g0, g1, g2⟩ := hg
  obtain ⟨d9, p2, e2, d90, d91, hp2⟩ := take_ok hp1 (m := 9) (by omega) (by omega)
  have m0 := Int.emod_nonneg (2 + d9) (show (9 : Int) ≠ 0 by omega)
  have m1 := Int.emod_lt_of_pos (2 + d9) (show (0 : Int) < 9 by omega)
  have hB : ∃ many p3, (((if (decide (k < (3 : Int))) then ((m_law_take p2 (Ar.mk (16 : Int) ())).bind fun u83 => Res.ok ((decide (u83.1 = (15 : Int))), u83.2)) else Res.ok (false, p2)).bind fun u93 => if u93.1 then (((m_law_take u93.2 (Ar.mk (21 : Int) ())).bind fun u91 => Res.ok (((100 : Int) + u91.1), u91.2)).bind fun many_92 => Res.ok (many_92.1, many_92.2)) else (Res.ok ((2 + d9) % 9, u93.2)))) = .ok (many, p3) ∧ p3 ≠ [] ∧ 0 ≤ many ∧ many ≤ 120 ∧ (¬ k < 3 → many ≤ 8) := by
    by_cases hk : k < 3
    · rw [if_pos (by simpa using hk)]
      obtain ⟨d, q, e, _, _, hq⟩ := take_ok hp2 (m := 16) (by omega) (by omega)
      rw [e, Res.bind_ok, Res.bind_ok]
      by_cases hd : d = 15
      · rw [if_pos (by simpa using hd)]
        obtain ⟨d', q', e', h1, h2, hq'⟩ := take_ok hq (m := 21) (by omega) (by omega)
        dsimp only
        rw [e', Res.bind_ok, Res.bind_ok]
        exact ⟨_, _, rfl, hq', by omega, by omega, fun z => absurd hk z⟩
      · rw [if_neg (by simpa using hd)]
        exact ⟨_, _, rfl, hq, by omega, by omega, fun z => absurd hk z⟩
    · rw [if_neg (by simpa using hk), Res.bind_ok]
      exact ⟨_, _, rfl, hp2, by omega, by omega, fun _ => by omega⟩
  obtain ⟨many, p3, eB, hp3, n0, n1, n2⟩ := hB
  obtain ⟨dc, p4, e4, c0, c1, hp4⟩ := take_ok hp3 g0 (by omega)
  have s0 := Int.emod_nonneg (3 + dc) (show gap ≠ 0 by omega)
  have s1 := Int.emod_lt_of_pos (3 + dc) g0
  have hl := irange_len 0 many
  obtain ⟨c', row, p', e5, q1, q2, q3, q4, q5, q6⟩ := row_loop g0 (by omega) (irange 0 many) ((3 + dc) % gap) [] p4 hp4 trivial (by show (-1 : Int) < _; omega) (by rw [hl]; simp; omega)
  refine ⟨row, p', ?_, q1, q2, by rw [q4, hl]; simp; omega, ?_⟩
  · unfold m_law_row
    rw [e1, Res.bind_ok, need_ok (by simp; omega), Res.bind_ok]
    dsimp only
    rw [eg, Res.bind_ok, e2, Res.bind_ok, Res.bind_ok, Res.bind_ok, need_ok (by omega), Res.bind_ok, Res.bind_ok]
    dsimp only
    rw [eB, Res.bind_ok]
    dsimp only
    rw [e4, Res.bind_ok, Res.bind_ok, Res.bind_ok, need_ok g0, Res.bind_ok, Res.bind_ok, need_ok (by simp), Res.bind_ok, need_ok (by unfold Rg62; omega), Res.bind_ok]
    dsimp only
    rw [e5]
    rfl
  · by_cases hz : irange 0 many = []
    · rw [hz] at e5
      cases e5
      show (-1 : Int) ≤ _
      omega
    · have h6 := q6 hz
      rw [hl] at h6
      have e7 : (((many - 0).toNat : Nat) : Int) = many := by omega
      rw [e7] at h6
      have hm : 1 ≤ many := by
        by_cases hz2 : many ≤ 0
        · exact absurd (by unfold irange; rw [show (many - 0).toNat = 0 by omega]; rfl) hz
        · omega
      have b1 : gap * (many - 1) ≤ 800000 := by
        by_cases hk : k < 3
        · have := g2 hk
          have x1 : gap * (many - 1) ≤ 20 * (many - 1) := Int.mul_le_mul_of_nonneg_right this (by omega)
          omega
        · have := n2 hk
          have x1 : gap * (many - 1) ≤ gap * 7 := Int.mul_le_mul_of_nonneg_left (by omega) (by omega)
          omega
      omega
theorem top_le : ∀ {lo : Int} {r : List Int}, Up lo r → lo ≤ top lo r
  | _, [], _ => Int.le_refl _
  | lo, x :: r, h => by
    have h2 := top_le (lo := x) (r := r) h.2
    have h1 := h.1
    show lo ≤ top x r
    omega
theorem top_last : ∀ (x : Int) (r : List Int), (x :: r)[r.length]? = some (top x r)
  | _, [] => rfl
  | x, y :: r => by
    show (y :: r)[r.length]? = some (top y r)
    exact top_last y r
theorem room_ok {pool row : List Int} (h : pool ≠ []) (hu : Up (-1) row) (hl : row.length ≤ 120) (ht : top (-1) row ≤ 900000) : ∃ room p, m_law_room pool ⟨row, ()⟩ = .ok (room, p) ∧ p ≠ [] ∧ top (-1) row < room ∧ room ≤ 1000000 := by
  have hs : 100000 ≤ sizeLine := by rw [sizeLine_eq]; decide
  have t0 := top_le hu
  obtain ⟨k, p1, e1, k0, k1, hp1⟩ := take_ok h (m := 4) (by omega) (by omega)
  obtain ⟨d, p2, e2, d0, d1, hp2⟩ := take_ok hp1 (m := 40) (by omega) (by omega)
  have et : idx ([-1] ++ row) (-(1 : Int)) = .ok (top (-1) row) := by
    unfold idx atI ixN
    rw [if_neg (by omega), if_pos (by simp; omega)]
    have : (-(1 : Int) + (([-1] ++ row : List Int).length : Int)).toNat = row.length := by simp; omega
    rw [this]
    rw [show ([-1] ++ row : List Int) = -1 :: row from rfl, Option.bind_some, top_last]
  unfold m_law_room
  dsimp only
  rw [need_ok (by simp; omega), Res.bind_ok, need_ok (by simp; omega), Res.bind_ok, et, Res.bind_ok, e1, Res.bind_ok]
  dsimp only
  by_cases h3 : k = 3
  · rw [if_pos (by simpa using h3), e2, Res.bind_ok]
    exact ⟨_, _, rfl, hp2, by omega, by omega⟩
  · rw [if_neg (by simpa using h3)]
    by_cases h2 : k = 2
    · rw [if_pos (by simpa using h2)]
      exact ⟨_, _, rfl, hp1, by omega, by omega⟩
    · rw [if_neg (by simpa using h2), e2, Res.bind_ok, Res.bind_ok, Res.bind_ok, need_ok (by omega), Res.bind_ok, Res.bind_ok, Res.bind_ok]
      have m0 := Int.emod_nonneg (4 + d) (show (40 : Int) ≠ 0 by omega)
      have m1 := Int.emod_lt_of_pos (4 + d) (show (0 : Int) < 40 by omega)
      refine ⟨_, _, rfl, hp2, ?_, ?_⟩
      · dsimp only
        split <;> omega
      · dsimp only
        split <;> omega
end K12

set_option Elab.async false
set_option linter.all false
set_option maxRecDepth 100000
namespace K12
open PySem PySem.Spec PyProof.Rows L2 NF
open NF.Data (toD)
theorem canLay_ints : ∀ xs : List Int, PyData.canLayAll0 (xs.map toD) = true
  | [] => rfl
  | _ :: xs => by
    show (true && PyData.canLayAll0 (xs.map toD)) = true
    rw [canLay_ints xs]
    rfl
theorem depth_ints : ∀ xs : List Int, PyData.depthAll (xs.map toD) = 0
  | [] => rfl
  | _ :: xs => by
    show max 0 (PyData.depthAll (xs.map toD)) = 0
    rw [depth_ints xs]
    rfl
theorem shp_ints (xs : List Int) : shp xs = true := by
  show (PyData.canLayAll0 (xs.map toD) && decide (PyData.depthAll (xs.map toD) + 1 ≤ 64)) = true
  rw [canLay_ints, depth_ints]
  rfl
theorem shp_int (x : Int) : shp x = true := rfl
theorem eqv_ints : ∀ xs ys : List Int, PyData.eqvAll (xs.map toD) (ys.map toD) = decide (xs = ys)
  | [], [] => rfl
  | [], _ :: _ => rfl
  | _ :: _, [] => rfl
  | x :: xs, y :: ys => by
    show ((x == y) && PyData.eqvAll (xs.map toD) (ys.map toD)) = _
    rw [eqv_ints xs ys]
    by_cases h : x = y
    · subst h
      simp
    · simp [h]
theorem eqD_ints (xs ys : List Int) : eqD xs ys = decide (xs = ys) := eqv_ints xs ys
theorem eqD_refl (xs : List Int) : eqD xs xs = true := by rw [eqD_ints]; simp
theorem whole_int (x : Int) : m_law_whole ⟨toD x, ()⟩ = .ok true := by
  unfold m_law_whole
  rw [show isT "int" (Ty.tyN (toD x)) = .ok true from by show isT "int" "int" = _; unfold isT; rw [show kitB "int" "int" = some true by decide +kernel], Res.bind_ok, if_pos rfl]
  rw [show isT "bool" (Ty.tyN (toD x)) = .ok false from by show isT "bool" "int" = _; unfold isT; rw [show kitB "int" "bool" = some false by decide +kernel]]
  rfl
theorem whole_intD (x : Int) : m_law_whole ⟨PyData.int x, ()⟩ = .ok true := whole_int x
theorem all_true : ∀ n : Nat, (List.replicate n true).all id = true
  | 0 => rfl
  | n + 1 => by rw [List.replicate_succ]; simp
theorem list_ok (xs : List Int) (h : xs.length ≤ 1000) : m_law_list ⟨xs, ⟨xs, ()⟩⟩ = .ok true := by
  have hs : 100000 ≤ sizeLine := by rw [sizeLine_eq]; decide
  unfold m_law_list
  dsimp only
  rw [show isT "list" (Ty.tyN xs) = .ok true from by show isT "list" "list" = _; unfold isT; rw [show kitB "list" "list" = some true by decide +kernel], Res.bind_ok, Res.bind_ok, if_neg (by decide)]
  rw [show (!decide ((xs.length : Int) = (xs.length : Int))) = false by simp, Res.bind_ok, if_neg (by decide), need_ok ⟨shp_ints _, shp_ints _⟩, Res.bind_ok, eqD_refl, if_pos rfl, need_ok (by omega)]
  show (filtR (fun _ => Res.ok true) _ _).bind _ = _
  rw [filtR_ok (g := fun _ => true) (fun a _ => by rw [whole_int]; rfl), Res.bind_ok, List.map_const', all_true]
/-! powers of two -/
def pw (s : Int) : Int := (Nat.log2 s.toNat : Int)
theorem halv_ok {s : Int} (h : 1 ≤ s) : m_halvings ⟨s, ()⟩ = .ok (pw s) := by
  unfold m_halvings pw
  congr 1
  show ((Builtin.Int.intBits s : Nat) : Int) - 1 = _
  unfold Builtin.Int.intBits
  rw [if_neg (by have : s ≠ 0 := by omega
                 simpa using this), show s.natAbs = s.toNat by omega]
  omega
theorem log2_step {n : Nat} (h : 2 ≤ n) : Nat.log2 n = Nat.log2 (n / 2) + 1 := by
  rw [Nat.log2_def, if_pos h]
theorem pw_half {s : Int} (h : 2 ≤ s) : pw s = pw (s / 2) + 1 := by
  unfold pw
  rw [log2_step (show 2 ≤ s.toNat by omega), show (s / 2).toNat = s.toNat / 2 by omega]
  omega
theorem pw_one : pw 1 = 0 := by decide
theorem pw_nonneg (s : Int) : 0 ≤ pw s := by unfold pw; omega
theorem power_loop : ∀ (as : List Int) (s p : Int), 1 ≤ s → s < 2 ^ (as.length + 1) →
    foldR (fun (a57 : Int) (b58 : (Int × Int)) => (if (decide ((2 : Int) ≤ b58.1)) then ((need (CDiv b58.1 (2 : Int)) (Res.ok (b58.1 / (2 : Int)))).bind fun span_64 => (let power_65 := (b58.2 + (1 : Int))
  Res.ok (span_64, power_65))) else (Res.ok (b58.1, b58.2))).bind fun b63 => Res.ok (b63.1, b63.2)) as (s, p) = .ok (1, p + pw s)
  | [], s, p, h1, h2 => by
    have e : s = 1 := by simp at h2; omega
    subst e
    rw [pw_one]
    simp [foldR]
  | a :: as, s, p, h1, h2 => by
    show Res.bind _ _ = _
    dsimp only
    by_cases h : 2 ≤ s
    · rw [if_pos (by simpa using h), need_ok (by unfold CDiv; omega), Res.bind_ok, Res.bind_ok, Res.bind_ok, power_loop as (s / 2) (p + 1) (by omega) ?_, pw_half h]
      · congr 2
        omega
      · rw [List.length_cons, Int.pow_succ] at h2
        omega
    · have e : s = 1 := by omega
      subst e
      rw [if_neg (by simpa using h), Res.bind_ok, Res.bind_ok, power_loop as 1 p (by omega) ?_]
      rw [show (1 : Int) = 2 ^ 0 from rfl]
      exact_mod_cast Nat.pow_lt_pow_right (by omega) (by omega)
theorem power_ok {s : Int} (h : 1 ≤ s) (h2 : s ≤ 2000000) : m_law_power ⟨s, ()⟩ = .ok (pw s) := by
  unfold m_law_power
  dsimp only
  rw [need_ok (by unfold Rg62; omega), Res.bind_ok, power_loop _ s 0 h ?_, Res.bind_ok]
  · show Res.ok (0 + pw s) = _
    rw [Int.zero_add]
  · rw [irange_len]
    show s < 2 ^ 25
    omega
/-! the spans of a row that goes up -/
theorem dif_up : ∀ (lo : Int) (xs : List Int), Up lo xs → ∀ s ∈ dif (lo :: xs), 1 ≤ s ∧ s ≤ top lo xs - lo
  | _, [], _, s, h => by simp [dif] at h
  | lo, x :: r, hu, s, h => by
    have h1 := hu.1
    have h2 := top_le hu.2
    rcases List.mem_cons.mp (show s ∈ (x - lo) :: dif (x :: r) from h) with e | e
    · subst e
      show 1 ≤ x - lo ∧ x - lo ≤ top x r - lo
      omega
    · have := dif_up x r hu.2 s e
      show 1 ≤ s ∧ s ≤ top x r - lo
      omega
theorem spn_up {row : List Int} {room : Int} (hu : Up (-1) row) (ht : top (-1) row < room) : ∀ s ∈ spn row room, 1 ≤ s ∧ s ≤ room + 1 := fun s hs => by
  have := dif_up (-1) (row ++ [room]) (up_snoc hu ht) s hs
  rw [top_snoc] at this
  omega
end K12

set_option Elab.async false
set_option linter.all false
set_option maxRecDepth 100000
namespace K12
open PySem PySem.Spec PyProof.Rows L2 NF
open NF.Data (toD)
theorem dif_app : ∀ (A : List Int) (a : Int) (B : List Int), dif (A ++ a :: B) = dif (A ++ [a]) ++ dif (a :: B)
  | [], a, B => rfl
  | [x], a, B => rfl
  | x :: y :: A, a, B => by
    show (y - x) :: dif ((y :: A) ++ a :: B) = (y - x) :: (dif ((y :: A) ++ [a]) ++ dif (a :: B))
    rw [dif_app (y :: A) a B]
def ins (codes : List Int) (r : Nat) (c : Int) : List Int := codes.take r ++ [c] ++ codes.drop r
theorem ins_len (codes : List Int) (r : Nat) (c : Int) (h : r ≤ codes.length) : (ins codes r c).length = codes.length + 1 := by
  unfold ins
  simp
  omega
theorem split_at (codes : List Int) (room : Int) (r : Nat) (h : r ≤ codes.length) : ∃ (P Q : List Int) (s low : Int), spn codes room = P ++ s :: Q ∧ P.length = r ∧ (-1 :: codes)[r]? = some low ∧ (ends codes room)[r + 1]? = some (low + s) ∧
    ∀ c, spn (ins codes r c) room = P ++ (c - low) :: (low + s - c) :: Q := by
  have hl := ends_len codes room
  have h1 : r < (ends codes room).length := by omega
  have h2 : r + 1 < (ends codes room).length := by omega
  have e1 : ends codes room = (ends codes room).take r ++ (ends codes room)[r] :: (ends codes room)[r + 1] :: (ends codes room).drop (r + 2) := by
    rw [← List.drop_eq_getElem_cons h2, ← List.drop_eq_getElem_cons h1, List.take_append_drop]
  have hr : (-1 :: codes)[r]? = some (ends codes room)[r] := by
    rw [← List.getElem?_eq_getElem h1]
    show _ = ((-1 :: codes) ++ [room])[r]?
    rw [List.getElem?_append_left (by simp; omega)]
  refine ⟨dif ((ends codes room).take r ++ [(ends codes room)[r]]), dif ((ends codes room)[r + 1] :: (ends codes room).drop (r + 2)), (ends codes room)[r + 1] - (ends codes room)[r], (ends codes room)[r], ?_, ?_, hr, ?_, fun c => ?_⟩
  · exact (congrArg dif e1).trans (dif_app _ _ _)
  · rw [dif_len]
    simp
    omega
  · rw [List.getElem?_eq_getElem h2]
    congr 1
    omega
  · have e2 : ends (ins codes r c) room = (ends codes room).take r ++ (ends codes room)[r] :: c :: (ends codes room)[r + 1] :: (ends codes room).drop (r + 2) := by
      have e3 : ends (ins codes r c) room = (ends codes room).take (r + 1) ++ c :: (ends codes room).drop (r + 1) := by
        unfold ends ins
        rw [List.take_succ_cons, List.drop_succ_cons, List.take_append_of_le_length h, List.drop_append_of_le_length h]
        simp
      have t : (ends codes room).take (r + 1) = (ends codes room).take r ++ [(ends codes room)[r]] := (List.take_append_getElem h1).symm
      rw [e3, t, List.drop_eq_getElem_cons h2, List.append_assoc]
      rfl
    show dif (ends (ins codes r c) room) = _
    rw [e2, dif_app]
    congr 1
    show (c - (ends codes room)[r]) :: ((ends codes room)[r + 1] - c) :: dif _ = _
    congr 2
    omega
/-- the span that stands at r, and the code below it -/
def sOf (codes : List Int) (room : Int) (r : Nat) : Int := (spn codes room).getD r 0
def lOf (codes : List Int) (r : Nat) : Int := (-1 :: codes).getD r 0
def mid (codes : List Int) (room : Int) (r : Nat) : List Int := ins codes r (lOf codes r + sOf codes room r / 2)
theorem mid_spn {codes : List Int} {room : Int} {r : Nat} (h : r ≤ codes.length) : ∃ P Q : List Int, P.length = r ∧ spn codes room = P ++ sOf codes room r :: Q ∧ (-1 :: codes)[r]? = some (lOf codes r) ∧ (ends codes room)[r + 1]? = some (lOf codes r + sOf codes room r) ∧
    spn (mid codes room r) room = P ++ (sOf codes room r / 2) :: (sOf codes room r - sOf codes room r / 2) :: Q := by
  obtain ⟨P, Q, s, low, e1, e2, e3, e4, e5⟩ := split_at codes room r h
  have hs : sOf codes room r = s := by
    unfold sOf
    rw [e1, List.getD_eq_getElem?_getD, List.getElem?_append_right (by omega), e2]
    simp
  have hl : lOf codes r = low := by
    unfold lOf
    rw [List.getD_eq_getElem?_getD, e3]
    rfl
  refine ⟨P, Q, e2, by rw [hs]; exact e1, by rw [hl]; exact e3, by rw [hl, hs]; exact e4, ?_⟩
  unfold mid
  rw [e5, hs, hl]
  congr 2
  · omega
  · congr 1
    omega
theorem sOf_get {codes : List Int} {room : Int} {r : Nat} (h : r ≤ codes.length) : (spn codes room)[r]? = some (sOf codes room r) := by
  obtain ⟨P, Q, e1, e2, _⟩ := mid_spn (room := room) h
  rw [e2, List.getElem?_append_right (by omega), e1]
  simp
theorem lOf_get {codes : List Int} {r : Nat} (h : r ≤ codes.length) : (-1 :: codes)[r]? = some (lOf codes r) := by
  obtain ⟨P, Q, e1, e2, e3, _⟩ := mid_spn (room := 0) h
  exact e3
/-- how many find room -/
def pl (room : Int) : List Int → List Nat → Nat
  | _, [] => 0
  | codes, r :: rs => if sOf codes room r < 2 then 0 else pl room (mid codes room r) rs + 1
def Val (room : Int) : List Int → List Nat → Prop
  | _, [] => True
  | codes, r :: rs => r ≤ codes.length ∧ (2 ≤ sOf codes room r → Val room (mid codes room r) rs)
theorem mid_len {codes : List Int} {room : Int} {r : Nat} (h : r ≤ codes.length) : (mid codes room r).length = codes.length + 1 := ins_len _ _ _ h
/-- all spans at least 2^n: n newcomers find room -/
theorem pl_all {room : Int} : ∀ (rs : List Nat) (codes : List Int), Val room codes rs → (∀ s ∈ spn codes room, 2 ^ rs.length ≤ s) → pl room codes rs = rs.length
  | [], _, _, _ => rfl
  | r :: rs, codes, hv, hs => by
    obtain ⟨P, Q, e1, e2, e3, e4, e5⟩ := mid_spn (room := room) hv.1
    have m0 : sOf codes room r ∈ spn codes room := by rw [e2]; simp
    have h0 := hs _ m0
    rw [List.length_cons, Int.pow_succ] at h0
    have h1 : (1 : Int) ≤ 2 ^ rs.length := by exact_mod_cast Nat.one_le_two_pow
    show (if sOf codes room r < 2 then 0 else _) = _
    rw [if_neg (by omega), pl_all rs _ (hv.2 (by omega)) (fun s h => ?_), List.length_cons]
    rw [e5] at h
    have big : ∀ x ∈ spn codes room, 2 ^ rs.length ≤ x := fun x hx => by
      have := hs x hx
      rw [List.length_cons, Int.pow_succ] at this
      omega
    rcases List.mem_append.mp h with h | h
    · exact big s (by rw [e2]; exact List.mem_append_left _ h)
    · rcases List.mem_cons.mp h with h | h
      · omega
      · rcases List.mem_cons.mp h with h | h
        · omega
        · exact big s (by rw [e2]; exact List.mem_append_right _ (List.mem_cons_of_mem _ h))
theorem val_rep {room : Int} {r : Nat} : ∀ (n : Nat) (codes : List Int), r ≤ codes.length → Val room codes (List.replicate n r)
  | 0, _, _ => trivial
  | n + 1, codes, h => ⟨h, fun _ => val_rep n _ (by rw [mid_len h]; omega)⟩
/-- the foe: always at the same place -/
theorem pl_foe {room : Int} {r : Nat} : ∀ (m : Nat) (codes : List Int), r ≤ codes.length → 1 ≤ sOf codes room r → pw (sOf codes room r) = m → pl room codes (List.replicate (m + 1) r) = m
  | 0, codes, h, h1, e => by
    show (if sOf codes room r < 2 then 0 else _) = 0
    rw [if_pos]
    by_cases h2 : 2 ≤ sOf codes room r
    · have := pw_half h2
      have := pw_nonneg (sOf codes room r / 2)
      omega
    · omega
  | m + 1, codes, h, h1, e => by
    have h2 : 2 ≤ sOf codes room r := by
      by_cases h2 : 2 ≤ sOf codes room r
      · exact h2
      · have : sOf codes room r = 1 := by omega
        rw [this, pw_one] at e
        omega
    have h3 := pw_half h2
    obtain ⟨P, Q, e1, e2, e3, e4, e5⟩ := mid_spn (room := room) h
    have hs : sOf (mid codes room r) room r = sOf codes room r / 2 := by
      show (spn (mid codes room r) room).getD r 0 = _
      rw [e5, List.getD_eq_getElem?_getD, List.getElem?_append_right (by omega), e1]
      simp
    show (if sOf codes room r < 2 then 0 else pl room (mid codes room r) (List.replicate (m + 1) r) + 1) = _
    rw [if_neg (by omega), pl_foe m _ (by rw [mid_len h]; omega) (by omega) (by rw [hs]; omega)]
end K12

set_option Elab.async false
set_option linter.all false
set_option maxRecDepth 100000
namespace K12
open PySem PySem.Spec PyProof.Rows L2 NF
open NF.Data (toD)
def rng : Nat → Nat → List Int
  | _, 0 => []
  | k, n + 1 => (k : Int) :: rng (k + 1) n
theorem rng_map : ∀ (n k : Nat), (List.range' k n).map (fun i : Nat => (0 : Int) + i) = rng k n
  | 0, _ => rfl
  | n + 1, k => by
    rw [List.range'_succ, List.map_cons, rng_map n (k + 1), Int.zero_add]
    rfl
theorem irange_rng (n : Nat) : irange 0 (n : Int) = rng 0 n := by
  rw [← rng_map]
  unfold irange
  rw [List.range_eq_range']
  congr 2
theorem rng_len : ∀ n k, (rng k n).length = n
  | 0, _ => rfl
  | n + 1, k => by show (rng (k + 1) n).length + 1 = _; rw [rng_len n]
inductive Rl {α : Type} (F : α → List Int → Res (Sum (List Int) Int)) (room : Int) : Nat → List α → List Nat → Prop
  | nil {k : Nat} : Rl F room k [] []
  | cons {k r : Nat} {a : α} {as : List α} {rs : List Nat} (h : ∀ codes : List Int, r ≤ codes.length → codes.length ≤ 999 → F a codes = .ok (if sOf codes room r < 2 then .inr (k : Int) else .inl (mid codes room r))) (t : Rl F room (k + 1) as rs) : Rl F room k (a :: as) (r :: rs)
theorem pl_cons {room : Int} {codes : List Int} {r : Nat} {rs : List Nat} : pl room codes (r :: rs) = if sOf codes room r < 2 then 0 else pl room (mid codes room r) rs + 1 := rfl
theorem loopM {α : Type} {F : α → List Int → Res (Sum (List Int) Int)} {room : Int} {f : List Int → Res Int} : ∀ {rs : List Nat} {as : List α} {k : Nat} {codes : List Int}, Rl F room k as rs → Val room codes rs → codes.length + rs.length ≤ 1000 → (∀ b, f b = .ok ((k + rs.length : Nat) : Int)) →
    goOn (foldM F as codes) f = .ok ((k + pl room codes rs : Nat) : Int)
  | _, _, k, codes, .nil, _, _, hf => hf codes
  | r :: rs, a :: as, k, codes, .cons h t, hv, hl, hf => by
    rw [List.length_cons] at hl
    show goOn ((F a codes).bind _) f = _
    rw [h codes hv.1 (by omega), Res.bind_ok]
    rw [pl_cons]
    by_cases hs : sOf codes room r < 2
    · rw [if_pos hs, if_pos hs]
      rfl
    · rw [if_neg hs, if_neg hs]
      show goOn (foldM F as (mid codes room r)) f = _
      rw [loopM t (hv.2 (by omega)) (by rw [mid_len hv.1]; omega) (fun b => by rw [hf b, List.length_cons]; congr 2; omega)]
      congr 2
      omega
def nts (rs : List Nat) : List Int := rs.map fun r : Nat => (r : Int)
theorem low_idx {codes : List Int} {r : Nat} (h : r ≤ codes.length) : idx ([-1] ++ codes) (r : Int) = .ok (lOf codes r) := idx_nat (xs := -1 :: codes) (lOf_get h)
theorem new_ok {codes : List Int} {room : Int} {r : Nat} (h : r ≤ codes.length) (hl : codes.length ≤ 999) : ((((((need (List.length ((-(1 : Int)) :: []) ≤ sizeLine) (Res.ok ((-(1 : Int)) :: []))).bind fun v235 => need (List.length v235 + List.length codes ≤ sizeLine) (Res.ok (v235 ++ codes))).bind fun v236 => idx v236 (r : Int)).bind fun v237 => (need (CDiv (sOf codes room r) (2 : Int)) (Res.ok (sOf codes room r / (2 : Int)))).bind fun v238 => Res.ok (v237 + v238)).bind fun v239 => need (List.length codes < sizeLine ∧ Ps63 (r : Int)) (Res.ok (List.take ((r : Int)).toNat codes ++ [v239] ++ List.drop ((r : Int)).toNat codes)))) = .ok (mid codes room r) := by
  have hs : 100000 ≤ sizeLine := by rw [sizeLine_eq]; decide
  rw [need_ok (by simp; omega), Res.bind_ok, need_ok (by simp; omega), Res.bind_ok, low_idx h, Res.bind_ok, need_ok (by unfold CDiv; omega), Res.bind_ok, Res.bind_ok, need_ok ⟨by omega, by unfold Ps63; omega⟩]
  rfl
theorem placed_ok {codes : List Int} {room : Int} {rs : List Nat} (hv : Val room codes rs) (hl : codes.length + rs.length ≤ 1000) : m_law_placed ⟨codes, ⟨room, ⟨nts rs, ()⟩⟩⟩ = .ok ((pl room codes rs : Nat) : Int) := by
  unfold m_law_placed
  dsimp only
  have hn : (nts rs).length = rs.length := by unfold nts; simp
  rw [hn, need_ok (by unfold Rg62; omega), Res.bind_ok, irange_rng]
  have key : ∀ (qs : List Nat) (k : Nat), (∀ j, (nts rs)[k + j]? = (qs[j]?).map fun r : Nat => (r : Int)) → Rl (fun (a228 : Int) (b229 : ((List Int))) => (idx (nts rs) a228).bind fun rank_232 => ((m_law_spans (Ar.mk b229 (Ar.mk room ()))).bind fun v233 => idx v233 rank_232).bind fun span_234 => if (decide (span_234 < (2 : Int))) then ((Res.ok a228).bind fun d => Res.ok (Sum.inr d)) else ((((((need (List.length ((-(1 : Int)) :: []) ≤ sizeLine) (Res.ok ((-(1 : Int)) :: []))).bind fun v235 => need (List.length v235 + List.length b229 ≤ sizeLine) (Res.ok (v235 ++ b229))).bind fun v236 => idx v236 rank_232).bind fun v237 => (need (CDiv span_234 (2 : Int)) (Res.ok (span_234 / (2 : Int)))).bind fun v238 => Res.ok (v237 + v238)).bind fun v239 => need (List.length b229 < sizeLine ∧ Ps63 rank_232) (Res.ok (List.take (rank_232).toNat b229 ++ [v239] ++ List.drop (rank_232).toNat b229))).bind fun codes_240 => Res.ok (Sum.inl codes_240))) room k (rng k qs.length) qs := by
    intro qs
    induction qs with
    | nil => exact fun k _ => .nil
    | cons r qs ih =>
      intro k hq
      refine .cons (fun codes h h2 => ?_) (ih (k + 1) fun j => ?_)
      · rw [idx_nat (by simpa using hq 0), Res.bind_ok, lspans_ok _ _ (by omega), Res.bind_ok, idx_nat (sOf_get h), Res.bind_ok]
        by_cases hs : sOf codes room r < 2
        · rw [if_pos (by simpa using hs), if_pos hs]
          rfl
        · rw [if_neg (by simpa using hs), if_neg hs, new_ok h h2]
          rfl
      · have := hq (j + 1)
        rw [show k + 1 + j = k + (j + 1) by omega, this]
        rfl
  have := loopM (f := fun _ => Res.ok ((rs.length : Nat) : Int)) (key rs 0 fun j => by unfold nts; rw [List.getElem?_map, Nat.zero_add]) hv hl (fun b => by rw [Nat.zero_add])
  rw [Nat.zero_add] at this
  exact this
theorem neigh_ok {s : Sq Int} {room : Int} {r : Nat} (h : r ≤ (Lk.its s).length) : m_neighbours ⟨s, ⟨room, ⟨(r : Int), ()⟩⟩⟩ = .ok (lOf (Lk.its s) r, lOf (Lk.its s) r + sOf (Lk.its s) room r) := by
  obtain ⟨P, Q, e1, e2, e3, e4, e5⟩ := mid_spn (room := room) h
  unfold m_neighbours
  dsimp only
  have hlow : (if (decide ((0 : Int) < (r : Int))) then (idx (Lk.its s) ((r : Int) - (1 : Int))) else (Res.ok (-(1 : Int)))) = .ok (lOf (Lk.its s) r) := by
    cases r with
    | zero =>
      have : lOf (Lk.its s) 0 = -1 := by simp at e3; exact e3.symm
      rw [this]
      rfl
    | succ r =>
      rw [if_pos (by first | (simp; done) | (simp; omega)), show ((r + 1 : Nat) : Int) - 1 = (r : Int) by omega]
      exact idx_nat (by simpa using e3)
  have hhigh : (if (decide ((r : Int) < (List.length (Lk.its s) : Int))) then (idx (Lk.its s) (r : Int)) else (Res.ok room)) = .ok (lOf (Lk.its s) r + sOf (Lk.its s) room r) := by
    have e6 : (Lk.its s ++ [room])[r]? = some (lOf (Lk.its s) r + sOf (Lk.its s) room r) := by
      have : (ends (Lk.its s) room)[r + 1]? = (Lk.its s ++ [room])[r]? := by unfold ends; simp
      rw [← this]
      exact e4
    by_cases hr : r < (Lk.its s).length
    · rw [if_pos (by simpa using hr)]
      rw [List.getElem?_append_left hr] at e6
      exact idx_nat e6
    · rw [if_neg (by simpa using hr)]
      rw [List.getElem?_append_right (by omega), show r - (Lk.its s).length = 0 by omega] at e6
      simp at e6
      exact congrArg Res.ok e6
  rw [hlow, Res.bind_ok, hhigh, Res.bind_ok]
theorem middle_ok (a b : Int) : m_middle ⟨a, ⟨b, ()⟩⟩ = .ok (a + (b - a) / 2) := by
  unfold m_middle
  dsimp only
  rw [need_ok (by unfold CDiv; omega), Res.bind_ok]
theorem comers_ok {s : Sq Int} {room : Int} {rs : List Nat} (hv : Val room (Lk.its s) rs) (hl : (Lk.its s).length + rs.length ≤ 1000) : m_comers_placed ⟨s, ⟨room, ⟨nts rs, ()⟩⟩⟩ = .ok ((pl room (Lk.its s) rs : Nat) : Int) := by
  have hs0 : 100000 ≤ sizeLine := by rw [sizeLine_eq]; decide
  unfold m_comers_placed
  dsimp only
  have hn : (nts rs).length = rs.length := by unfold nts; simp
  rw [hn]
  have key : ∀ (qs : List Nat) (k : Nat), Rl (fun (a24 : (Int × Int)) (b25 : ((List Int))) => (m_neighbours (Ar.mk (Sq.l b25) (Ar.mk room (Ar.mk a24.2 ())))).bind fun t28 => if (decide ((t28.2 - t28.1) < (2 : Int))) then ((Res.ok a24.1).bind fun d => Res.ok (Sum.inr d)) else (((m_middle (Ar.mk t28.1 (Ar.mk t28.2 ()))).bind fun v29 => need (List.length b25 < sizeLine ∧ Ps63 a24.2) (Res.ok (List.take (a24.2).toNat b25 ++ [v29] ++ List.drop (a24.2).toNat b25))).bind fun codes_30 => Res.ok (Sum.inl codes_30))) room k (enumF k (nts qs)) qs := by
    intro qs
    induction qs with
    | nil => exact fun k => .nil
    | cons r qs ih =>
      intro k
      refine .cons (fun codes h h2 => ?_) (ih (k + 1))
      dsimp only
      rw [neigh_ok (s := Sq.l codes) h, Res.bind_ok]
      dsimp only
      rw [show Lk.its (Sq.l codes) = codes from rfl, show lOf codes r + sOf codes room r - lOf codes r = sOf codes room r by omega]
      by_cases hs : sOf codes room r < 2
      · rw [if_pos (by simpa using hs), if_pos hs]
        rfl
      · rw [if_neg (by simpa using hs), if_neg hs, middle_ok, Res.bind_ok, need_ok ⟨by omega, by unfold Ps63; omega⟩, Res.bind_ok, show lOf codes r + sOf codes room r - lOf codes r = sOf codes room r by omega]
        rfl
  have := loopM (f := fun _ => Res.ok ((rs.length : Nat) : Int)) (key rs 0) hv hl (fun b => by rw [Nat.zero_add])
  rw [Nat.zero_add] at this
  exact this
end K12

set_option Elab.async false
set_option linter.all false
set_option maxRecDepth 100000
namespace K12
open PySem PySem.Spec PyProof.Rows L2 NF
open NF.Data (toD)
def refused : PyData := toD (Tp.mk [PySem.Str.ofString "refused"])
theorem place_ok {row : List Int} {room : Int} {r : Nat} (h : r ≤ row.length) : m_law_place ⟨row, ⟨room, ⟨(r : Int), ()⟩⟩⟩ = .ok (if sOf row room r < 2 then refused else toD (lOf row r + sOf row room r / 2)) := by
  have hs : 100000 ≤ sizeLine := by rw [sizeLine_eq]; decide
  have hh : ∃ hd : Sq Int, Lk.its hd = row ∧ ((need (List.length ((Sq.l row) :: ((Sq.t (Tp.mk row).xs) :: [])) ≤ sizeLine) (Res.ok ((Sq.l row) :: ((Sq.t (Tp.mk row).xs) :: [])))).bind fun v242 => (need (0 < (2 : Int)) (Res.ok ((r : Int) % (2 : Int)))).bind fun v243 => idx v242 v243) = .ok hd := by
    rw [need_ok (by simp; omega), Res.bind_ok, need_ok (by omega), Res.bind_ok]
    rcases (show (r : Int) % 2 = 0 ∨ (r : Int) % 2 = 1 by omega) with e | e
    · rw [e]
      exact ⟨.l row, rfl, idx_nat (k := 0) rfl⟩
    · rw [e]
      exact ⟨.t row, rfl, idx_nat (k := 1) rfl⟩
  obtain ⟨hd, e0, e1⟩ := hh
  unfold m_law_place
  dsimp only at e1 ⊢
  rw [e1, Res.bind_ok]
  have hn := neigh_ok (s := hd) (room := room) (r := r) (by rw [e0]; exact h)
  rw [e0] at hn
  unfold m_place_comer
  dsimp only
  rw [hn]
  rw [show Res.quiet (Res.ok (lOf row r, lOf row r + sOf row room r)) = Res.ok (lOf row r, lOf row r + sOf row room r) from rfl, Res.bind_ok]
  dsimp only
  rw [show lOf row r + sOf row room r - lOf row r = sOf row room r by omega, e0]
  by_cases h2 : sOf row room r < 2
  · rw [if_pos (by simpa using h2), if_pos h2, Res.bind_err]
    have hx : xfR [("rank", toD (r : Int))] "rank" = .ok (toD (r : Int)) := by
      unfold xfR
      rw [show List.lookup ("rank" : Str) [("rank", toD (r : Int))] = some (toD (r : Int)) by simp [List.lookup]]
      exact need_ok rfl
    unfold tryR goOn
    simp only [if_true]
    rw [need_ok (p := (([(PySem.Str.ofString "rank", toD (r : Int))] : List (Str × PyData)).all fun p => flatD p.2) = true) rfl, Res.bind_ok, if_pos (by decide), hx, Res.bind_ok, Res.bind_ok, whole_int, Res.bind_ok, if_pos rfl, Res.bind_ok, need_ok (p := shp (toD (r : Int)) = true ∧ shp (r : Int) = true) ⟨rfl, rfl⟩, Res.bind_ok, show eqD (toD (r : Int)) (r : Int) = true by show ((r : Int) == r) = true; simp, if_pos rfl, need_ok ⟨shp_ints _, shp_ints _⟩, Res.bind_ok, eqD_refl, if_pos rfl, need_ok (by simp; omega), Res.bind_ok, Res.bind_ok]
    rfl
  · rw [if_neg (by simpa using h2), if_neg h2, middle_ok, show lOf row r + sOf row room r - lOf row r = sOf row room r by omega]
    rw [show Res.quiet (Res.ok (lOf row r + sOf row room r / 2)) = Res.ok (lOf row r + sOf row room r / 2) from rfl, Res.bind_ok]
    unfold tryR goOn
    dsimp only
    rw [Res.bind_ok]
    dsimp only
    rw [whole_int, Res.bind_ok, Res.bind_ok, if_neg (by decide), need_ok ⟨shp_ints _, shp_ints _⟩, Res.bind_ok, eqD_refl, if_neg (by decide)]
theorem str_small : ∀ n : Nat, n < 64 → shp (PySem.Str.ofString (toString ((n : Nat) : Int))) = true := by decide +kernel
theorem pl_le {room : Int} : ∀ (rs : List Nat) (codes : List Int), pl room codes rs ≤ rs.length
  | [], _ => Nat.le_refl _
  | r :: rs, codes => by
    rw [pl_cons]
    split
    · omega
    · have := pl_le rs (mid codes room r) (room := room)
      rw [List.length_cons]
      omega
theorem count_ok {row : List Int} {room : Int} {rs : List Nat} (hv : Val room row rs) (hl : row.length + rs.length ≤ 1000) (hr : rs.length < 64) : m_law_count ⟨row, ⟨room, ⟨nts rs, ()⟩⟩⟩ = .ok ((pl room row rs : Nat) : Int) := by
  have h1 := pl_le rs row (room := room)
  have h2 : ((((pl room row rs : Nat) : Int)).natAbs.log2) < 1920 := by
    have := Nat.log2_le_self (((pl room row rs : Nat) : Int)).natAbs
    omega
  have h3 := str_small (pl room row rs) (by omega)
  unfold m_law_count
  dsimp only
  rw [comers_ok (s := Sq.l row) hv hl, Res.bind_ok, need_ok ⟨shp_ints _, shp_ints _⟩, Res.bind_ok, eqD_refl, if_neg (by decide), need_ok ⟨shp_ints _, shp_ints _⟩, Res.bind_ok, eqD_refl, if_neg (by decide)]
  rw [show Lk.its (Sq.l row) = row from rfl, whole_int, Res.bind_ok, Res.bind_ok, if_neg (by decide), comers_ok (s := Sq.t row) hv hl, Res.bind_ok, show Lk.its (Sq.t row) = row from rfl, need_ok h2, Res.bind_ok, Res.bind_ok, need_ok ⟨h3, h3⟩, Res.bind_ok]
  rw [show eqD (PySem.Str.ofString (toString ((pl room row rs : Nat) : Int))) (PySem.Str.ofString (toString ((pl room row rs : Nat) : Int))) = true by
    show (PySem.Str.ofString (toString ((pl room row rs : Nat) : Int)) == PySem.Str.ofString (toString ((pl room row rs : Nat) : Int))) = true
    simp, if_neg (by decide)]
theorem ranks_loop {room : Int} : ∀ (as : List Int) (stuck : Bool) (pool acc codes : List Int), pool ≠ [] → codes.length + as.length ≤ 999 → acc.length + as.length ≤ 1000 →
    ∃ st' pool' codes' rs, foldR (fun (a203 : Int) (b204 : (Bool × (List Int) × (List Int) × (List Int))) => (m_law_take b204.2.1 (Ar.mk ((List.length b204.2.2.2 : Int) + (1 : Int)) ())).bind fun rank_207 => (need (List.length b204.2.2.1 < sizeLine) (Res.ok (b204.2.2.1 ++ [rank_207.1]))).bind fun ranks_208 => ((m_law_spans (Ar.mk b204.2.2.2 (Ar.mk room ()))).bind fun v209 => idx v209 rank_207.1).bind fun span_210 => (if b204.1 then Res.ok true else (Res.ok (decide (span_210 < (2 : Int))))).bind fun stuck_211 => (if (!stuck_211) then ((((((need (List.length ((-(1 : Int)) :: []) ≤ sizeLine) (Res.ok ((-(1 : Int)) :: []))).bind fun v219 => need (List.length v219 + List.length b204.2.2.2 ≤ sizeLine) (Res.ok (v219 ++ b204.2.2.2))).bind fun v220 => idx v220 rank_207.1).bind fun v221 => (need (CDiv span_210 (2 : Int)) (Res.ok (span_210 / (2 : Int)))).bind fun v222 => Res.ok (v221 + v222)).bind fun v223 => need (List.length b204.2.2.2 < sizeLine ∧ Ps63 rank_207.1) (Res.ok (List.take (rank_207.1).toNat b204.2.2.2 ++ [v223] ++ List.drop (rank_207.1).toNat b204.2.2.2))).bind fun codes_224 => Res.ok codes_224) else (Res.ok b204.2.2.2)).bind fun b218 => Res.ok (stuck_211, rank_207.2, ranks_208, b218)) as (stuck, pool, acc, codes) = .ok (st', pool', acc ++ nts rs, codes') ∧ pool' ≠ [] ∧ rs.length = as.length ∧ (stuck = false → Val room codes rs)
  | [], stuck, pool, acc, codes, hp, _, _ => ⟨stuck, pool, codes, [], by simp [foldR, nts], hp, rfl, fun _ => trivial⟩
  | a :: as, stuck, pool, acc, codes, hp, hl, ha => by
    have hs : 100000 ≤ sizeLine := by rw [sizeLine_eq]; decide
    rw [List.length_cons] at hl ha
    obtain ⟨d, p1, e1, d0, d1, hp1⟩ := take_ok hp (m := (codes.length : Int) + 1) (by omega) (by omega)
    obtain ⟨r, er⟩ : ∃ r : Nat, d = (r : Int) := ⟨d.toNat, by omega⟩
    subst er
    have hr : r ≤ codes.length := by omega
    have go : ∀ (st : Bool) (codes1 : List Int), codes1.length ≤ codes.length + 1 → (stuck = false → st = false → codes1 = mid codes room r ∧ 2 ≤ sOf codes room r) → (stuck = false → 2 ≤ sOf codes room r → st = false) →
        ∃ st' pool' codes' rs, foldR _ as (st, p1, acc ++ [(r : Int)], codes1) = .ok (st', pool', acc ++ nts rs, codes') ∧ pool' ≠ [] ∧ rs.length = (a :: as).length ∧ (stuck = false → Val room codes rs) := fun st codes1 h1 h2 h3 => by
      obtain ⟨st', pool', codes', rs, e2, q1, q2, q3⟩ := ranks_loop (room := room) as st p1 (acc ++ [(r : Int)]) codes1 hp1 (by omega) (by simp; omega)
      refine ⟨st', pool', codes', r :: rs, by rw [e2]; simp [nts], q1, by simp [q2], fun z => ⟨hr, fun z2 => ?_⟩⟩
      have := h3 z z2
      obtain ⟨x1, x2⟩ := h2 z this
      rw [← x1]
      exact q3 this
    show ∃ st' pool' codes' rs, Res.bind _ _ = _ ∧ _
    dsimp only
    rw [e1, Res.bind_ok, need_ok (by omega), Res.bind_ok, lspans_ok _ _ (by omega), Res.bind_ok]
    dsimp only
    rw [idx_nat (sOf_get hr), Res.bind_ok]
    cases stuck with
    | true =>
      rw [if_pos rfl, Res.bind_ok, if_neg (by decide), Res.bind_ok, Res.bind_ok]
      exact go true codes (by omega) (fun z => by cases z) (fun z => by cases z)
    | false =>
      rw [if_neg (by decide), Res.bind_ok]
      by_cases h2 : sOf codes room r < 2
      · rw [show decide (sOf codes room r < 2) = true by simpa using h2, if_neg (by decide), Res.bind_ok, Res.bind_ok]
        exact go true codes (by omega) (fun _ z => by cases z) (fun _ z => by omega)
      · rw [show decide (sOf codes room r < 2) = false by simpa using h2, if_pos (by decide), new_ok hr (by omega), Res.bind_ok, Res.bind_ok, Res.bind_ok]
        exact go false (mid codes room r) (by rw [mid_len hr]; omega) (fun _ _ => ⟨rfl, by omega⟩) (fun _ _ => rfl)
theorem ranks_ok {pool row : List Int} {room : Int} {n : Nat} (h : pool ≠ []) (hl : row.length + n ≤ 999) : ∃ rs pool', m_law_ranks pool ⟨row, ⟨room, ⟨(n : Int), ()⟩⟩⟩ = .ok (nts rs, pool') ∧ pool' ≠ [] ∧ rs.length = n ∧ Val room row rs := by
  obtain ⟨st', pool', codes', rs, e, q1, q2, q3⟩ := ranks_loop (room := room) (irange 0 (n : Int)) false pool [] row h (by rw [irange_len]; omega) (by rw [irange_len]; simp; omega)
  refine ⟨rs, pool', ?_, q1, by rw [q2, irange_len]; omega, q3 rfl⟩
  unfold m_law_ranks
  dsimp only
  rw [need_ok (by simp), Res.bind_ok, need_ok (by unfold Rg62; omega), Res.bind_ok, e]
  rfl
end K12

set_option Elab.async false
set_option linter.all false
set_option maxRecDepth 100000
set_option maxHeartbeats 4000000
namespace K12
open PySem PySem.Spec PyProof.Rows L2 NF
open NF.Data (toD)
theorem min_ok {xs : List Int} (h : xs ≠ []) : ∃ m, minR xs = .ok m ∧ m ∈ xs ∧ ∀ y ∈ xs, m ≤ y := by
  cases xs with
  | nil => exact absurd rfl h
  | cons x r =>
    obtain ⟨h1, h2, h3⟩ := foldl_min_le r x
    refine ⟨_, rfl, ?_, fun y hy => ?_⟩
    · rcases h3 with h3 | h3
      · rw [h3]; exact List.mem_cons_self
      · exact List.mem_cons_of_mem _ h3
    · rcases List.mem_cons.mp hy with e | e
      · rw [e]; exact h1
      · exact h2 y e
theorem find_ok : ∀ {xs : List Int} {m : Int}, m ∈ xs → ∃ j : Nat, xs.findIdx? (· == m) = some j ∧ xs[j]? = some m
  | x :: xs, m, h => by
    rw [List.findIdx?_cons]
    by_cases e : x = m
    · subst e
      exact ⟨0, by simp, rfl⟩
    · rcases List.mem_cons.mp h with z | z
      · exact absurd z.symm e
      · obtain ⟨j, h1, h2⟩ := find_ok z
        exact ⟨j + 1, by rw [if_neg (by simpa using e), h1]; rfl, by simpa using h2⟩
theorem index_ok {xs : List Int} {m : Int} (h : m ∈ xs) : ∃ j : Nat, indexR xs m = .ok (j : Int) ∧ xs[j]? = some m := by
  obtain ⟨j, h1, h2⟩ := find_ok h
  refine ⟨j, ?_, h2⟩
  unfold indexR
  rw [h1]
theorem halvs_ok {xs : List Int} (h : ∀ s ∈ xs, 1 ≤ s ∧ s ≤ 2000000) (hl : xs.length ≤ 1000) : need (List.length xs ≤ sizeLine) (filtR (fun (a9 : Int) => Res.quiet (Res.ok true)) (fun (a9 : Int) => Res.quiet (m_halvings (Ar.mk a9 ()))) xs) = .ok (xs.map pw) := by
  have hs : 100000 ≤ sizeLine := by rw [sizeLine_eq]; decide
  rw [need_ok (by omega)]
  show filtR (fun _ => Res.ok true) _ _ = _
  exact filtR_ok fun a ha => by rw [halv_ok (h a ha).1]; rfl
theorem powers_ok {xs : List Int} (h : ∀ s ∈ xs, 1 ≤ s ∧ s ≤ 2000000) (hl : xs.length ≤ 1000) : need (List.length xs ≤ sizeLine) (filtR (fun (a9 : Int) => Res.quiet (Res.ok true)) (fun (a9 : Int) => Res.quiet (m_law_power (Ar.mk a9 ()))) xs) = .ok (xs.map pw) := by
  have hs : 100000 ≤ sizeLine := by rw [sizeLine_eq]; decide
  rw [need_ok (by omega)]
  show filtR (fun _ => Res.ok true) _ _ = _
  exact filtR_ok fun a ha => by rw [power_ok (h a ha).1 (h a ha).2]; rfl
section
variable {s : Sq Int} {row : List Int} {room m : Int} {j : Nat}
theorem withstands_ok (e : Lk.its s = row) (hl : row.length ≤ 900) (h : ∀ x ∈ spn row room, 1 ≤ x ∧ x ≤ 2000000) (em : minR ((spn row room).map pw) = .ok m) : m_withstands ⟨s, ⟨room, ()⟩⟩ = .ok m := by
  subst e
  unfold m_withstands
  dsimp only
  rw [spans_ok s room (by omega), Res.bind_ok, Res.bind_ok, halvs_ok h (by rw [spn_len]; omega), Res.bind_ok, em]
theorem weakest_ok (e : Lk.its s = row) (hl : row.length ≤ 900) (h : ∀ x ∈ spn row room, 1 ≤ x ∧ x ≤ 2000000) (em : minR ((spn row room).map pw) = .ok m) (ej : indexR ((spn row room).map pw) m = .ok (j : Int)) : m_weakest_rank ⟨s, ⟨room, ()⟩⟩ = .ok (j : Int) := by
  have hw := withstands_ok e hl h em
  subst e
  unfold m_weakest_rank
  dsimp only
  rw [spans_ok s room (by omega), Res.bind_ok, Res.bind_ok, halvs_ok h (by rw [spn_len]; omega), Res.bind_ok, hw, Res.bind_ok, ej]
theorem rep_flat {α : Type} (x : α) : ∀ n : Nat, (List.replicate n [x]).flatten = List.replicate n x
  | 0 => rfl
  | n + 1 => by rw [List.replicate_succ, List.flatten_cons, rep_flat x n]; rfl
theorem rep_ok {M : Nat} (hM : M ≤ 100) : need (Rg63 ((M : Int) + 1) ∧ List.length [(j : Int)] * ((M : Int) + 1).toNat ≤ sizeLine) (Res.ok (List.replicate ((M : Int) + 1).toNat [(j : Int)]).flatten) = .ok (nts (List.replicate (M + 1) j)) := by
  have hs : 100000 ≤ sizeLine := by rw [sizeLine_eq]; decide
  rw [need_ok ⟨by unfold Rg63; omega, by simp; omega⟩, rep_flat, show ((M : Int) + 1).toNat = M + 1 by omega]
  unfold nts
  rw [List.map_replicate]
theorem breaking_ok {M : Nat} (hM : M ≤ 100) (e : Lk.its s = row) (hl : row.length ≤ 900) (h : ∀ x ∈ spn row room, 1 ≤ x ∧ x ≤ 2000000) (em : minR ((spn row room).map pw) = .ok (M : Int)) (ej : indexR ((spn row room).map pw) (M : Int) = .ok (j : Int)) : m_breaking ⟨s, ⟨room, ()⟩⟩ = .ok (nts (List.replicate (M + 1) j)) := by
  have hs : 100000 ≤ sizeLine := by rw [sizeLine_eq]; decide
  unfold m_breaking
  dsimp only
  rw [weakest_ok e hl h em ej, Res.bind_ok, Res.bind_ok, need_ok (by simp; omega), Res.bind_ok, withstands_ok e hl h em, Res.bind_ok, Res.bind_ok, rep_ok hM]
end
theorem foldM_unit {α δ : Type} {F : α → Unit → Res (Sum Unit δ)} : ∀ {as : List α}, (∀ a ∈ as, F a () = .ok (.inl ())) → foldM F as () = .ok (.inl ())
  | [], _ => rfl
  | a :: as, h => by
    show (F a ()).bind _ = _
    rw [h a List.mem_cons_self, Res.bind_ok]
    exact foldM_unit fun b hb => h b (List.mem_cons_of_mem _ hb)
theorem pow_le {s : Int} {M : Nat} (h : 1 ≤ s) (h2 : (M : Int) ≤ pw s) : (2 : Int) ^ M ≤ s := by
  have h3 : M ≤ Nat.log2 s.toNat := by unfold pw at h2; omega
  have h4 := Nat.log2_self_le (show s.toNat ≠ 0 by omega)
  have h5 : 2 ^ M ≤ s.toNat := Nat.le_trans (Nat.pow_le_pow_right (by omega) h3) h4
  have h6 : ((2 ^ M : Nat) : Int) ≤ (s.toNat : Int) := by exact_mod_cast h5
  rw [show (s.toNat : Int) = s by omega] at h6
  exact_mod_cast h6
theorem pw_le {s : Int} (h : 1 ≤ s) (h2 : s ≤ 2000000) : pw s ≤ 20 := by
  have : Nat.log2 s.toNat < 21 := (Nat.log2_lt (by omega)).mpr (by omega)
  unfold pw
  omega
end K12

set_option Elab.async false
set_option linter.all false
set_option maxRecDepth 100000
set_option maxHeartbeats 4000000
namespace K12
open PySem PySem.Spec PyProof.Rows L2 NF
open NF.Data (toD)
theorem math : ∀ ns : List Int, ns.length ≤ 63 → m_law ⟨⟨ns⟩, ()⟩ = .ok true := by
  intro ns hns
  have hs : 100000 ≤ sizeLine := by rw [sizeLine_eq]; decide
  have hcut : (cut ns none (some (63 : Int))).length ≤ 63 := by unfold cut; rw [List.length_take, List.length_drop]; omega
  have hpool : ([(0 : Int)] ++ (cut ns none (some (63 : Int))).map fun a => if a < 0 then -a else a) ≠ [] := by simp
  obtain ⟨row, p1, e1, hp1, hu, hl, ht⟩ := row_ok hpool
  obtain ⟨room, p2, e2, hp2, hr1, hr2⟩ := room_ok hp1 hu hl ht
  have hb : ∀ x ∈ spn row room, 1 ≤ x ∧ x ≤ 2000000 := fun x hx => by
    have := spn_up hu hr1 x hx
    omega
  have hlen := spn_len row room
  have hne : (spn row room).map pw ≠ [] := fun z => by
    have := congrArg List.length z
    rw [List.length_map, hlen] at this
    simp at this
  obtain ⟨m, em, hm, hmin⟩ := min_ok hne
  have hm01 : 0 ≤ m ∧ m ≤ 20 := by
    obtain ⟨x, hx, ex⟩ := List.mem_map.mp hm
    rw [← ex]
    exact ⟨pw_nonneg x, pw_le (hb x hx).1 (hb x hx).2⟩
  obtain ⟨M, eM⟩ : ∃ M : Nat, m = (M : Int) := ⟨m.toNat, by omega⟩
  subst eM
  obtain ⟨j, ej, hj⟩ := index_ok hm
  have hM : M ≤ 100 := by omega
  have hjl : j < row.length + 1 := by
    have := (List.getElem?_eq_some_iff.mp hj).1
    rw [List.length_map, hlen] at this
    exact this
  have hjs : pw (sOf row room j) = (M : Int) := by
    rw [List.getElem?_map, sOf_get (by omega)] at hj
    simpa using hj
  have hj1 : 1 ≤ sOf row room j := (hb _ (List.mem_of_getElem? (sOf_get (room := room) (show j ≤ row.length by omega)))).1
  have esp : ∀ s : Sq Int, Lk.its s = row → m_spans ⟨s, ⟨room, ()⟩⟩ = .ok (spn row room) := fun s e => by
    rw [spans_ok s room (by rw [e]; omega), e]
  have ewi : ∀ s : Sq Int, Lk.its s = row → m_withstands ⟨s, ⟨room, ()⟩⟩ = .ok (M : Int) := fun s e => withstands_ok e (by omega) hb em
  have ebr : ∀ s : Sq Int, Lk.its s = row → m_breaking ⟨s, ⟨room, ()⟩⟩ = .ok (nts (List.replicate (M + 1) j)) := fun s e => breaking_ok hM e (by omega) hb em ej
  obtain ⟨d, p3, e3, d0, d1, hp3⟩ := take_ok hp2 (m := 13) (by omega) (by omega)
  obtain ⟨n1, en1⟩ : ∃ n : Nat, (5 + d) % 13 = (n : Int) := ⟨((5 + d) % 13).toNat, by omega⟩
  obtain ⟨rs1, p4, e4, hp4, l1, v1⟩ := ranks_ok (row := row) (room := room) (n := n1) hp3 (by omega)
  obtain ⟨rs2, p5, e5, hp5, l2, v2⟩ := ranks_ok (row := row) (room := room) (n := M) hp4 (by omega)
  have q2 : pl room row rs2 = M := by
    rw [pl_all rs2 row v2 (fun x hx => ?_), l2]
    rw [l2]
    exact pow_le (hb x hx).1 (hmin _ (List.mem_map.mpr ⟨x, hx, rfl⟩))
  have v3 : Val room row (List.replicate (M + 1) j) := val_rep _ _ (by omega)
  have q3 : pl room row (List.replicate (M + 1) j) = M := pl_foe M row (by omega) hj1 hjs
  have c1 := placed_ok v1 (by omega)
  have c2 := placed_ok v2 (by omega)
  have c3 := placed_ok v3 (by simp; omega)
  have k1 := count_ok v1 (by omega) (by omega)
  have k2 := count_ok v2 (by omega) (by omega)
  have k3 := count_ok v3 (by simp; omega) (by simp; omega)
  rw [q2] at c2 k2
  rw [q3] at c3 k3
  have hlast : (nts (List.replicate (M + 1) j)).length = M + 1 := by unfold nts; simp
  unfold m_law
  dsimp only
  rw [need_ok (by simp; omega), Res.bind_ok, need_ok (by omega)]
  rw [show filtR (fun (a282 : Int) => Res.quiet (Res.ok true)) (fun (a282 : Int) => Res.quiet (Res.ok (if a282 < 0 then -a282 else a282))) (cut ns none (some (63 : Int))) = .ok ((cut ns none (some (63 : Int))).map fun a => if a < 0 then -a else a) from filtR_ok fun a _ => rfl]
  rw [Res.bind_ok, need_ok (by simp; omega), Res.bind_ok, e1, Res.bind_ok]
  dsimp only
  rw [e2, Res.bind_ok]
  dsimp only
  rw [lspans_ok row room (by omega), Res.bind_ok, powers_ok hb (by omega), Res.bind_ok, em, Res.bind_ok]
  rw [esp (.l row) rfl, Res.bind_ok, list_ok _ (by omega), Res.bind_ok, Res.bind_ok, if_neg (by decide), need_ok (by omega), Res.bind_ok]
  rw [esp (.t row) rfl, Res.bind_ok, Res.bind_ok, list_ok _ (by omega), Res.bind_ok, Res.bind_ok, if_neg (by decide)]
  rw [ewi (.l row) rfl, Res.bind_ok, need_ok ⟨shp_ints _, shp_ints _⟩, Res.bind_ok, eqD_refl, if_neg (by decide), whole_int, Res.bind_ok, Res.bind_ok, if_neg (by decide)]
  rw [show (!decide ((M : Int) = (M : Int))) = false by simp, Res.bind_ok, if_neg (by decide)]
  rw [need_ok (by unfold Rg62; omega), Res.bind_ok, hlen, irange_rng]
  rw [foldM_unit (fun a ha => ?_)]
  · unfold goOn
    rw [Res.bind_ok]
    dsimp only
    rw [e3, Res.bind_ok, Res.bind_ok, Res.bind_ok, need_ok (by omega), Res.bind_ok, Res.bind_ok, Res.bind_ok]
    dsimp only
    rw [en1, e4, Res.bind_ok]
    dsimp only
    rw [c1, Res.bind_ok, k1, Res.bind_ok, Res.bind_ok, if_neg (by simp), e5, Res.bind_ok]
    dsimp only
    rw [c2, Res.bind_ok, k2, Res.bind_ok, Res.bind_ok, if_neg (by simp), Res.bind_ok, if_neg (by simp)]
    rw [ebr (.l row) rfl, Res.bind_ok, ej, Res.bind_ok, Res.bind_ok, need_ok (by simp; omega), Res.bind_ok, rep_ok hM, Res.bind_ok]
    rw [list_ok _ (by rw [hlast]; omega), Res.bind_ok, Res.bind_ok, if_neg (by decide), Res.bind_ok, if_neg (by decide)]
    rw [c3, Res.bind_ok, k3, Res.bind_ok, Res.bind_ok, if_neg (by simp), Res.bind_ok, if_neg (by simp), need_ok (by rw [hlast]; omega), Res.bind_ok]
    rw [ebr (.t row) rfl, Res.bind_ok, list_ok _ (by rw [hlast]; omega), Res.bind_ok, if_pos rfl, ewi (.t row) rfl, Res.bind_ok]
    simp
  · obtain ⟨r, hr, er⟩ : ∃ r : Nat, r ≤ row.length ∧ a = (r : Int) := by
      rw [← rng_map] at ha
      obtain ⟨i, hi, e⟩ := List.mem_map.mp ha
      have := List.mem_range'_1.mp hi
      exact ⟨i, by omega, by omega⟩
    subst er
    rw [need_ok (by simp; omega), Res.bind_ok, Res.bind_ok, idx_nat (sOf_get hr), Res.bind_ok, Res.bind_ok, place_ok hr]
    by_cases h2 : sOf row room r < 2
    · rw [if_neg (by simp; omega), Res.bind_ok, Res.bind_ok, if_pos h2]
      show (need (shp refused = true ∧ shp refused = true) (Res.ok (!eqD refused refused))).bind _ = _
      rw [need_ok ⟨by decide +kernel, by decide +kernel⟩, Res.bind_ok, show eqD refused refused = true by decide +kernel]
      rfl
    · rw [if_pos (by simp; omega)]
      rw [need_ok (by simp; omega), Res.bind_ok, need_ok (by simp; omega), Res.bind_ok, low_idx hr, Res.bind_ok, Res.bind_ok, need_ok (by unfold CDiv; omega), Res.bind_ok, Res.bind_ok, Res.bind_ok, Res.bind_ok, Res.bind_ok, if_neg h2, Res.bind_ok, need_ok ⟨rfl, rfl⟩, Res.bind_ok]
      rw [show eqD (toD (lOf row r + sOf row room r / 2)) (toD (lOf row r + sOf row room r / 2)) = true by show ((lOf row r + sOf row room r / 2) == (lOf row r + sOf row room r / 2)) = true; simp]
      rfl
end K12

set_option Elab.async false
set_option linter.all false
set_option maxRecDepth 100000
set_option maxHeartbeats 4000000
namespace K12
open PySem PySem.Spec PyProof.Rows L2 NF
open NF.Data (toD)
section
variable {P : Program} {w : World} {K : Fg} {mg : MG} {base : Heap}
/-! ### what the top has written -/
def cls_NoPlace : List Stmt := match topS 3 with
  | .ClassDef (body := b) .. => b
  | _ => []
abbrev s_init_NoPlace : Stmt := (cls_NoPlace).getD 0 (.Pass ⟨0, 0, 0, 0⟩)
theorem sc_init_NoPlace : FnScope ["self", "rank"] ["self", "rank"] (defScope s_init_NoPlace) := ⟨rfl, rfl, rfl, by decide +kernel, rfl, by decide +kernel, by decide +kernel⟩
theorem all_mk {l : PySem.W.OpenLaw} {w : World} {K : Fg} {h : Heap} {mg : MG} {fa : Addr} (math : ∀ ns : List Int, ns.length ≤ 63 → m_law ⟨⟨ns⟩, ()⟩ = .ok true) (X : K.In h) (G : h.Ns mainGlobals mg) (hfa : mg "law" = some (.ref fa))
    {f0 : Addr} {od0 an0 : Option Addr} {sl0 : Array (Option Value)} {oc0 kV0 dc0 pm0 cd0 ct0 : Value}
    {f1 : Addr} {od1 an1 : Option Addr} {sl1 : Array (Option Value)} {oc1 kV1 dc1 pm1 cd1 ct1 : Value}
    {f2 : Addr} {od2 an2 : Option Addr} {sl2 : Array (Option Value)} {oc2 kV2 dc2 pm2 cd2 ct2 : Value}
    {f3 : Addr} {od3 an3 : Option Addr} {sl3 : Array (Option Value)} {oc3 kV3 dc3 pm3 cd3 ct3 : Value}
    {f4 : Addr} {od4 an4 : Option Addr} {sl4 : Array (Option Value)} {oc4 kV4 dc4 pm4 cd4 ct4 : Value}
    {f5 : Addr} {od5 an5 : Option Addr} {sl5 : Array (Option Value)} {oc5 kV5 dc5 pm5 cd5 ct5 : Value}
    {f6 : Addr} {od6 an6 : Option Addr} {sl6 : Array (Option Value)} {oc6 kV6 dc6 pm6 cd6 ct6 : Value}
    {f7 : Addr} {od7 an7 : Option Addr} {sl7 : Array (Option Value)} {oc7 kV7 dc7 pm7 cd7 ct7 : Value}
    {f8 : Addr} {od8 an8 : Option Addr} {sl8 : Array (Option Value)} {oc8 kV8 dc8 pm8 cd8 ct8 : Value}
    {f9 : Addr} {od9 an9 : Option Addr} {sl9 : Array (Option Value)} {oc9 kV9 dc9 pm9 cd9 ct9 : Value}
    {f10 : Addr} {od10 an10 : Option Addr} {sl10 : Array (Option Value)} {oc10 kV10 dc10 pm10 cd10 ct10 : Value}
    {f11 : Addr} {od11 an11 : Option Addr} {sl11 : Array (Option Value)} {oc11 kV11 dc11 pm11 cd11 ct11 : Value}
    {f12 : Addr} {od12 an12 : Option Addr} {sl12 : Array (Option Value)} {oc12 kV12 dc12 pm12 cd12 ct12 : Value}
    {f13 : Addr} {od13 an13 : Option Addr} {sl13 : Array (Option Value)} {oc13 kV13 dc13 pm13 cd13 ct13 : Value}
    {f14 : Addr} {od14 an14 : Option Addr} {sl14 : Array (Option Value)} {oc14 kV14 dc14 pm14 cd14 ct14 : Value}
    {f15 : Addr} {od15 an15 : Option Addr} {sl15 : Array (Option Value)} {oc15 kV15 dc15 pm15 cd15 ct15 : Value}
    {f16 : Addr} {od16 an16 : Option Addr} {sl16 : Array (Option Value)} {oc16 kV16 dc16 pm16 cd16 ct16 : Value}
    {f17 : Addr} {od17 an17 : Option Addr} {sl17 : Array (Option Value)} {oc17 kV17 dc17 pm17 cd17 ct17 : Value}
    {f18 : Addr} {od18 an18 : Option Addr} {sl18 : Array (Option Value)} {oc18 kV18 dc18 pm18 cd18 ct18 : Value}
    {f19 : Addr} {od19 an19 : Option Addr} {sl19 : Array (Option Value)} {oc19 kV19 dc19 pm19 cd19 ct19 : Value}
    {f20 : Addr} {od20 an20 : Option Addr} {sl20 : Array (Option Value)} {oc20 kV20 dc20 pm20 cd20 ct20 : Value}
    {C_NoPlace : Addr}
    {C_ColonnadeError : Addr}
    {C_BadCode : Addr}
    {nm_NoPlace q_NoPlace : Str} {N_NoPlace : Addr} {bs_NoPlace : List Value} {sn_NoPlace : List Str} {sub_NoPlace : List Value} {ab_NoPlace : Bool} {col_NoPlace : Option Bool} {dd_NoPlace : Option Addr} {m0_NoPlace m1_NoPlace m2_NoPlace m3_NoPlace m5_NoPlace : Option Value}
    {fI_NoPlace : Addr} {odI_NoPlace anI_NoPlace : Option Addr} {slI_NoPlace : Array (Option Value)} {ocI_NoPlace kVI_NoPlace dcI_NoPlace pmI_NoPlace cdI_NoPlace ctI_NoPlace : Value}
    (a0 : PySem.W.nsIn K mainGlobals "_neighbours" = some (some (.ref f0)))
    (l0 : K.lookup f0 = some ⟨oc0, od0, .func (PySem.W.fnOf "_neighbours" "_neighbours" (defArgs s__neighbours) (defBody s__neighbours) (defScope s__neighbours) .none kV0 dc0 pm0 an0 cd0 ct0), sl0⟩)
    (c0 : PySem.W.codeIn K cd0 "_neighbours" = true)
    (k0 : PySem.W.keepIn K (.ref f0) = true)
    (a1 : PySem.W.nsIn K mainGlobals "_middle" = some (some (.ref f1)))
    (l1 : K.lookup f1 = some ⟨oc1, od1, .func (PySem.W.fnOf "_middle" "_middle" (defArgs s__middle) (defBody s__middle) (defScope s__middle) .none kV1 dc1 pm1 an1 cd1 ct1), sl1⟩)
    (c1 : PySem.W.codeIn K cd1 "_middle" = true)
    (k1 : PySem.W.keepIn K (.ref f1) = true)
    (a2 : PySem.W.nsIn K mainGlobals "_halvings" = some (some (.ref f2)))
    (l2 : K.lookup f2 = some ⟨oc2, od2, .func (PySem.W.fnOf "_halvings" "_halvings" (defArgs s__halvings) (defBody s__halvings) (defScope s__halvings) .none kV2 dc2 pm2 an2 cd2 ct2), sl2⟩)
    (c2 : PySem.W.codeIn K cd2 "_halvings" = true)
    (k2 : PySem.W.keepIn K (.ref f2) = true)
    (a3 : PySem.W.nsIn K mainGlobals "spans" = some (some (.ref f3)))
    (l3 : K.lookup f3 = some ⟨oc3, od3, .func (PySem.W.fnOf "spans" "spans" (defArgs s_spans) (defBody s_spans) (defScope s_spans) .none kV3 dc3 pm3 an3 cd3 ct3), sl3⟩)
    (c3 : PySem.W.codeIn K cd3 "spans" = true)
    (k3 : PySem.W.keepIn K (.ref f3) = true)
    (a4 : PySem.W.nsIn K mainGlobals "_law_take" = some (some (.ref f4)))
    (l4 : K.lookup f4 = some ⟨oc4, od4, .func (PySem.W.fnOf "_law_take" "_law_take" (defArgs s__law_take) (defBody s__law_take) (defScope s__law_take) .none kV4 dc4 pm4 an4 cd4 ct4), sl4⟩)
    (c4 : PySem.W.codeIn K cd4 "_law_take" = true)
    (k4 : PySem.W.keepIn K (.ref f4) = true)
    (a5 : PySem.W.nsIn K mainGlobals "_law_whole" = some (some (.ref f5)))
    (l5 : K.lookup f5 = some ⟨oc5, od5, .func (PySem.W.fnOf "_law_whole" "_law_whole" (defArgs s__law_whole) (defBody s__law_whole) (defScope s__law_whole) .none kV5 dc5 pm5 an5 cd5 ct5), sl5⟩)
    (c5 : PySem.W.codeIn K cd5 "_law_whole" = true)
    (k5 : PySem.W.keepIn K (.ref f5) = true)
    (a6 : PySem.W.nsIn K mainGlobals "_law_power" = some (some (.ref f6)))
    (l6 : K.lookup f6 = some ⟨oc6, od6, .func (PySem.W.fnOf "_law_power" "_law_power" (defArgs s__law_power) (defBody s__law_power) (defScope s__law_power) .none kV6 dc6 pm6 an6 cd6 ct6), sl6⟩)
    (c6 : PySem.W.codeIn K cd6 "_law_power" = true)
    (k6 : PySem.W.keepIn K (.ref f6) = true)
    (a7 : PySem.W.nsIn K mainGlobals "_law_spans" = some (some (.ref f7)))
    (l7 : K.lookup f7 = some ⟨oc7, od7, .func (PySem.W.fnOf "_law_spans" "_law_spans" (defArgs s__law_spans) (defBody s__law_spans) (defScope s__law_spans) .none kV7 dc7 pm7 an7 cd7 ct7), sl7⟩)
    (c7 : PySem.W.codeIn K cd7 "_law_spans" = true)
    (k7 : PySem.W.keepIn K (.ref f7) = true)
    (a8 : PySem.W.nsIn K mainGlobals "withstands" = some (some (.ref f8)))
    (l8 : K.lookup f8 = some ⟨oc8, od8, .func (PySem.W.fnOf "withstands" "withstands" (defArgs s_withstands) (defBody s_withstands) (defScope s_withstands) .none kV8 dc8 pm8 an8 cd8 ct8), sl8⟩)
    (c8 : PySem.W.codeIn K cd8 "withstands" = true)
    (k8 : PySem.W.keepIn K (.ref f8) = true)
    (a9 : PySem.W.nsIn K mainGlobals "comers_placed" = some (some (.ref f9)))
    (l9 : K.lookup f9 = some ⟨oc9, od9, .func (PySem.W.fnOf "comers_placed" "comers_placed" (defArgs s_comers_placed) (defBody s_comers_placed) (defScope s_comers_placed) .none kV9 dc9 pm9 an9 cd9 ct9), sl9⟩)
    (c9 : PySem.W.codeIn K cd9 "comers_placed" = true)
    (k9 : PySem.W.keepIn K (.ref f9) = true)
    (a10 : PySem.W.nsIn K mainGlobals "_law_row" = some (some (.ref f10)))
    (l10 : K.lookup f10 = some ⟨oc10, od10, .func (PySem.W.fnOf "_law_row" "_law_row" (defArgs s__law_row) (defBody s__law_row) (defScope s__law_row) .none kV10 dc10 pm10 an10 cd10 ct10), sl10⟩)
    (c10 : PySem.W.codeIn K cd10 "_law_row" = true)
    (k10 : PySem.W.keepIn K (.ref f10) = true)
    (a11 : PySem.W.nsIn K mainGlobals "_law_room" = some (some (.ref f11)))
    (l11 : K.lookup f11 = some ⟨oc11, od11, .func (PySem.W.fnOf "_law_room" "_law_room" (defArgs s__law_room) (defBody s__law_room) (defScope s__law_room) .none kV11 dc11 pm11 an11 cd11 ct11), sl11⟩)
    (c11 : PySem.W.codeIn K cd11 "_law_room" = true)
    (k11 : PySem.W.keepIn K (.ref f11) = true)
    (a12 : PySem.W.nsIn K mainGlobals "_law_ranks" = some (some (.ref f12)))
    (l12 : K.lookup f12 = some ⟨oc12, od12, .func (PySem.W.fnOf "_law_ranks" "_law_ranks" (defArgs s__law_ranks) (defBody s__law_ranks) (defScope s__law_ranks) .none kV12 dc12 pm12 an12 cd12 ct12), sl12⟩)
    (c12 : PySem.W.codeIn K cd12 "_law_ranks" = true)
    (k12 : PySem.W.keepIn K (.ref f12) = true)
    (a13 : PySem.W.nsIn K mainGlobals "_law_placed" = some (some (.ref f13)))
    (l13 : K.lookup f13 = some ⟨oc13, od13, .func (PySem.W.fnOf "_law_placed" "_law_placed" (defArgs s__law_placed) (defBody s__law_placed) (defScope s__law_placed) .none kV13 dc13 pm13 an13 cd13 ct13), sl13⟩)
    (c13 : PySem.W.codeIn K cd13 "_law_placed" = true)
    (k13 : PySem.W.keepIn K (.ref f13) = true)
    (a14 : PySem.W.nsIn K mainGlobals "_law_list" = some (some (.ref f14)))
    (l14 : K.lookup f14 = some ⟨oc14, od14, .func (PySem.W.fnOf "_law_list" "_law_list" (defArgs s__law_list) (defBody s__law_list) (defScope s__law_list) .none kV14 dc14 pm14 an14 cd14 ct14), sl14⟩)
    (c14 : PySem.W.codeIn K cd14 "_law_list" = true)
    (k14 : PySem.W.keepIn K (.ref f14) = true)
    (a15 : PySem.W.nsIn K mainGlobals "_weakest_rank" = some (some (.ref f15)))
    (l15 : K.lookup f15 = some ⟨oc15, od15, .func (PySem.W.fnOf "_weakest_rank" "_weakest_rank" (defArgs s__weakest_rank) (defBody s__weakest_rank) (defScope s__weakest_rank) .none kV15 dc15 pm15 an15 cd15 ct15), sl15⟩)
    (c15 : PySem.W.codeIn K cd15 "_weakest_rank" = true)
    (k15 : PySem.W.keepIn K (.ref f15) = true)
    (a16 : PySem.W.nsIn K mainGlobals "place_comer" = some (some (.ref f16)))
    (l16 : K.lookup f16 = some ⟨oc16, od16, .func (PySem.W.fnOf "place_comer" "place_comer" (defArgs s_place_comer) (defBody s_place_comer) (defScope s_place_comer) .none kV16 dc16 pm16 an16 cd16 ct16), sl16⟩)
    (c16 : PySem.W.codeIn K cd16 "place_comer" = true)
    (k16 : PySem.W.keepIn K (.ref f16) = true)
    (a17 : PySem.W.nsIn K mainGlobals "_law_count" = some (some (.ref f17)))
    (l17 : K.lookup f17 = some ⟨oc17, od17, .func (PySem.W.fnOf "_law_count" "_law_count" (defArgs s__law_count) (defBody s__law_count) (defScope s__law_count) .none kV17 dc17 pm17 an17 cd17 ct17), sl17⟩)
    (c17 : PySem.W.codeIn K cd17 "_law_count" = true)
    (k17 : PySem.W.keepIn K (.ref f17) = true)
    (a18 : PySem.W.nsIn K mainGlobals "breaking" = some (some (.ref f18)))
    (l18 : K.lookup f18 = some ⟨oc18, od18, .func (PySem.W.fnOf "breaking" "breaking" (defArgs s_breaking) (defBody s_breaking) (defScope s_breaking) .none kV18 dc18 pm18 an18 cd18 ct18), sl18⟩)
    (c18 : PySem.W.codeIn K cd18 "breaking" = true)
    (k18 : PySem.W.keepIn K (.ref f18) = true)
    (a19 : PySem.W.nsIn K mainGlobals "_law_place" = some (some (.ref f19)))
    (l19 : K.lookup f19 = some ⟨oc19, od19, .func (PySem.W.fnOf "_law_place" "_law_place" (defArgs s__law_place) (defBody s__law_place) (defScope s__law_place) .none kV19 dc19 pm19 an19 cd19 ct19), sl19⟩)
    (c19 : PySem.W.codeIn K cd19 "_law_place" = true)
    (k19 : PySem.W.keepIn K (.ref f19) = true)
    (a20 : PySem.W.nsIn K mainGlobals "law" = some (some (.ref f20)))
    (l20 : K.lookup f20 = some ⟨oc20, od20, .func (PySem.W.fnOf "law" "law" (defArgs s_law) (defBody s_law) (defScope s_law) .none kV20 dc20 pm20 an20 cd20 ct20), sl20⟩)
    (c20 : PySem.W.codeIn K cd20 "law" = true)
    (k20 : PySem.W.keepIn K (.ref f20) = true)
    (a_NoPlace : PySem.W.nsIn K mainGlobals "NoPlace" = some (some (.ref C_NoPlace)))
    (a_ColonnadeError : PySem.W.nsIn K mainGlobals "ColonnadeError" = some (some (.ref C_ColonnadeError)))
    (a_BadCode : PySem.W.nsIn K mainGlobals "BadCode" = some (some (.ref C_BadCode)))
    (y_len : PySem.W.nsIn K mainGlobals "len" = some none)
    (y_zip : PySem.W.nsIn K mainGlobals "zip" = some none)
    (y_int : PySem.W.nsIn K mainGlobals "int" = some none)
    (y_bool : PySem.W.nsIn K mainGlobals "bool" = some none)
    (y_isinstance : PySem.W.nsIn K mainGlobals "isinstance" = some none)
    (y_range : PySem.W.nsIn K mainGlobals "range" = some none)
    (y_min : PySem.W.nsIn K mainGlobals "min" = some none)
    (y_enumerate : PySem.W.nsIn K mainGlobals "enumerate" = some none)
    (y_list : PySem.W.nsIn K mainGlobals "list" = some none)
    (y_max : PySem.W.nsIn K mainGlobals "max" = some none)
    (y_all : PySem.W.nsIn K mainGlobals "all" = some none)
    (eC_NoPlace : PySem.W.subIn K (.ref C_NoPlace) (.type "BaseException") = some true)
    (tC_NoPlace : PySem.W.typeIn K (.ref C_NoPlace) = some (.type "type"))
    (hC_NoPlace : PySem.W.hasDictIn K C_NoPlace = true)
    (xL_NoPlace : K.lookup C_NoPlace = some (excClassObj nm_NoPlace q_NoPlace C_NoPlace N_NoPlace bs_NoPlace [.ref C_ColonnadeError, .type "ValueError", .type "Exception", .type "BaseException", .type "object"] true sn_NoPlace sub_NoPlace ab_NoPlace col_NoPlace dd_NoPlace m0_NoPlace m1_NoPlace m2_NoPlace m3_NoPlace m5_NoPlace "ValueError.__new__"))
    (sa_NoPlace : PySem.W.findIn K (.ref C_NoPlace) "__setattr__" = some (some (.builtin "object.__setattr__")))
    (kC_NoPlace : PySem.W.keepIn K (.ref C_NoPlace) = true)
    (nf_NoPlace_rank : PySem.W.findIn K (.ref C_NoPlace) "rank" = some none)
    (i_NoPlace : PySem.W.findIn K (.ref C_NoPlace) "__init__" = some (some (.ref fI_NoPlace)))
    (t_NoPlace : PySem.W.typeIn K (.ref fI_NoPlace) = some (.type "function"))
    (lI_NoPlace : K.lookup fI_NoPlace = some ⟨ocI_NoPlace, odI_NoPlace, .func (PySem.W.fnOf "__init__" "NoPlace.__init__" (defArgs s_init_NoPlace) (defBody s_init_NoPlace) (defScope s_init_NoPlace) .none kVI_NoPlace dcI_NoPlace pmI_NoPlace anI_NoPlace cdI_NoPlace ctI_NoPlace), slI_NoPlace⟩)
    (cI_NoPlace : PySem.W.codeIn K cdI_NoPlace "NoPlace.__init__" = true)
    (kI_NoPlace : PySem.W.keepIn K (.ref fI_NoPlace) = true)
    (y_repr : PySem.W.nsIn K mainGlobals "repr" = some none)
    (y_tuple : PySem.W.nsIn K mainGlobals "tuple" = some none)
    (ga_NoPlace : PySem.W.findIn K (.ref C_NoPlace) "__getattribute__" = some (some (.builtin "BaseException.__getattribute__")))
    (gg_NoPlace : PySem.W.findIn K (.ref C_NoPlace) "__getattr__" = some none)
    (cc_NoPlace : PySem.W.findIn K (.ref C_NoPlace) "__class__" = some (some (.builtin "object.__class__")))
    (cn : PySem.W.specialIn K (.builtin "object.__class__") "__get__" = some (some (.builtin "getset_descriptor.__get__")))
    (ct : PySem.W.takesIn K (.builtin "object.__class__") = some true)
    (mo_NoPlace : PySem.W.mroIn K C_NoPlace (.type "object") = some true)
    (k_NoPlace_ColonnadeError : PySem.W.kitOne K (.ref C_NoPlace) (.ref C_ColonnadeError) = some true)
    (k_NoPlace_BadCode : PySem.W.kitOne K (.ref C_NoPlace) (.ref C_BadCode) = some false)
    (sC_NoPlace : PySem.W.subIn K (.ref C_NoPlace) (.ref C_NoPlace) = some true)
    (y_abs : PySem.W.nsIn K mainGlobals "abs" = some none) :
    ∃ fd : FuncData, (∀ (s : Shared) (v : Value), BindsTo s fd ⟨[v], []⟩ [("script", v)]) ∧ ∀ base : Heap, K.In base → base.Ns mainGlobals mg → FnOk l.prog w K mg base CX0 5 fa fd ["script"] (spLaw K 63) := by
  have e := hfa.symm.trans (PySem.W.mg_of X G a20)
  cases e
  have m_NoPlace := PySem.W.mg_of X G a_NoPlace
  have m_ColonnadeError := PySem.W.mg_of X G a_ColonnadeError
  have m_BadCode := PySem.W.mg_of X G a_BadCode
  have z_len := PySem.W.mg_none_of X G y_len
  have z_zip := PySem.W.mg_none_of X G y_zip
  have z_int := PySem.W.mg_none_of X G y_int
  have z_bool := PySem.W.mg_none_of X G y_bool
  have z_isinstance := PySem.W.mg_none_of X G y_isinstance
  have z_range := PySem.W.mg_none_of X G y_range
  have z_min := PySem.W.mg_none_of X G y_min
  have z_enumerate := PySem.W.mg_none_of X G y_enumerate
  have z_list := PySem.W.mg_none_of X G y_list
  have z_max := PySem.W.mg_none_of X G y_max
  have z_all := PySem.W.mg_none_of X G y_all
  have O_NoPlace : OexC K C_NoPlace := ⟨⟨_, _, _, _, _, _, _, _, _, _, _, _, _, _, _, xL_NoPlace, by first | rfl | decide +kernel⟩, sa_NoPlace, eC_NoPlace, tC_NoPlace, kC_NoPlace⟩
  have FI_NoPlace := fun_mk (st := s_init_NoPlace) lI_NoPlace cI_NoPlace kI_NoPlace
  have R_NoPlace : ∀ base, ErrAt l.prog w K mg base 1 "NoPlace" "rank" := fun base => ⟨_, _, _, ["self", "rank"], m_NoPlace, O_NoPlace, i_NoPlace, t_NoPlace, def_O FI_NoPlace sc_init_NoPlace rfl O_NoPlace nf_NoPlace_rank (.inl rfl) (.inl rfl) (by decide) (by decide) (by decide) (by decide), FI_NoPlace.binds (ps := ["self", "rank"]) fun _ _ _ _ _ _ us hl => match us, hl with | [_, _], _ => rfl⟩
  have z_repr := PySem.W.mg_none_of X G y_repr
  have z_tuple := PySem.W.mg_none_of X G y_tuple
  have ec_NoPlace : ExcC K C_NoPlace := ⟨ga_NoPlace, gg_NoPlace, eC_NoPlace, hC_NoPlace, cc_NoPlace, cn, ct, mo_NoPlace⟩
  have xf_NoPlace : XfC K C_NoPlace := ⟨ga_NoPlace, gg_NoPlace, eC_NoPlace, hC_NoPlace⟩
  have ex_NoPlace : PySem.W.exmOne K (.ref C_NoPlace) (.ref C_NoPlace) = some true := PySem.W.exm_ref eC_NoPlace hC_NoPlace tC_NoPlace sC_NoPlace
  have z_abs := PySem.W.mg_none_of X G y_abs
  have F0 := fun_mk (st := s__neighbours) l0 c0 k0
  have b0 := F0.binds (ps := ["row", "room", "rank"]) fun _ _ _ _ _ _ us hl => match us, hl with | [_, _, _], _ => rfl
  have D__neighbours : ∀ base, DefAt l.prog w K mg base CX0 1 "_neighbours" ["row", "room", "rank"] (spP K mg m_neighbours) := fun base => ⟨_, _, ok__neighbours F0 (z_len := z_len), PySem.W.mg_of X G a0, k0, b0⟩
  have F1 := fun_mk (st := s__middle) l1 c1 k1
  have b1 := F1.binds (ps := ["low", "high"]) fun _ _ _ _ _ _ us hl => match us, hl with | [_, _], _ => rfl
  have D__middle : ∀ base, DefAt l.prog w K mg base CX0 1 "_middle" ["low", "high"] (spP K mg m_middle) := fun base => ⟨_, _, ok__middle F1 , PySem.W.mg_of X G a1, k1, b1⟩
  have F2 := fun_mk (st := s__halvings) l2 c2 k2
  have b2 := F2.binds (ps := ["span"]) fun _ _ _ _ _ _ us hl => match us, hl with | [_], _ => rfl
  have D__halvings : ∀ base, DefAt l.prog w K mg base CX0 1 "_halvings" ["span"] (spP K mg m_halvings) := fun base => ⟨_, _, ok__halvings F2 , PySem.W.mg_of X G a2, k2, b2⟩
  have F3 := fun_mk (st := s_spans) l3 c3 k3
  have b3 := F3.binds (ps := ["row", "room"]) fun _ _ _ _ _ _ us hl => match us, hl with | [_, _], _ => rfl
  have D_spans : ∀ base, DefAt l.prog w K mg base CX0 1 "spans" ["row", "room"] (spF K mg m_spans) := fun base => ⟨_, _, ok_spans F3 (z_zip := z_zip), PySem.W.mg_of X G a3, k3, b3⟩
  have F4 := fun_mk (st := s__law_take) l4 c4 k4
  have b4 := F4.binds (ps := ["pool", "many"]) fun _ _ _ _ _ _ us hl => match us, hl with | [_, _], _ => rfl
  have D__law_take : ∀ base, DefAt l.prog w K mg base CX0 1 "_law_take" ["pool", "many"] (spI K mg m_law_take) := fun base => ⟨_, _, ok__law_take F4 (z_int := z_int) (z_len := z_len), PySem.W.mg_of X G a4, k4, b4⟩
  have F5 := fun_mk (st := s__law_whole) l5 c5 k5
  have b5 := F5.binds (ps := ["thing"]) fun _ _ _ _ _ _ us hl => match us, hl with | [_], _ => rfl
  have D__law_whole : ∀ base, DefAt l.prog w K mg base CX0 1 "_law_whole" ["thing"] (spP K mg m_law_whole) := fun base => ⟨_, _, ok__law_whole F5 (z_bool := z_bool) (z_int := z_int) (z_isinstance := z_isinstance), PySem.W.mg_of X G a5, k5, b5⟩
  have DH__law_whole : ∀ base, DefH l.prog w K mg base 1 "_law_whole" ["thing"] (spP K mg m_law_whole) := fun base => ⟨_, _, okH__law_whole F5 (z_bool := z_bool) (z_int := z_int) (z_isinstance := z_isinstance), PySem.W.mg_of X G a5, k5, b5⟩
  have F6 := fun_mk (st := s__law_power) l6 c6 k6
  have b6 := F6.binds (ps := ["span"]) fun _ _ _ _ _ _ us hl => match us, hl with | [_], _ => rfl
  have D__law_power : ∀ base, DefAt l.prog w K mg base CX0 1 "_law_power" ["span"] (spP K mg m_law_power) := fun base => ⟨_, _, ok__law_power F6 (z_range := z_range), PySem.W.mg_of X G a6, k6, b6⟩
  have F7 := fun_mk (st := s__law_spans) l7 c7 k7
  have b7 := F7.binds (ps := ["row", "room"]) fun _ _ _ _ _ _ us hl => match us, hl with | [_, _], _ => rfl
  have D__law_spans : ∀ base, DefAt l.prog w K mg base CX0 1 "_law_spans" ["row", "room"] (spF K mg m_law_spans) := fun base => ⟨_, _, ok__law_spans F7 (z_len := z_len) (z_range := z_range), PySem.W.mg_of X G a7, k7, b7⟩
  have F8 := fun_mk (st := s_withstands) l8 c8 k8
  have b8 := F8.binds (ps := ["row", "room"]) fun _ _ _ _ _ _ us hl => match us, hl with | [_, _], _ => rfl
  have D_withstands : ∀ base, DefAt l.prog w K mg base CX0 2 "withstands" ["row", "room"] (spP K mg m_withstands) := fun base => ⟨_, _, ok_withstands F8 (D_spans := D_spans base) (D__halvings := D__halvings base) (z_min := z_min), PySem.W.mg_of X G a8, k8, b8⟩
  have F9 := fun_mk (st := s_comers_placed) l9 c9 k9
  have b9 := F9.binds (ps := ["row", "room", "ranks"]) fun _ _ _ _ _ _ us hl => match us, hl with | [_, _, _], _ => rfl
  have D_comers_placed : ∀ base, DefAt l.prog w K mg base CX0 2 "comers_placed" ["row", "room", "ranks"] (spP K mg m_comers_placed) := fun base => ⟨_, _, ok_comers_placed F9 (D__neighbours := D__neighbours base) (D__middle := D__middle base) (z_enumerate := z_enumerate) (z_len := z_len) (z_list := z_list), PySem.W.mg_of X G a9, k9, b9⟩
  have F10 := fun_mk (st := s__law_row) l10 c10 k10
  have b10 := F10.binds (ps := ["pool"]) fun _ _ _ _ _ _ us hl => match us, hl with | [_], _ => rfl
  have D__law_row : ∀ base, DefAt l.prog w K mg base CX0 2 "_law_row" ["pool"] (spI K mg m_law_row) := fun base => ⟨_, _, ok__law_row F10 (D__law_take := D__law_take base) (z_int := z_int) (z_range := z_range), PySem.W.mg_of X G a10, k10, b10⟩
  have F11 := fun_mk (st := s__law_room) l11 c11 k11
  have b11 := F11.binds (ps := ["pool", "row"]) fun _ _ _ _ _ _ us hl => match us, hl with | [_, _], _ => rfl
  have D__law_room : ∀ base, DefAt l.prog w K mg base CX0 2 "_law_room" ["pool", "row"] (spI K mg m_law_room) := fun base => ⟨_, _, ok__law_room F11 (D__law_take := D__law_take base) (z_int := z_int) (z_max := z_max), PySem.W.mg_of X G a11, k11, b11⟩
  have F12 := fun_mk (st := s__law_ranks) l12 c12 k12
  have b12 := F12.binds (ps := ["pool", "row", "room", "count"]) fun _ _ _ _ _ _ us hl => match us, hl with | [_, _, _, _], _ => rfl
  have D__law_ranks : ∀ base, DefAt l.prog w K mg base CX0 2 "_law_ranks" ["pool", "row", "room", "count"] (spI K mg m_law_ranks) := fun base => ⟨_, _, ok__law_ranks F12 (D__law_take := D__law_take base) (D__law_spans := D__law_spans base) (z_len := z_len) (z_list := z_list) (z_range := z_range), PySem.W.mg_of X G a12, k12, b12⟩
  have F13 := fun_mk (st := s__law_placed) l13 c13 k13
  have b13 := F13.binds (ps := ["row", "room", "ranks"]) fun _ _ _ _ _ _ us hl => match us, hl with | [_, _, _], _ => rfl
  have D__law_placed : ∀ base, DefAt l.prog w K mg base CX0 2 "_law_placed" ["row", "room", "ranks"] (spP K mg m_law_placed) := fun base => ⟨_, _, ok__law_placed F13 (D__law_spans := D__law_spans base) (z_len := z_len) (z_list := z_list) (z_range := z_range), PySem.W.mg_of X G a13, k13, b13⟩
  have F14 := fun_mk (st := s__law_list) l14 c14 k14
  have b14 := F14.binds (ps := ["told", "due"]) fun _ _ _ _ _ _ us hl => match us, hl with | [_, _], _ => rfl
  have D__law_list : ∀ base, DefAt l.prog w K mg base CX0 2 "_law_list" ["told", "due"] (spP K mg m_law_list) := fun base => ⟨_, _, ok__law_list F14 (D__law_whole := D__law_whole base) (z_all := z_all) (z_isinstance := z_isinstance) (z_len := z_len) (z_list := z_list), PySem.W.mg_of X G a14, k14, b14⟩
  have F15 := fun_mk (st := s__weakest_rank) l15 c15 k15
  have b15 := F15.binds (ps := ["row", "room"]) fun _ _ _ _ _ _ us hl => match us, hl with | [_, _], _ => rfl
  have D__weakest_rank : ∀ base, DefAt l.prog w K mg base CX0 3 "_weakest_rank" ["row", "room"] (spP K mg m_weakest_rank) := fun base => ⟨_, _, ok__weakest_rank F15 (D_spans := D_spans base) (D__halvings := D__halvings base) (D_withstands := D_withstands base), PySem.W.mg_of X G a15, k15, b15⟩
  have F16 := fun_mk (st := s_place_comer) l16 c16 k16
  have b16 := F16.binds (ps := ["row", "room", "rank"]) fun _ _ _ _ _ _ us hl => match us, hl with | [_, _, _], _ => rfl
  have D_place_comer : ∀ base, DefAt l.prog w K mg base (L2N.CX l.prog w) 3 "place_comer" ["row", "room", "rank"] (spX K mg m_place_comer) := fun base => ⟨_, _, ok_place_comer F16 (D__neighbours := D__neighbours base) (R_NoPlace := R_NoPlace base) (D__middle := D__middle base), PySem.W.mg_of X G a16, k16, b16⟩
  have F17 := fun_mk (st := s__law_count) l17 c17 k17
  have b17 := F17.binds (ps := ["row", "room", "ranks"]) fun _ _ _ _ _ _ us hl => match us, hl with | [_, _, _], _ => rfl
  have D__law_count : ∀ base, DefAt l.prog w K mg base CX0 3 "_law_count" ["row", "room", "ranks"] (spP K mg m_law_count) := fun base => ⟨_, _, ok__law_count F17 (D_comers_placed := D_comers_placed base) (D__law_whole := D__law_whole base) (z_list := z_list) (z_repr := z_repr) (z_tuple := z_tuple), PySem.W.mg_of X G a17, k17, b17⟩
  have F18 := fun_mk (st := s_breaking) l18 c18 k18
  have b18 := F18.binds (ps := ["row", "room"]) fun _ _ _ _ _ _ us hl => match us, hl with | [_, _], _ => rfl
  have D_breaking : ∀ base, DefAt l.prog w K mg base CX0 4 "breaking" ["row", "room"] (spF K mg m_breaking) := fun base => ⟨_, _, ok_breaking F18 (D__weakest_rank := D__weakest_rank base) (D_withstands := D_withstands base), PySem.W.mg_of X G a18, k18, b18⟩
  have F19 := fun_mk (st := s__law_place) l19 c19 k19
  have b19 := F19.binds (ps := ["row", "room", "rank"]) fun _ _ _ _ _ _ us hl => match us, hl with | [_, _, _], _ => rfl
  have D__law_place : ∀ base, DefAt l.prog w K mg base CX0 4 "_law_place" ["row", "room", "rank"] (spP K mg m_law_place) := fun base => ⟨_, _, ok__law_place F19 (D_place_comer := D_place_comer base) (m_NoPlace := m_NoPlace) (m_ColonnadeError := m_ColonnadeError) (ec_NoPlace := ec_NoPlace) (k_NoPlace_ColonnadeError := k_NoPlace_ColonnadeError) (m_BadCode := m_BadCode) (k_NoPlace_BadCode := k_NoPlace_BadCode) (xf_NoPlace := xf_NoPlace) (nf_NoPlace_rank := nf_NoPlace_rank) (DH__law_whole := DH__law_whole base) (ex_NoPlace := ex_NoPlace) (D__law_whole := D__law_whole base) (z_int := z_int) (z_isinstance := z_isinstance) (z_list := z_list) (z_tuple := z_tuple), PySem.W.mg_of X G a19, k19, b19⟩
  have F20 := fun_mk (st := s_law) l20 c20 k20
  exact ⟨_, fun s v => .of_eq rfl, fun base _ _ => law_of (ok_law F20 (D__law_row := D__law_row base) (D__law_room := D__law_room base) (D__law_spans := D__law_spans base) (D__law_power := D__law_power base) (D_spans := D_spans base) (D__law_list := D__law_list base) (D_withstands := D_withstands base) (D__law_whole := D__law_whole base) (D__law_place := D__law_place base) (D__law_ranks := D__law_ranks base) (D__law_take := D__law_take base) (D__law_placed := D__law_placed base) (D__law_count := D__law_count base) (D_breaking := D_breaking base) (z_abs := z_abs) (z_int := z_int) (z_len := z_len) (z_list := z_list) (z_min := z_min) (z_range := z_range) (z_tuple := z_tuple)) math⟩
end
end K12
open PySem PySem.W PyProof.Rows
set_option maxHeartbeats 0 in
theorem PySem.Challenge.cw_colonnade_k12_rows_withstand_holds : PySem.Challenge.rw_colonnade_k12_rows_withstand.Holds := by
  w_on; o_law; k_head; (case hw => w_witness2)
  k_fill
  refine L2.walk_of (l := PySem.Challenge.rw_colonnade_k12_rows_withstand) (n := 63) (k := 5) (x := "script") (CX := fun _ => L2.CX0) (sp := fun w => NF.spLaw _ 63) rfl (by decide) rfl ⟨rfl, by decide, by decide⟩ (fun w h Y => PySem.W.kIn_of Y) ?F (fun _ _ a ns hl _ hS => ⟨a, ns, rfl, hS, hl, fun _ => rfl⟩) (fun _ _ _ _ _ h => h)
  case F =>
    intro w mg fa h KX G hmg
    refine' K12.all_mk K12.math KX G hmg ?a0 ?l0 ?c0 ?k0 ?a1 ?l1 ?c1 ?k1 ?a2 ?l2 ?c2 ?k2 ?a3 ?l3 ?c3 ?k3 ?a4 ?l4 ?c4 ?k4 ?a5 ?l5 ?c5 ?k5 ?a6 ?l6 ?c6 ?k6 ?a7 ?l7 ?c7 ?k7 ?a8 ?l8 ?c8 ?k8 ?a9 ?l9 ?c9 ?k9 ?a10 ?l10 ?c10 ?k10 ?a11 ?l11 ?c11 ?k11 ?a12 ?l12 ?c12 ?k12 ?a13 ?l13 ?c13 ?k13 ?a14 ?l14 ?c14 ?k14 ?a15 ?l15 ?c15 ?k15 ?a16 ?l16 ?c16 ?k16 ?a17 ?l17 ?c17 ?k17 ?a18 ?l18 ?c18 ?k18 ?a19 ?l19 ?c19 ?k19 ?a20 ?l20 ?c20 ?k20 ?a_NoPlace ?a_ColonnadeError ?a_BadCode ?y_len ?y_zip ?y_int ?y_bool ?y_isinstance ?y_range ?y_min ?y_enumerate ?y_list ?y_max ?y_all ?eC_NoPlace ?tC_NoPlace ?hC_NoPlace ?xL_NoPlace ?sa_NoPlace ?kC_NoPlace ?nf_NoPlace_rank ?i_NoPlace ?t_NoPlace ?lI_NoPlace ?cI_NoPlace ?kI_NoPlace ?y_repr ?y_tuple ?ga_NoPlace ?gg_NoPlace ?cc_NoPlace ?cn ?ct ?mo_NoPlace ?k_NoPlace_ColonnadeError ?k_NoPlace_BadCode ?sC_NoPlace ?y_abs
    (case a0 => k_is)
    (case l0 => k_is)
    (case c0 => k_is)
    (case k0 => k_is)
    (case a1 => k_is)
    (case l1 => k_is)
    (case c1 => k_is)
    (case k1 => k_is)
    (case a2 => k_is)
    (case l2 => k_is)
    (case c2 => k_is)
    (case k2 => k_is)
    (case a3 => k_is)
    (case l3 => k_is)
    (case c3 => k_is)
    (case k3 => k_is)
    (case a4 => k_is)
    (case l4 => k_is)
    (case c4 => k_is)
    (case k4 => k_is)
    (case a5 => k_is)
    (case l5 => k_is)
    (case c5 => k_is)
    (case k5 => k_is)
    (case a6 => k_is)
    (case l6 => k_is)
    (case c6 => k_is)
    (case k6 => k_is)
    (case a7 => k_is)
    (case l7 => k_is)
    (case c7 => k_is)
    (case k7 => k_is)
    (case a8 => k_is)
    (case l8 => k_is)
    (case c8 => k_is)
    (case k8 => k_is)
    (case a9 => k_is)
    (case l9 => k_is)
    (case c9 => k_is)
    (case k9 => k_is)
    (case a10 => k_is)
    (case l10 => k_is)
    (case c10 => k_is)
    (case k10 => k_is)
    (case a11 => k_is)
    (case l11 => k_is)
    (case c11 => k_is)
    (case k11 => k_is)
    (case a12 => k_is)
    (case l12 => k_is)
    (case c12 => k_is)
    (case k12 => k_is)
    (case a13 => k_is)
    (case l13 => k_is)
    (case c13 => k_is)
    (case k13 => k_is)
    (case a14 => k_is)
    (case l14 => k_is)
    (case c14 => k_is)
    (case k14 => k_is)
    (case a15 => k_is)
    (case l15 => k_is)
    (case c15 => k_is)
    (case k15 => k_is)
    (case a16 => k_is)
    (case l16 => k_is)
    (case c16 => k_is)
    (case k16 => k_is)
    (case a17 => k_is)
    (case l17 => k_is)
    (case c17 => k_is)
    (case k17 => k_is)
    (case a18 => k_is)
    (case l18 => k_is)
    (case c18 => k_is)
    (case k18 => k_is)
    (case a19 => k_is)
    (case l19 => k_is)
    (case c19 => k_is)
    (case k19 => k_is)
    (case a20 => k_is)
    (case l20 => k_is)
    (case c20 => k_is)
    (case k20 => k_is)
    (case a_NoPlace => k_is)
    (case a_ColonnadeError => k_is)
    (case a_BadCode => k_is)
    (case y_len => k_is)
    (case y_zip => k_is)
    (case y_int => k_is)
    (case y_bool => k_is)
    (case y_isinstance => k_is)
    (case y_range => k_is)
    (case y_min => k_is)
    (case y_enumerate => k_is)
    (case y_list => k_is)
    (case y_max => k_is)
    (case y_all => k_is)
    (case eC_NoPlace => k_is)
    (case tC_NoPlace => k_is)
    (case hC_NoPlace => k_is)
    (case xL_NoPlace => k_is)
    (case sa_NoPlace => k_is)
    (case kC_NoPlace => k_is)
    (case nf_NoPlace_rank => k_is)
    (case i_NoPlace => k_is)
    (case t_NoPlace => k_is)
    (case lI_NoPlace => k_is)
    (case cI_NoPlace => k_is)
    (case kI_NoPlace => k_is)
    (case y_repr => k_is)
    (case y_tuple => k_is)
    (case ga_NoPlace => k_is)
    (case gg_NoPlace => k_is)
    (case cc_NoPlace => k_is)
    (case cn => k_is)
    (case ct => k_is)
    (case mo_NoPlace => k_is)
    (case k_NoPlace_ColonnadeError => first | kit_is | k_is)
    (case k_NoPlace_BadCode => first | kit_is | k_is)
    (case sC_NoPlace => first | rfl | k_is)
    (case y_abs => k_is)
