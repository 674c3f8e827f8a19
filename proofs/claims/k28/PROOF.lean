import PyProof.Rows.All
import HandS.ForMost
import HandS.ForExc
import HandS.Walk
import HandS.Star
import HandS.WideBits
import HandS.IsInst
import HandS.RaiseMore
import HandS.ExcInitHot
import HandS.ExcIs
import HandS.ExcField
import HandS.WordsExc
import HandS.Wide
import HandS.Style
import HandS.TupAny
import KE.IntBitsLaws
import HandS.TupLe
import HandS.Conv
import HandS.Text
import HandS.StrMore
import HandS.Iter
import Wide.All
import OpenK.AllK
import Wide.FinOn
import PySem.Challenge.RW_colonnade_k28_words_of_texts
set_option Elab.async false
set_option linter.all false
set_option maxRecDepth 100000
/-! Nf0: what a value stands for, owned objects, the state at a point, outcomes, and the normal forms of readings. -/
namespace NF
open PySem PySem.Spec PyProof.Rows L2

abbrev Fg := PySem.W.Frag
abbrev MG := Str → Option Value

/-! ### outcomes -/
inductive Res (α : Type) where
  | ok (a : α)
  | err (c : Str) (fs : List (Str × PyData))
  | bad
namespace Res
def bind {α β : Type} : Res α → (α → Res β) → Res β
  | .ok a, f => f a
  | .err c fs, _ => .err c fs
  | .bad, _ => .bad
def map {α β : Type} (m : Res α) (f : α → β) : Res β := m.bind fun a => .ok (f a)
@[simp] theorem bind_ok {α β : Type} (a : α) (f : α → Res β) : (Res.ok a).bind f = f a := rfl
@[simp] theorem bind_err {α β : Type} (c : Str) (fs : List (Str × PyData)) (f : α → Res β) : (Res.err c fs : Res α).bind f = .err c fs := rfl
@[simp] theorem bind_bad {α β : Type} (f : α → Res β) : (Res.bad : Res α).bind f = .bad := rfl
theorem bind_assoc {α β γ : Type} (m : Res α) (f : α → Res β) (g : β → Res γ) : (m.bind f).bind g = m.bind fun a => (f a).bind g := by cases m <;> rfl
end Res
/-- a condition that must hold -/
@[irreducible] def need (p : Prop) [Decidable p] {α : Type} (m : Res α) : Res α := if p then m else .bad

/-! bounds, so told that the kernel never counts down from them -/
def inB (k : Nat) : Int → Bool
  | .ofNat m => Nat.ble (m + 1) k
  | .negSucc m => Nat.ble (m + 1) k
theorem inB_iff {k : Nat} {n : Int} : inB k n = true ↔ -(k : Int) ≤ n ∧ n < k := by
  cases n with
  | ofNat m => show Nat.ble (m + 1) k = true ↔ _; rw [Nat.ble_eq]; simp only [Int.ofNat_eq_natCast]; omega
  | negSucc m => show Nat.ble (m + 1) k = true ↔ _; rw [Nat.ble_eq]; omega
/-- within 2^62, 2^63 either way -/
def Rg62 (n : Int) : Prop := -(2 ^ 62) ≤ n ∧ n < 2 ^ 62
def Rg63 (n : Int) : Prop := -(2 ^ 63) ≤ n ∧ n < 2 ^ 63
def Rg64 (n : Int) : Prop := -(2 ^ 64) < n ∧ n < 2 ^ 64
@[irreducible] def decRg62 (n : Int) : Decidable (Rg62 n) := decidable_of_iff (inB 4611686018427387904 n = true) (by rw [inB_iff]; unfold Rg62; omega)
instance (n : Int) : Decidable (Rg62 n) := decRg62 n
@[irreducible] def decRg63 (n : Int) : Decidable (Rg63 n) := decidable_of_iff (inB 9223372036854775808 n = true) (by rw [inB_iff]; unfold Rg63; omega)
instance (n : Int) : Decidable (Rg63 n) := decRg63 n
def posB (k : Nat) : Int → Bool
  | .ofNat m => Nat.ble (m + 1) k
  | .negSucc _ => false
theorem posB_iff {k : Nat} {n : Int} : posB k n = true ↔ 0 ≤ n ∧ n < k := by
  cases n with
  | ofNat m => show Nat.ble (m + 1) k = true ↔ _; rw [Nat.ble_eq]; simp only [Int.ofNat_eq_natCast]; omega
  | negSucc m => show false = true ↔ _; simp only [Bool.false_eq_true, false_iff]; omega
def Ps63 (n : Int) : Prop := 0 ≤ n ∧ n < 2 ^ 63
@[irreducible] def decPs63 (n : Int) : Decidable (Ps63 n) := decidable_of_iff (posB 9223372036854775808 n = true) (by rw [posB_iff]; unfold Ps63; omega)
instance (n : Int) : Decidable (Ps63 n) := decPs63 n
/-! ### what a value stands for -/
theorem same_rd {H H' : Hp} {a : Addr} {u : HO} (e : Same H H') (h : Rd H a u) : Rd H' a u := by
  rcases h with h | ⟨o, h⟩
  · exact .inl (e a _ h)
  · exact .inr ⟨o, e a _ h⟩
theorem same_t {K : Fg} {H H' : Hp} {a : Addr} {xs : List V} (e : Same H H') (h : SqT K H a xs) : SqT K H' a xs := by
  rcases h with h | h
  · exact .inl (same_rd e h)
  · exact .inr h
mutual
theorem dp_mono {K : Fg} {H H' : Hp} (e : Same H H') : ∀ {v : V} {d : PyData}, Dp K H v d → Dp K H' v d
  | _, _, .non => .non
  | _, _, .bl b => .bl b
  | _, _, .int i => .int i
  | _, _, .str x => .str x
  | _, _, .lst h hs => .lst (e.seq h) (dpAll_mono e hs)
  | _, _, .tup h hs => .tup (same_t e h) (dpAll_mono e hs)
theorem dpAll_mono {K : Fg} {H H' : Hp} (e : Same H H') : ∀ {v : List V} {d : List PyData}, DpAll K H v d → DpAll K H' v d
  | _, _, .nil => .nil
  | _, _, .cons h hs => .cons (dp_mono e h) (dpAll_mono e hs)
end

class Rep (α : Type) where
  rep : Fg → MG → Hp → V → α → Prop
  mono : ∀ {K : Fg} {mg : MG} {H H' : Hp} {v : V} {a : α}, Same H H' → rep K mg H v a → rep K mg H' v a
/-- what is the same in every heap -/
class Flat (α : Type) [Rep α] where
  enc : α → V
  iff : ∀ {K : Fg} {mg : MG} {H : Hp} {v : V} {a : α}, Rep.rep K mg H v a ↔ v = enc a
/-- plain data -/
class Data (α : Type) [Rep α] where
  toD : α → PyData
  dp : ∀ {K : Fg} {mg : MG} {H : Hp} {v : V} {a : α}, Rep.rep K mg H v a → Dp K H v (toD a)
open Data (toD)
instance : Rep Int := ⟨fun _ _ _ v a => v = .int a, fun _ h => h⟩
instance : Rep Bool := ⟨fun _ _ _ v a => v = .bl a, fun _ h => h⟩
instance : Rep Str := ⟨fun _ _ _ v a => v = .str a, fun _ h => h⟩
instance : Rep Unit := ⟨fun _ _ _ v _ => v = .non, fun _ h => h⟩
instance : Rep PyData := ⟨fun K _ H v a => Dp K H v a, fun e h => dp_mono e h⟩
instance : Flat Int := ⟨.int, Iff.rfl⟩
instance : Flat Bool := ⟨.bl, Iff.rfl⟩
instance : Flat Str := ⟨.str, Iff.rfl⟩
instance : Flat Unit := ⟨fun _ => .non, Iff.rfl⟩
instance : Data Int := ⟨.int, fun h => by subst h; exact .int _⟩
instance : Data Bool := ⟨.bool, fun h => by subst h; exact .bl _⟩
instance : Data Str := ⟨.str, fun h => by subst h; exact .str _⟩
instance : Data Unit := ⟨fun _ => .none, fun h => by subst h; exact .non⟩
instance : Data PyData := ⟨id, fun h => h⟩
abbrev Reps {α : Type} [Rep α] (K : Fg) (mg : MG) (H : Hp) : List V → List α → Prop := Paired (Rep.rep K mg H)
theorem Reps.mono {α : Type} [Rep α] {K : Fg} {mg : MG} {H H' : Hp} {vs : List V} {as : List α} (e : Same H H') (h : Reps K mg H vs as) : Reps K mg H' vs as := L2.Paired.mapP h fun _ _ r => Rep.mono e r
theorem reps_flat {α : Type} [Rep α] [Flat α] {K : Fg} {mg : MG} {H : Hp} : ∀ {vs : List V} {as : List α}, Reps K mg H vs as ↔ vs = as.map Flat.enc
  | [], [] => ⟨fun _ => rfl, fun _ => .nil⟩
  | [], _ :: _ => ⟨fun h => (nomatch h), fun h => by simp at h⟩
  | _ :: _, [] => ⟨fun h => (nomatch h), fun h => by simp at h⟩
  | v :: vs, a :: as => ⟨fun h => by
      cases h with
      | cons r t => rw [List.map_cons, (Flat.iff).mp r, (reps_flat).mp t],
    fun h => by
      rw [List.map_cons] at h
      injection h with h1 h2
      exact .cons ((Flat.iff).mpr h1) ((reps_flat).mpr h2)⟩

theorem Reps.length {α : Type} [Rep α] {K : Fg} {mg : MG} {H : Hp} {vs : List V} {as : List α} (h : Reps K mg H vs as) : vs.length = as.length := PySem.Paired.length h
theorem reps_get {α : Type} [Rep α] {K : Fg} {mg : MG} {H : Hp} : ∀ {vs : List V} {as : List α} {i : Nat} {a : α}, Reps K mg H vs as → as[i]? = some a → ∃ v, vs[i]? = some v ∧ Rep.rep K mg H v a
  | _, _, _, _, .nil, e => by simp at e
  | _, _, 0, _, .cons r _, e => by simp at e; subst e; exact ⟨_, rfl, r⟩
  | _, _, i + 1, a, .cons r t, e => by
    obtain ⟨u, h1, h2⟩ := reps_get (i := i) (a := a) t (by simpa using e)
    exact ⟨u, by simpa using h1, h2⟩
theorem reps_at {α : Type} [Rep α] {K : Fg} {mg : MG} {H : Hp} : ∀ {vs : List V} {as : List α} {i : Nat} {v : V}, Reps K mg H vs as → vs[i]? = some v → ∃ a, as[i]? = some a ∧ Rep.rep K mg H v a
  | _, _, _, _, .nil, e => by simp at e
  | _, _, 0, _, .cons r _, e => by simp at e; subst e; exact ⟨_, rfl, r⟩
  | _, _, i + 1, a, .cons r t, e => by
    obtain ⟨u, h1, h2⟩ := reps_at (i := i) (v := a) t (by simpa using e)
    exact ⟨u, by simpa using h1, h2⟩
theorem reps_append {α : Type} [Rep α] {K : Fg} {mg : MG} {H : Hp} : ∀ {vs ws : List V} {as bs : List α}, Reps K mg H vs as → Reps K mg H ws bs → Reps K mg H (vs ++ ws) (as ++ bs)
  | _, _, _, _, .nil, s => s
  | _, _, _, _, .cons r t, s => .cons r (reps_append t s)
theorem reps_take {α : Type} [Rep α] {K : Fg} {mg : MG} {H : Hp} : ∀ {vs : List V} {as : List α} (n : Nat), Reps K mg H vs as → Reps K mg H (vs.take n) (as.take n)
  | _, _, 0, _ => .nil
  | _, _, _ + 1, .nil => .nil
  | _, _, n + 1, .cons r t => .cons r (reps_take n t)
theorem reps_drop {α : Type} [Rep α] {K : Fg} {mg : MG} {H : Hp} : ∀ {vs : List V} {as : List α} (n : Nat), Reps K mg H vs as → Reps K mg H (vs.drop n) (as.drop n)
  | _, _, 0, r => r
  | _, _, _ + 1, .nil => .nil
  | _, _, n + 1, .cons _ t => reps_drop n t
theorem reps_set {α : Type} [Rep α] {K : Fg} {mg : MG} {H : Hp} {v : V} {a : α} (r : Rep.rep K mg H v a) : ∀ {vs : List V} {as : List α} (n : Nat), Reps K mg H vs as → Reps K mg H (vs.set n v) (as.set n a)
  | _, _, _, .nil => .nil
  | _, _, 0, .cons _ t => .cons r t
  | _, _, n + 1, .cons q t => .cons q (reps_set r n t)
theorem reps_dp {α : Type} [Rep α] [Data α] {K : Fg} {mg : MG} {H : Hp} : ∀ {vs : List V} {as : List α}, Reps K mg H vs as → DpAll K H vs (as.map toD)
  | _, _, .nil => .nil
  | _, _, .cons r t => .cons (Data.dp r) (reps_dp t)
/-- a list, a tuple of things of one kind, one of both -/
instance {α : Type} [Rep α] : Rep (List α) := ⟨fun K mg H v as => ∃ p vs, v = .ref p ∧ H p = some (.lst vs) ∧ Reps K mg H vs as, fun e ⟨p, vs, h1, h2, h3⟩ => ⟨p, vs, h1, e _ _ h2, h3.mono e⟩⟩
structure Tp (α : Type) where
  xs : List α
instance {α : Type} [Rep α] : Rep (Tp α) := ⟨fun K mg H v as => ∃ p vs, v = .ref p ∧ SqT K H p vs ∧ Reps K mg H vs as.xs, fun e ⟨p, vs, h1, h2, h3⟩ => ⟨p, vs, h1, same_t e h2, h3.mono e⟩⟩
inductive Sq (α : Type) where
  | l (xs : List α)
  | t (xs : List α)
def Sq.xs {α : Type} : Sq α → List α
  | .l xs => xs
  | .t xs => xs
instance {α : Type} [Rep α] : Rep (Sq α) where
  rep K mg H v as := match as with
    | .l xs => Rep.rep K mg H v xs
    | .t xs => Rep.rep K mg H v (Tp.mk xs)
  mono {K mg H H' v a} e h := by
    cases a with
    | l xs => exact Rep.mono (α := List α) e h
    | t xs => exact Rep.mono (α := Tp α) e h
instance {α : Type} [Rep α] [Data α] : Data (List α) := ⟨fun xs => .list (xs.map toD), fun ⟨p, vs, h1, h2, h3⟩ => by subst h1; exact .lst (.of h2) (reps_dp h3)⟩
instance {α : Type} [Rep α] [Data α] : Data (Tp α) := ⟨fun xs => .tuple (xs.xs.map toD), fun ⟨p, vs, h1, h2, h3⟩ => by subst h1; exact .tup h2 (reps_dp h3)⟩
instance {α : Type} [Rep α] [Data α] : Data (Sq α) := ⟨fun | .l xs => toD xs | .t xs => toD (Tp.mk xs), fun {K mg H v a} h => by
  cases a with
  | l xs => exact Data.dp (α := List α) h
  | t xs => exact Data.dp (α := Tp α) h⟩
/-- tuples of two, three, four -/
instance {α β : Type} [Rep α] [Rep β] : Rep (α × β) := ⟨fun K mg H v t => ∃ p a b, v = .ref p ∧ SqT K H p [a, b] ∧ Rep.rep K mg H a t.1 ∧ Rep.rep K mg H b t.2, fun e ⟨p, a, b, h1, h2, h3, h4⟩ => ⟨p, a, b, h1, same_t e h2, Rep.mono e h3, Rep.mono e h4⟩⟩
instance {α β : Type} [Rep α] [Rep β] [Data α] [Data β] : Data (α × β) := ⟨fun t => .tuple [toD t.1, toD t.2], fun ⟨p, a, b, h1, h2, h3, h4⟩ => by subst h1; exact .tup h2 (.cons (Data.dp h3) (.cons (Data.dp h4) .nil))⟩
/-- list-like: what can be walked, counted, read by place -/
class Lk (s : Type) (α : outParam Type) [Rep s] [Rep α] where
  its : s → List α
  get : ∀ {K : Fg} {mg : MG} {H : Hp} {v : V} {a : s}, Rep.rep K mg H v a → ∃ p vs, v = .ref p ∧ (SqL K H p vs ∨ SqT K H p vs) ∧ Reps K mg H vs (its a)
instance {α : Type} [Rep α] : Lk (List α) α := ⟨id, fun ⟨p, vs, h1, h2, h3⟩ => ⟨p, vs, h1, .inl (.of h2), h3⟩⟩
instance {α : Type} [Rep α] : Lk (Tp α) α := ⟨Tp.xs, fun ⟨p, vs, h1, h2, h3⟩ => ⟨p, vs, h1, .inr h2, h3⟩⟩
instance {α : Type} [Rep α] : Lk (Sq α) α := ⟨Sq.xs, fun {K mg H v a} h => by
  cases a with
  | l xs =>
    obtain ⟨p, vs, h1, h2, h3⟩ := (show Rep.rep K mg H v xs from h)
    exact ⟨p, vs, h1, .inl (.of h2), h3⟩
  | t xs =>
    obtain ⟨p, vs, h1, h2, h3⟩ := (show Rep.rep K mg H v (Tp.mk xs) from h)
    exact ⟨p, vs, h1, .inr h2, h3⟩⟩

/-! ### a heap without some addresses -/
def less (H : Hp) (A : List Addr) : Hp := fun a => if a ∈ A then none else H a
theorem less_in {H : Hp} {A : List Addr} {a : Addr} (h : a ∈ A) : less H A a = none := by unfold less; rw [if_pos h]
theorem less_out {H : Hp} {A : List Addr} {a : Addr} (h : a ∉ A) : less H A a = H a := by unfold less; rw [if_neg h]
theorem less_same {H : Hp} {A : List Addr} : Same (less H A) H := fun b o h => by
  by_cases hb : b ∈ A
  · rw [less_in hb] at h; cases h
  · rw [less_out hb] at h; exact h
theorem less_mono {H H' : Hp} {A : List Addr} (e : ∀ b o, b ∉ A → H b = some o → H' b = some o) : Same (less H A) (less H' A) := fun b o h => by
  by_cases hb : b ∈ A
  · rw [less_in hb] at h; cases h
  · rw [less_out hb] at h ⊢; exact e b o hb h
theorem less_sub {H : Hp} {A B : List Addr} (h : ∀ a ∈ B, a ∈ A) : Same (less H A) (less H B) := fun b o q => by
  by_cases hb : b ∈ A
  · rw [less_in hb] at q; cases q
  · rw [less_out hb] at q
    rw [less_out fun z => hb (h b z)]
    exact q

/-! ### owned objects, the state at a point -/
/-- what a slot holds -/
structure Asr where
  P : Hp → V → Prop
  mono : ∀ {H H' : Hp} {v : V}, Same H H' → P H v → P H' v
/-- a fact of the heap without the owned objects -/
structure Fact where
  P : Hp → Prop
  mono : ∀ {H H' : Hp}, Same H H' → P H → P H'
structure Own where
  a : Addr
  P : Hp → HO → Prop
  mono : ∀ {H H' : Hp} {o : HO}, Same H H' → P H o → P H' o
/-- what an owned object may stand for -/
class OwR (s : Type) where
  P : Fg → MG → Hp → HO → s → Prop
  mono : ∀ {K : Fg} {mg : MG} {H H' : Hp} {o : HO} {a : s}, Same H H' → P K mg H o a → P K mg H' o a
instance {α : Type} [Rep α] : OwR (List α) := ⟨fun K mg H o as => ∃ vs, o = .lst vs ∧ Reps K mg H vs as, fun e ⟨vs, h, r⟩ => ⟨vs, h, r.mono e⟩⟩
section
variable (K : Fg) (mg : MG)
def vl {α : Type} [Rep α] (a : α) : Option Asr := some ⟨fun H v => Rep.rep K mg H v a, fun e h => Rep.mono e h⟩
def rf (p : Addr) : Option Asr := some ⟨fun _ v => v = .ref p, fun _ h => h⟩
def ow {s : Type} [OwR s] (p : Addr) (a : s) : Own := ⟨p, fun H o => OwR.P K mg H o a, fun e h => OwR.mono e h⟩
end

/-- a def's run: the module, the heap at its entry, what it may change, what stands out of sight, what it had to change at first, what is wished of exceptions -/
structure Fr where
  K : Fg
  mg : MG
  H0 : Hp
  W : List Addr
  A : List Addr
  O0 : List Own
  E : XK
  Z : List Fact
abbrev addrs (O : List Own) : List Addr := O.map Own.a
def rg (F : Fr) (O : List Own) (H : Hp) : Hp := less H (addrs O ++ F.A)
structure GO (F : Fr) (O : List Own) (H : Hp) : Prop where
  objs : ∀ w ∈ O, ∃ o, H w.a = some o ∧ w.P (rg F O H) o
  nd : (addrs O).Nodup
  own : ∀ w ∈ O, w.a ∈ F.W ∨ F.H0 w.a = none
  keep : ∀ a o, F.H0 a = some o → a ∉ F.W → H a = some o
  live : ∀ a, F.H0 a ≠ none → H a ≠ none
  hid : ∀ a ∈ F.A, F.H0 a ≠ none
  apart : ∀ w ∈ O, w.a ∉ F.A
  facts : ∀ z ∈ F.Z, z.P (rg F O H)
def SlotOk (R : Hp) : Option Asr → Option V → Prop
  | none, _ => True
  | some p, some v => p.P R v
  | some _, none => False
structure G (F : Fr) (L : List (Option Asr)) (O : List Own) (σ : L2.St) (H : Hp) : Prop where
  slots : Paired (SlotOk (rg F O H)) L σ
  go : GO F O H

theorem SlotOk.mono {R R' : Hp} (e : Same R R') : ∀ {p : Option Asr} {v : Option V}, SlotOk R p v → SlotOk R' p v
  | none, _, _ => trivial
  | some p, some v, h => p.mono e h
theorem GO.out {F : Fr} {O : List Own} {H : Hp} (g : GO F O H) {p : Addr} (h : H p = none) : p ∉ addrs O ++ F.A := fun z => by
  rcases List.mem_append.mp z with z | z
  · obtain ⟨w, hw, e⟩ := List.mem_map.mp z
    obtain ⟨o, ho, _⟩ := g.objs w hw
    rw [e, h] at ho
    cases ho
  · exact g.live p (g.hid p z) h
/-- the heap grows -/
theorem GO.grow {F : Fr} {O : List Own} {H H' : Hp} (g : GO F O H) (e : Same H H') : GO F O H' where
  objs := fun w hw => let ⟨o, ho, h⟩ := g.objs w hw; ⟨o, e _ _ ho, w.mono (less_mono fun b o _ q => e b o q) h⟩
  nd := g.nd
  own := g.own
  keep := fun a o h hw => e _ _ (g.keep a o h hw)
  live := fun a h z => by
    cases q : H a with
    | none => exact g.live a h q
    | some o => rw [e _ _ q] at z; cases z
  hid := g.hid
  apart := g.apart
  facts := fun z hz => z.mono (less_mono fun b o _ q => e b o q) (g.facts z hz)
theorem rg_grow {F : Fr} {O : List Own} {H H' : Hp} (e : Same H H') : Same (rg F O H) (rg F O H') := less_mono fun b o _ q => e b o q

theorem G.grow {F : Fr} {L : List (Option Asr)} {O : List Own} {σ : L2.St} {H H' : Hp} (g : G F L O σ H) (e : Same H H') : G F L O σ H' :=
  ⟨L2.Paired.mapP g.slots fun _ _ h => h.mono (rg_grow e), g.go.grow e⟩
theorem same_upd {H : Hp} {p : Addr} {o : HO} (h : H p = none) : Same H (upd H p o) := fun b x e => by
  rw [upd_ne (ne_of_none e h)]
  exact e
end NF

set_option Elab.async false
set_option linter.all false
set_option maxRecDepth 100000
/-! Nf1: the normal forms, and how they compose. -/
namespace NF
open PySem PySem.Spec PyProof.Rows L2
open Data (toD)

abbrev XdOk (K : Fg) (H : Hp) : List (Str × V) → List (Str × PyData) → Prop := Paired fun p q => p.1 = q.1 ∧ Dp K H p.2 q.2
/-- an exception's fields: its dict, new since H0 -/
def XdAt (K : Fg) (H0 H' : Hp) (d : Option Addr) (fs : List (Str × PyData)) : Prop := match d with
  | none => fs = []
  | some d => H0 d = none ∧ ∃ vs, H' d = some (.xd vs) ∧ XdOk K H' vs fs
theorem XdAt.older {K : Fg} {H0 H1 H' : Hp} {d : Option Addr} {fs : List (Str × PyData)} (h : XdAt K H1 H' d fs) (l : ∀ a, H0 a ≠ none → H1 a ≠ none) : XdAt K H0 H' d fs := by
  cases d with
  | none => exact h
  | some d => exact ⟨Decidable.byContradiction fun z => l d z h.1, h.2⟩
def ErrK (F : Fr) (c : Str) (fs : List (Str × PyData)) (Post : Hp → Prop) : Prop :=
  ∀ C d H', F.mg c = some (.ref C) → XdAt F.K F.H0 H' d fs → Post H' → F.E (.ref C) d H'
def Out {α : Type} (F : Fr) (m : Res α) (k : α → Prop) (xp : Hp → Prop) : Prop := match m with
  | .ok a => k a
  | .err c fs => ErrK F c fs xp
  | .bad => False
theorem Out.mono {α : Type} {F : Fr} {m : Res α} {k k' : α → Prop} {xp xp' : Hp → Prop} (h : Out F m k xp) (hk : ∀ a, k a → k' a) (hx : ∀ H', xp' H' → xp H') : Out F m k' xp' := by
  cases m with
  | ok a => exact hk a h
  | err c fs => exact fun C d H' h1 h2 h4 => h C d H' h1 h2 (hx H' h4)
  | bad => exact h.elim
theorem out_bind {α β : Type} {F : Fr} {m : Res α} {f : α → Res β} {k : β → Prop} {xp : Hp → Prop} : Out F (m.bind f) k xp ↔ Out F m (fun a => Out F (f a) k xp) xp := by
  cases m <;> exact Iff.rfl
theorem out_need {α : Type} {F : Fr} {p : Prop} [Decidable p] {m : Res α} {k : α → Prop} {xp : Hp → Prop} : Out F (need p m) k xp ↔ p ∧ Out F m k xp := by
  unfold need
  by_cases h : p
  · rw [if_pos h]; exact ⟨fun q => ⟨h, q⟩, fun q => q.2⟩
  · rw [if_neg h]; exact ⟨fun q => q.elim, fun q => (h q.1).elim⟩

def rgn (b : Bool) (F : Fr) (O : List Own) (H : Hp) : Hp := if b then rg F O H else H
theorem rgn_grow {b : Bool} {F : Fr} {O : List Own} {H H' : Hp} (e : Same H H') : Same (rgn b F O H) (rgn b F O H') := by
  cases b
  · exact e
  · exact rg_grow e
theorem rgn_sub {b : Bool} {F : Fr} {O : List Own} {H : Hp} : Same (rgn b F O H) H := by
  cases b
  · exact Same.refl _
  · exact less_same
abbrev rp {α : Type} [Rep α] (F : Fr) (R : Hp) (v : V) (a : α) : Prop := Rep.rep F.K F.mg R v a
abbrev KP (α : Type) [Rep α] (b : Bool) (F : Fr) (L : List (Option Asr)) (O : List Own) (σ : L2.St) (H : Hp) (Q : VK) : α → Prop :=
  fun a => ∀ v H', G F L O σ H' → Same H H' → rp F (rgn b F O H') v a → Q v H'
abbrev XP (F : Fr) (L : List (Option Asr)) (O : List Own) (σ : L2.St) (H : Hp) : Hp → Prop := fun H' => G F L O σ H' ∧ Same H H'
/-- an expression: its value (b: seen without the owned objects) -/
def tP {α : Type} [Rep α] (b : Bool) (F : Fr) (L : List (Option Asr)) (O : List Own) (m : Res α) : TE := fun σ H Q =>
  G F L O σ H ∧ Out F m (KP α b F L O σ H Q) (XP F L O σ H)
/-- an expression whose value is a new list -/
def tF {α : Type} [Rep α] (b : Bool) (F : Fr) (L : List (Option Asr)) (O : List Own) (m : Res (List α)) : TE := fun σ H Q =>
  G F L O σ H ∧ Out F m (fun as => ∀ p vs H', G F L O σ H' → Same H H' → H p = none → H' p = some (.lst vs) → Reps F.K F.mg (less (rgn b F O H') [p]) vs as → Q (.ref p) H') (XP F L O σ H)
/-- a test -/
def tB' (F : Fr) (L : List (Option Asr)) (O : List Own) (m : Res Bool) : TT := fun σ H Q =>
  G F L O σ H ∧ Out F m (fun c => ∀ H', G F L O σ H' → Same H H' → Q c H') (XP F L O σ H)
/-- arguments -/
class RepA (τ : Type) where
  rep : Fg → MG → Hp → List V → τ → Prop
  mono : ∀ {K : Fg} {mg : MG} {H H' : Hp} {vs : List V} {a : τ}, Same H H' → rep K mg H vs a → rep K mg H' vs a
instance : RepA Unit := ⟨fun _ _ _ vs _ => vs = [], fun _ h => h⟩
structure Ar (α τ : Type) where
  x : α
  r : τ
instance {α τ : Type} [Rep α] [RepA τ] : RepA (Ar α τ) where
  rep K mg H vs a := ∃ v ws, vs = v :: ws ∧ Rep.rep K mg H v a.x ∧ RepA.rep K mg H ws a.r
  mono e h := let ⟨v, ws, h1, h2, h3⟩ := h; ⟨v, ws, h1, Rep.mono e h2, RepA.mono e h3⟩
def tA {τ : Type} [RepA τ] (b : Bool) (F : Fr) (L : List (Option Asr)) (O : List Own) (m : Res τ) : TA := fun σ H Q =>
  G F L O σ H ∧ Out F m (fun a => ∀ vs H', G F L O σ H' → Same H H' → RepA.rep F.K F.mg (rgn b F O H') vs a → Q vs H') (XP F L O σ H)

theorem pe_imp {X : Cx} {e : Expr} {t t' : TE} (h : PE X e t) (i : ∀ σ H Q, t' σ H Q → t σ H Q) : PE X e t' := ⟨fun pins s σ H Q I q => h.run pins s σ H Q I (i σ H Q q)⟩
theorem pt_imp {X : Cx} {e : Expr} {t t' : TT} (h : PT X e t) (i : ∀ σ H Q, t' σ H Q → t σ H Q) : PT X e t' := ⟨fun pins s σ H Q I q => h.run pins s σ H Q I (i σ H Q q)⟩
theorem pa_imp {X : Cx} {e : List Expr} {t t' : TA} (h : PA X e t) (i : ∀ σ H Q, t' σ H Q → t σ H Q) : PA X e t' := ⟨fun pos pins s σ H Q I q => h.run pos pins s σ H Q I (i σ H Q q)⟩
theorem ps_imp {X : Cx} {e : Stmt} {t t' : TS} (h : PS X e t) (i : ∀ D σ H, t' D σ H → t D σ H) : PS X e t' := ⟨fun pins s σ H D I q => h.run pins s σ H D I (i D σ H q)⟩
theorem pss_imp {X : Cx} {e : List Stmt} {t t' : TS} (h : PSs X e t) (i : ∀ D σ H, t' D σ H → t D σ H) : PSs X e t' := ⟨fun pins s σ H D I q => h.run pins s σ H D I (i D σ H q)⟩

section
variable {X : Cx} {F : Fr} {L : List (Option Asr)} {O : List Own} {α β γ : Type} [Rep α] [Rep β] [Rep γ]
theorem weak {e : Expr} {b : Bool} {m : Res α} (h : PE X e (tP true F L O m)) : PE X e (tP b F L O m) := pe_imp h fun σ H Q ⟨g, q⟩ => ⟨g, q.mono (fun a k v H' g' s r => k v H' g' s (by
  cases b
  · exact Rep.mono less_same r
  · exact r)) fun _ x => x⟩
theorem strong [Flat α] {e : Expr} {b b' : Bool} {m : Res α} (h : PE X e (tP b F L O m)) : PE X e (tP b' F L O m) := pe_imp h fun σ H Q ⟨g, q⟩ => ⟨g, q.mono (fun a k v H' g' s r => k v H' g' s (Flat.iff.mpr (Flat.iff.mp r))) fun _ x => x⟩

/-- by values: what an operation asks -/
def RR (F : Fr) (L : List (Option Asr)) (O : List Own) (b1 b2 b3 : Bool) (r : R2) (mc : α → β → Res γ) : Prop :=
  ∀ x y vx vy H σ Q, G F L O σ H → rp F (rgn b1 F O H) vx x → rp F (rgn b2 F O H) vy y → Out F (mc x y) (KP γ b3 F L O σ H Q) (XP F L O σ H) → r vx vy H Q
theorem nf2 {e : Expr} {b1 b2 b3 : Bool} {r : R2} {ma : Res α} {mb : Res β} {mc : α → β → Res γ} (h : PE X e (tOp r (tP b1 F L O ma) (tP b2 F L O mb))) (hr : RR F L O b1 b2 b3 r mc) :
    PE X e (tP b3 F L O (ma.bind fun x => mb.bind fun y => mc x y)) := pe_imp h fun σ H Q ⟨g, q⟩ => by
  rw [out_bind] at q
  refine ⟨g, q.mono (fun x qx v1 H1 g1 s1 r1 => ?_) fun _ z => z⟩
  rw [out_bind] at qx
  refine ⟨g1, qx.mono (fun y qy v2 H2 g2 s2 r2 => ?_) fun H' ⟨a, b⟩ => ⟨a, s1.trans b⟩⟩
  exact hr x y v1 v2 H2 σ Q g2 (Rep.mono (rgn_grow s2) r1) r2 (qy.mono (fun z kz v H' g' s' r' => kz v H' g' ((s1.trans s2).trans s') r') fun H' ⟨a, b⟩ => ⟨a, (s1.trans s2).trans b⟩)
def R1 (F : Fr) (L : List (Option Asr)) (O : List Own) (b1 b3 : Bool) (r : V → Hp → VK → Prop) (mc : α → Res γ) : Prop :=
  ∀ x vx H σ Q, G F L O σ H → rp F (rgn b1 F O H) vx x → Out F (mc x) (KP γ b3 F L O σ H Q) (XP F L O σ H) → r vx H Q
theorem nf1 {e : Expr} {b1 b3 : Bool} {r : V → Hp → VK → Prop} {ma : Res α} {mc : α → Res γ} (h : PE X e (tUn r (tP b1 F L O ma))) (hr : R1 F L O b1 b3 r mc) :
    PE X e (tP b3 F L O (ma.bind mc)) := pe_imp h fun σ H Q ⟨g, q⟩ => by
  rw [out_bind] at q
  refine ⟨g, q.mono (fun x qx v1 H1 g1 s1 r1 => ?_) fun _ z => z⟩
  exact hr x v1 H1 σ Q g1 r1 (qx.mono (fun z kz v H' g' s' r' => kz v H' g' (s1.trans s') r') fun H' ⟨a, b⟩ => ⟨a, s1.trans b⟩)
/-- a value as it is -/
theorem kp_now {b : Bool} {σ : L2.St} {H : Hp} {Q : VK} {a : α} {v : V} (g : G F L O σ H) (k : KP α b F L O σ H Q a) (r : rp F (rgn b F O H) v a) : Q v H := k v H g (Same.refl _) r
theorem kp_flat [Flat α] {b : Bool} {σ : L2.St} {H : Hp} {Q : VK} {a : α} (g : G F L O σ H) (k : KP α b F L O σ H Q a) : Q (Flat.enc a) H := k _ H g (Same.refl _) (Flat.iff.mpr rfl)
theorem fl [Flat α] {R : Hp} {v : V} {a : α} (r : rp F R v a) : v = Flat.enc a := Flat.iff.mp r

/-! names and constants -/
theorem paired_get {α β : Type} {P : α → β → Prop} : ∀ {l : List α} {l' : List β} {i : Nat} {a : α}, Paired P l l' → l[i]? = some a → ∃ b, l'[i]? = some b ∧ P a b
  | _, _, _, _, .nil, e => by simp at e
  | _, _, 0, _, .cons r _, e => by simp at e; subst e; exact ⟨_, rfl, r⟩
  | _, _, i + 1, a, .cons r t, e => by
    obtain ⟨u, h1, h2⟩ := paired_get (i := i) (a := a) t (by simpa using e)
    exact ⟨u, by simpa using h1, h2⟩
theorem G.slot {σ : L2.St} {H : Hp} (g : G F L O σ H) {i : Nat} {p : Asr} (hL : L[i]? = some (some p)) : ∃ v, σ[i]? = some (some v) ∧ p.P (rg F O H) v := by
  obtain ⟨o, h1, h2⟩ := paired_get g.slots hL
  cases o with
  | none => exact h2.elim
  | some v => exact ⟨v, h1, h2⟩
theorem n_var (i : Nat) {x : Str} {pos : Pos} {a : α} (hL : L[i]? = some (vl F.K F.mg a) := by rfl) (hN : X.N[i]? = some x := by rfl) (hv : Vis X.env.scope x := by first | exact Or.inl rfl | exact Or.inr (Or.inl rfl) | exact Or.inr (Or.inr rfl)) (hd : (x == ("__debug__" : Str)) = false := by decide)
    (hcd : (x == ("__classdict__" : Str)) = false := by decide) : PE X (.Name x pos) (tP true F L O (.ok a)) := pe_imp (pe_var hN hv hd hcd) fun σ H Q ⟨g, q⟩ => by
  obtain ⟨v, h1, h2⟩ := g.slot hL
  exact ⟨v, h1, q v H g (Same.refl _) h2⟩
/-- an owned list, read where it stands -/
theorem n_own (i : Nat) {x : Str} {pos : Pos} {p : Addr} {as : List α} (hL : L[i]? = some (rf p) := by rfl) (hO : ow F.K F.mg p as ∈ O := by simp) (hN : X.N[i]? = some x := by rfl) (hv : Vis X.env.scope x := by first | exact Or.inl rfl | exact Or.inr (Or.inl rfl) | exact Or.inr (Or.inr rfl)) (hd : (x == ("__debug__" : Str)) = false := by decide)
    (hcd : (x == ("__classdict__" : Str)) = false := by decide) : PE X (.Name x pos) (tP false F L O (.ok as)) := pe_imp (pe_var hN hv hd hcd) fun σ H Q ⟨g, q⟩ => by
  obtain ⟨v, h1, h2⟩ := g.slot hL
  obtain ⟨o, h3, vs, h4, h5⟩ := g.go.objs _ hO
  subst h4
  exact ⟨v, h1, q v H g (Same.refl _) ⟨p, vs, h2, h3, h5.mono less_same⟩⟩
theorem n_c {e : Expr} [Flat α] {a : α} {b : Bool} (h : PE X e (tC (Flat.enc a))) : PE X e (tP b F L O (.ok a)) := pe_imp h fun σ H Q ⟨g, q⟩ => kp_flat g q
theorem n_int {i j pos} {b : Bool} : PE X (.Constant (.int i) j pos) (tP b F L O (.ok i)) := n_c (a := i) pe_int
theorem n_bl {i j pos} {b : Bool} : PE X (.Constant (.bool i) j pos) (tP b F L O (.ok i)) := n_c (a := i) pe_bl
theorem n_str {i j pos} {b : Bool} : PE X (.Constant (.str i) j pos) (tP b F L O (.ok i)) := n_c (a := i) pe_str
theorem n_non {j pos} {b : Bool} : PE X (.Constant .none j pos) (tP b F L O (.ok ())) := n_c (a := ()) pe_non

/-! ints -/
section
variable {b1 b2 b3 : Bool}
theorem rr_I0 {g : Int → Int → γ} [Flat γ] : RR F L O b1 b2 b3 (rI0 fun i j => Flat.enc (g i j)) fun x y => .ok (g x y) := fun x y vx vy H σ Q g rx ry q => ⟨x, y, rx, ry, kp_flat g q⟩
theorem rr_I {C : Int → Int → Prop} [∀ i j, Decidable (C i j)] {g : Int → Int → γ} [Flat γ] : RR F L O b1 b2 b3 (rI C fun i j => Flat.enc (g i j)) fun x y => need (C x y) (.ok (g x y)) := fun x y vx vy H σ Q g rx ry q => by
  rw [out_need] at q
  exact ⟨x, y, rx, ry, q.1, kp_flat g q.2⟩
@[irreducible] def decCDiv : ∀ i j, Decidable (CDiv i j) := fun i j => decidable_of_iff (posB 1073741823 (j - 1) = true) (by rw [posB_iff]; unfold CDiv; omega)
instance : ∀ i j, Decidable (CDiv i j) := decCDiv
@[irreducible] def decCMul : ∀ i j, Decidable (CMul i j) := fun i j => decidable_of_iff ((posB 36893488147419103231 (i + 18446744073709551615) || posB 36893488147419103231 (j + 18446744073709551615)) = true) (by rw [Bool.or_eq_true, posB_iff, posB_iff]; unfold CMul; omega)
instance : ∀ i j, Decidable (CMul i j) := decCMul
@[irreducible] def decCPow : ∀ i j, Decidable (CPow i j) := fun i j => decidable_of_iff ((posB 1000001 j && posB 18446744073709551616 (i.natAbs : Int)) = true) (by rw [Bool.and_eq_true, posB_iff, posB_iff]; unfold CPow; omega)
instance : ∀ i j, Decidable (CPow i j) := decCPow
variable {x y : Expr} {ma mb : Res Int} {pos : Pos}
variable (hx : PE X x (tP b1 F L O ma)) (hy : PE X y (tP b2 F L O mb))
include hx hy
theorem n_add : PE X (.BinOp x .Add y pos) (tP b3 F L O (ma.bind fun x => mb.bind fun y => .ok (x + y))) := nf2 (pe_op op_add hx hy) (rr_I0 (g := fun x y => x + y))
theorem n_sub : PE X (.BinOp x .Sub y pos) (tP b3 F L O (ma.bind fun x => mb.bind fun y => .ok (x - y))) := nf2 (pe_op op_sub hx hy) (rr_I0 (g := fun x y => x - y))
theorem n_mul : PE X (.BinOp x .Mult y pos) (tP b3 F L O (ma.bind fun x => mb.bind fun y => need (CMul x y) (.ok (x * y)))) := nf2 (pe_op op_mul hx hy) (rr_I (g := fun x y => x * y))
theorem n_fdiv : PE X (.BinOp x .FloorDiv y pos) (tP b3 F L O (ma.bind fun x => mb.bind fun y => need (CDiv x y) (.ok (x / y)))) := nf2 (pe_op op_fdiv hx hy) (rr_I (g := fun x y => x / y))
theorem n_mod : PE X (.BinOp x .Mod y pos) (tP b3 F L O (ma.bind fun x => mb.bind fun y => need (0 < y) (.ok (x % y)))) := nf2 (pe_op op_mod hx hy) (rr_I (g := fun x y => x % y))
theorem n_pow : PE X (.BinOp x .Pow y pos) (tP b3 F L O (ma.bind fun x => mb.bind fun y => need (CPow x y) (.ok (x ^ y.toNat)))) := nf2 (pe_op op_pow hx hy) (rr_I (g := fun x y => x ^ y.toNat))
theorem n_shl : PE X (.BinOp x .LShift y pos) (tP b3 F L O (ma.bind fun x => mb.bind fun y => need (CPow x y) (.ok (x * 2 ^ y.toNat)))) := nf2 (pe_op op_shl hx hy) (rr_I (g := fun x y => x * 2 ^ y.toNat))
theorem n_shr : PE X (.BinOp x .RShift y pos) (tP b3 F L O (ma.bind fun x => mb.bind fun y => need (0 ≤ y) (.ok (x / 2 ^ y.toNat)))) := nf2 (pe_op op_shr hx hy) (rr_I (C := fun _ y => 0 ≤ y) (g := fun x y => x / 2 ^ y.toNat))
theorem n_band : PE X (.BinOp x .BitAnd y pos) (tP b3 F L O (ma.bind fun x => mb.bind fun y => .ok (Builtin.bitAnd x y))) := nf2 (pe_op op_and hx hy) (rr_I0 (g := fun x y => Builtin.bitAnd x y))
theorem n_bor : PE X (.BinOp x .BitOr y pos) (tP b3 F L O (ma.bind fun x => mb.bind fun y => .ok (Builtin.bitOr x y))) := nf2 (pe_op op_or hx hy) (rr_I0 (g := fun x y => Builtin.bitOr x y))
theorem n_bxor : PE X (.BinOp x .BitXor y pos) (tP b3 F L O (ma.bind fun x => mb.bind fun y => .ok (Builtin.bitXor x y))) := nf2 (pe_op op_xor hx hy) (rr_I0 (g := fun x y => Builtin.bitXor x y))
/-! comparisons of ints, as values -/
theorem n_lt : PE X (.Compare x [.Lt] [y] pos) (tP b3 F L O (ma.bind fun x => mb.bind fun y => .ok (decide (x < y)))) := nf2 (pe_cmpR op_lt hx hy (nomark _)) (rr_I0 (g := fun x y => decide (x < y)))
theorem n_le : PE X (.Compare x [.LtE] [y] pos) (tP b3 F L O (ma.bind fun x => mb.bind fun y => .ok (decide (x ≤ y)))) := nf2 (pe_cmpR op_le hx hy (nomark _)) (rr_I0 (g := fun x y => decide (x ≤ y)))
theorem n_gt : PE X (.Compare x [.Gt] [y] pos) (tP b3 F L O (ma.bind fun x => mb.bind fun y => .ok (decide (y < x)))) := nf2 (pe_cmpR op_gt hx hy (nomark _)) (rr_I0 (g := fun x y => decide (y < x)))
theorem n_ge : PE X (.Compare x [.GtE] [y] pos) (tP b3 F L O (ma.bind fun x => mb.bind fun y => .ok (decide (y ≤ x)))) := nf2 (pe_cmpR op_ge hx hy (nomark _)) (rr_I0 (g := fun x y => decide (y ≤ x)))
end
theorem n_neg {b1 b3 : Bool} {x : Expr} {ma : Res Int} {pos : Pos} (hx : PE X x (tP b1 F L O ma)) : PE X (.UnaryOp .USub x pos) (tP b3 F L O (ma.bind fun x => .ok (-x))) := nf1 (pe_un un_neg hx) fun x vx H σ Q g r q => ⟨x, r, kp_flat g q⟩
/-! == of flat things, of data -/
section
variable {b1 b2 b3 : Bool} {x y : Expr} {ma : Res α} {mb : Res β} {pos : Pos}
/-- equal by value: what == says of data -/
def eqD [Data α] [Data β] (x : α) (y : β) : Bool := (toD x).eqv (toD y)
def shp [Data α] (x : α) : Bool := SeqAt.shaped (toD x)
theorem rr_eqD [Data α] [Data β] (hK : X.K = F.K) : RR F L O b1 b2 b3 (rEqD X.K) fun (x : α) (y : β) => need (shp x = true ∧ shp y = true) (.ok (eqD x y)) := fun x y vx vy H σ Q g rx ry q => by
  rw [out_need] at q
  rw [hK]
  exact ⟨_, _, Data.dp (Rep.mono rgn_sub rx), Data.dp (Rep.mono rgn_sub ry), q.1.1, q.1.2, kp_flat g q.2⟩
theorem n_eqD [Data α] [Data β] (hx : PE X x (tP b1 F L O ma)) (hy : PE X y (tP b2 F L O mb)) (hu : X.A.units + 64 < cLine) (hK : X.K = F.K := by rfl) :
    PE X (.Compare x [.Eq] [y] pos) (tP b3 F L O (ma.bind fun x => mb.bind fun y => need (shp x = true ∧ shp y = true) (.ok (eqD x y)))) := nf2 (pe_cmpR (op_eqD hu) hx hy (nomark _)) (rr_eqD hK)
theorem n_neD [Data α] [Data β] (hx : PE X x (tP b1 F L O ma)) (hy : PE X y (tP b2 F L O mb)) (hu : X.A.units + 64 < cLine) (hK : X.K = F.K := by rfl) :
    PE X (.Compare x [.NotEq] [y] pos) (tP b3 F L O (ma.bind fun x => mb.bind fun y => need (shp x = true ∧ shp y = true) (.ok (!eqD x y)))) := nf2 (pe_cmpR (op_neD hu) hx hy (nomark _)) fun x y vx vy H σ Q g rx ry q => by
  rw [out_need] at q
  rw [hK]
  exact ⟨_, _, Data.dp (Rep.mono rgn_sub rx), Data.dp (Rep.mono rgn_sub ry), q.1.1, q.1.2, kp_flat g q.2⟩
end
section
variable {b1 b2 b3 : Bool} {x y : Expr} {pos : Pos} {ma mb : Res Int}
theorem n_eq (hx : PE X x (tP b1 F L O ma)) (hy : PE X y (tP b2 F L O mb)) : PE X (.Compare x [.Eq] [y] pos) (tP b3 F L O (ma.bind fun x => mb.bind fun y => .ok (decide (x = y)))) := nf2 (pe_cmpR op_eq hx hy (nomark _)) fun x y vx vy H σ Q g rx ry q => by
  cases rx; cases ry
  exact ⟨rfl, by rw [show decide (V.int x = V.int y) = decide (x = y) by simp]; exact kp_flat g q⟩
theorem n_ne (hx : PE X x (tP b1 F L O ma)) (hy : PE X y (tP b2 F L O mb)) : PE X (.Compare x [.NotEq] [y] pos) (tP b3 F L O (ma.bind fun x => mb.bind fun y => .ok (!decide (x = y)))) := nf2 (pe_cmpR op_ne hx hy (nomark _)) fun x y vx vy H σ Q g rx ry q => by
  cases rx; cases ry
  exact ⟨rfl, by rw [show decide (V.int x = V.int y) = decide (x = y) by simp]; exact kp_flat g q⟩
end
/-! and, or, not, if .. else -/
section
variable {b1 b2 b3 : Bool} {x y : Expr} {rest : List Expr} {ma mb : Res Bool} {pos : Pos}
theorem n_not (hx : PE X x (tP b1 F L O ma)) : PE X (.UnaryOp .Not x pos) (tP b3 F L O (ma.bind fun c => .ok (!c))) := pe_imp (pe_not hx) fun σ H Q ⟨g, q⟩ => by
  rw [out_bind] at q
  refine ⟨g, q.mono (fun c qc v1 H1 g1 s1 r1 => ?_) fun _ z => z⟩
  exact ⟨c, r1, qc _ H1 g1 s1 rfl⟩
theorem n_and (hx : PE X x (tP b1 F L O ma)) (hy : PE X (.BoolOp .And (y :: rest) pos) (tP b2 F L O mb)) : PE X (.BoolOp .And (x :: y :: rest) pos) (tP b3 F L O (ma.bind fun c => if c then mb else .ok false)) := pe_imp (pe_and hx hy) fun σ H Q ⟨g, q⟩ => by
  rw [out_bind] at q
  refine ⟨g, q.mono (fun c qc v1 H1 g1 s1 r1 => ?_) fun _ z => z⟩
  refine ⟨c, r1, ?_⟩
  cases c with
  | true => exact ⟨g1, qc.mono (fun d kd v H' g' s' r' => kd v H' g' (s1.trans s') r') fun H' ⟨a, b⟩ => ⟨a, s1.trans b⟩⟩
  | false => exact qc _ H1 g1 s1 rfl
theorem n_or (hx : PE X x (tP b1 F L O ma)) (hy : PE X (.BoolOp .Or (y :: rest) pos) (tP b2 F L O mb)) : PE X (.BoolOp .Or (x :: y :: rest) pos) (tP b3 F L O (ma.bind fun c => if c then .ok true else mb)) := pe_imp (pe_or hx hy) fun σ H Q ⟨g, q⟩ => by
  rw [out_bind] at q
  refine ⟨g, q.mono (fun c qc v1 H1 g1 s1 r1 => ?_) fun _ z => z⟩
  refine ⟨c, r1, ?_⟩
  cases c with
  | true => exact qc _ H1 g1 s1 rfl
  | false => exact ⟨g1, qc.mono (fun d kd v H' g' s' r' => kd v H' g' (s1.trans s') r') fun H' ⟨a, b⟩ => ⟨a, s1.trans b⟩⟩
theorem n_one {op} (hx : PE X x (tP b1 F L O ma)) : PE X (.BoolOp op [x] pos) (tP b1 F L O ma) := pe_one hx
/-! tests -/
theorem t_val (hx : PE X x (tP b1 F L O ma)) (he : ∀ whole, isTrue x X.env whole = (do let v ← whole; standAt x.pos; holding [v] (truthy v)) := by intro _; rfl) : PT X x (tB' F L O ma) := pt_imp (pt_val hx he) fun σ H Q ⟨g, q⟩ =>
  ⟨g, q.mono (fun c qc v1 H1 g1 s1 r1 => ⟨c, r1, qc H1 g1 s1⟩) fun _ z => z⟩
theorem nf2t {e : Expr} {r : R2} {ma : Res α} {mb : Res β} {mc : α → β → Res Bool} (h : PT X e (tTest (tOp r (tP b1 F L O ma) (tP b2 F L O mb)))) (hr : RR F L O b1 b2 true r mc) :
    PT X e (tB' F L O (ma.bind fun x => mb.bind fun y => mc x y)) := pt_imp h fun σ H Q ⟨g, q⟩ => by
  rw [out_bind] at q
  refine ⟨g, q.mono (fun x qx v1 H1 g1 s1 r1 => ?_) fun _ z => z⟩
  rw [out_bind] at qx
  refine ⟨g1, qx.mono (fun y qy v2 H2 g2 s2 r2 => ?_) fun H' ⟨a, b⟩ => ⟨a, s1.trans b⟩⟩
  exact hr x y v1 v2 H2 σ _ g2 (Rep.mono (rgn_grow s2) r1) r2 (qy.mono (fun z kz v H' g' s' r' => ⟨z, r', kz H' g' ((s1.trans s2).trans s')⟩) fun H' ⟨a, b⟩ => ⟨a, (s1.trans s2).trans b⟩)
theorem t_not (hx : PT X x (tB' F L O ma)) : PT X (.UnaryOp .Not x pos) (tB' F L O (ma.bind fun c => .ok (!c))) := pt_imp (pt_not hx) fun σ H Q ⟨g, q⟩ => by
  rw [out_bind] at q
  exact ⟨g, q.mono (fun c qc H1 g1 s1 => qc H1 g1 s1) fun _ z => z⟩
theorem w_and1 (hx : PT X x (tB' F L O ma)) : PW X (.BoolOp .And [x] pos) (tB' F L O ma) := pw_and1 hx
theorem w_or1 (hx : PT X x (tB' F L O ma)) : PW X (.BoolOp .Or [x] pos) (tB' F L O ma) := pw_or1 hx
theorem pw_imp {e : Expr} {t t' : TT} (h : PW X e t) (i : ∀ σ H Q, t' σ H Q → t σ H Q) : PW X e t' := ⟨fun wh pins s σ H Q I q => h.run wh pins s σ H Q I (i σ H Q q)⟩
theorem w_and (hx : PT X x (tB' F L O ma)) (hy : PW X (.BoolOp .And (y :: rest) pos) (tB' F L O mb)) : PW X (.BoolOp .And (x :: y :: rest) pos) (tB' F L O (ma.bind fun c => if c then mb else .ok false)) := pw_imp (pw_and hx hy) fun σ H Q ⟨g, q⟩ => by
  rw [out_bind] at q
  refine ⟨g, q.mono (fun c qc H1 g1 s1 => ?_) fun _ z => z⟩
  cases c with
  | true =>
    show tB' F L O mb σ H1 Q
    exact ⟨g1, qc.mono (fun d kd H' g' s' => kd H' g' (s1.trans s')) fun H' ⟨a, b⟩ => ⟨a, s1.trans b⟩⟩
  | false => exact qc H1 g1 s1
theorem w_or (hx : PT X x (tB' F L O ma)) (hy : PW X (.BoolOp .Or (y :: rest) pos) (tB' F L O mb)) : PW X (.BoolOp .Or (x :: y :: rest) pos) (tB' F L O (ma.bind fun c => if c then .ok true else mb)) := pw_imp (pw_or hx hy) fun σ H Q ⟨g, q⟩ => by
  rw [out_bind] at q
  refine ⟨g, q.mono (fun c qc H1 g1 s1 => ?_) fun _ z => z⟩
  cases c with
  | true => exact qc H1 g1 s1
  | false =>
    show tB' F L O mb σ H1 Q
    exact ⟨g1, qc.mono (fun d kd H' g' s' => kd H' g' (s1.trans s')) fun H' ⟨a, b⟩ => ⟨a, s1.trans b⟩⟩
theorem n_if {c a b : Expr} {mc : Res Bool} {ma mb : Res α} (hc : PT X c (tB' F L O mc)) (ha : PE X a (tP b1 F L O ma)) (hb : PE X b (tP b1 F L O mb)) : PE X (.IfExp c a b pos) (tP b1 F L O (mc.bind fun c => if c then ma else mb)) := pe_imp (pe_ifExp hc ha hb) fun σ H Q ⟨g, q⟩ => by
  rw [out_bind] at q
  refine ⟨g, q.mono (fun c qc H1 g1 s1 => ?_) fun _ z => z⟩
  cases c with
  | true => exact ⟨g1, qc.mono (fun d kd v H' g' s' r' => kd v H' g' (s1.trans s') r') fun H' ⟨a, b⟩ => ⟨a, s1.trans b⟩⟩
  | false => exact ⟨g1, qc.mono (fun d kd v H' g' s' r' => kd v H' g' (s1.trans s') r') fun H' ⟨a, b⟩ => ⟨a, s1.trans b⟩⟩
end
section
variable {b1 b2 : Bool} {x y : Expr} {pos : Pos} {ma mb : Res Int}
variable (hx : PE X x (tP b1 F L O ma)) (hy : PE X y (tP b2 F L O mb))
include hx hy
theorem t_lt : PT X (.Compare x [.Lt] [y] pos) (tB' F L O (ma.bind fun x => mb.bind fun y => .ok (decide (x < y)))) := nf2t (pt_cmpR op_lt hx hy (nomark _)) (rr_I0 (g := fun x y => decide (x < y)))
theorem t_le : PT X (.Compare x [.LtE] [y] pos) (tB' F L O (ma.bind fun x => mb.bind fun y => .ok (decide (x ≤ y)))) := nf2t (pt_cmpR op_le hx hy (nomark _)) (rr_I0 (g := fun x y => decide (x ≤ y)))
theorem t_gt : PT X (.Compare x [.Gt] [y] pos) (tB' F L O (ma.bind fun x => mb.bind fun y => .ok (decide (y < x)))) := nf2t (pt_cmpR op_gt hx hy (nomark _)) (rr_I0 (g := fun x y => decide (y < x)))
theorem t_ge : PT X (.Compare x [.GtE] [y] pos) (tB' F L O (ma.bind fun x => mb.bind fun y => .ok (decide (y ≤ x)))) := nf2t (pt_cmpR op_ge hx hy (nomark _)) (rr_I0 (g := fun x y => decide (y ≤ x)))
theorem t_eq : PT X (.Compare x [.Eq] [y] pos) (tB' F L O (ma.bind fun x => mb.bind fun y => .ok (decide (x = y)))) := nf2t (pt_cmpR op_eq hx hy (nomark _)) fun x y vx vy H σ Q g rx ry q => by
  cases rx; cases ry
  exact ⟨rfl, by rw [show decide (V.int x = V.int y) = decide (x = y) by simp]; exact kp_flat g q⟩
theorem t_ne : PT X (.Compare x [.NotEq] [y] pos) (tB' F L O (ma.bind fun x => mb.bind fun y => .ok (!decide (x = y)))) := nf2t (pt_cmpR op_ne hx hy (nomark _)) fun x y vx vy H σ Q g rx ry q => by
  cases rx; cases ry
  exact ⟨rfl, by rw [show decide (V.int x = V.int y) = decide (x = y) by simp]; exact kp_flat g q⟩
end
section
variable {b1 b2 : Bool} {x y : Expr} {pos : Pos} {ma : Res α} {mb : Res β} [Data α] [Data β]
theorem t_eqD (hx : PE X x (tP b1 F L O ma)) (hy : PE X y (tP b2 F L O mb)) (hu : X.A.units + 64 < cLine) (hK : X.K = F.K := by rfl) :
    PT X (.Compare x [.Eq] [y] pos) (tB' F L O (ma.bind fun x => mb.bind fun y => need (shp x = true ∧ shp y = true) (.ok (eqD x y)))) := nf2t (pt_cmpR (op_eqD hu) hx hy (nomark _)) (rr_eqD hK)
theorem t_neD (hx : PE X x (tP b1 F L O ma)) (hy : PE X y (tP b2 F L O mb)) (hu : X.A.units + 64 < cLine) (hK : X.K = F.K := by rfl) :
    PT X (.Compare x [.NotEq] [y] pos) (tB' F L O (ma.bind fun x => mb.bind fun y => need (shp x = true ∧ shp y = true) (.ok (!eqD x y)))) := nf2t (pt_cmpR (op_neD hu) hx hy (nomark _)) fun x y vx vy H σ Q g rx ry q => by
  rw [out_need] at q
  rw [hK]
  exact ⟨_, _, Data.dp (Rep.mono rgn_sub rx), Data.dp (Rep.mono rgn_sub ry), q.1.1, q.1.2, kp_flat g q.2⟩
end
end
end NF

set_option Elab.async false
set_option linter.all false
set_option maxRecDepth 100000
/-! Nf2: lists, tuples, built-ins. -/
namespace NF
open PySem PySem.Spec PyProof.Rows L2
open Data (toD)
section
variable {X : Cx} {F : Fr} {L : List (Option Asr)} {O : List Own} {α β γ s : Type} [Rep α] [Rep β] [Rep γ] [Rep s]
/-! new lists -/
abbrev KF (α : Type) [Rep α] (b : Bool) (F : Fr) (L : List (Option Asr)) (O : List Own) (σ : L2.St) (H : Hp) (Q : VK) : List α → Prop :=
  fun as => ∀ p vs H', G F L O σ H' → Same H H' → H p = none → H' p = some (.lst vs) → Reps F.K F.mg (less (rgn b F O H') [p]) vs as → Q (.ref p) H'
theorem less_new {R R' : Hp} {p : Addr} (e : Same R R') (h : R p = none) : Same R (less R' [p]) := fun b o q => by
  have hb : b ∉ [p] := fun z => by
    rw [List.mem_singleton.mp z, h] at q
    cases q
  rw [less_out hb]
  exact e b o q
theorem rgn_none {b : Bool} {H : Hp} {p : Addr} (h : H p = none) : rgn b F O H p = none := by
  cases b
  · exact h
  · show less H _ p = none
    unfold less
    split
    · rfl
    · exact h
theorem kf_new {b : Bool} {σ : L2.St} {H : Hp} {Q : VK} {as : List α} {vs : List V} (g : G F L O σ H) (k : KF α b F L O σ H Q as) (r : Reps F.K F.mg (rgn b F O H) vs as) : ∀ p, H p = none → Q (.ref p) (upd H p (.lst vs)) := fun p hp =>
  k p vs _ (g.grow (same_upd hp)) (same_upd hp) hp upd_same (r.mono (less_new (rgn_grow (same_upd hp)) (rgn_none hp)))
theorem KF.mono {b : Bool} {σ : L2.St} {H H1 : Hp} {Q : VK} {as : List α} (e : Same H H1) (k : KF α b F L O σ H Q as) : KF α b F L O σ H1 Q as := fun p vs H' g s h1 h2 r => k p vs H' g (e.trans s) (e.free h1) h2 r
theorem rgn_new {b : Bool} {σ : L2.St} {H H' : Hp} {p : Addr} {o : HO} (g : G F L O σ H) (e : Same H H') (h : H p = none) (h' : H' p = some o) : rgn b F O H' p = some o := by
  cases b
  · exact h'
  · exact (less_out (g.go.out h)).trans h'
/-- a new list as a value -/
theorem f_val {e : Expr} {b : Bool} {m : Res (List α)} (h : PE X e (tF b F L O m)) : PE X e (tP b F L O m) := pe_imp h fun σ H Q ⟨g, q⟩ =>
  ⟨g, q.mono (fun as k p vs H' g' s h1 h2 r => k _ H' g' s ⟨p, vs, rfl, rgn_new g s h1 h2, r.mono less_same⟩) fun _ z => z⟩
theorem f_strong [Flat α] {e : Expr} {b b' : Bool} {m : Res (List α)} (h : PE X e (tF b F L O m)) : PE X e (tF b' F L O m) := pe_imp h fun σ H Q ⟨g, q⟩ =>
  ⟨g, q.mono (fun as k p vs H' g' s h1 h2 r => k p vs H' g' s h1 h2 (reps_flat.mpr (reps_flat.mp r))) fun _ z => z⟩
/-- by values, to a new list -/
def RRF (F : Fr) (L : List (Option Asr)) (O : List Own) (b1 b2 b3 : Bool) (r : R2) (mc : α → β → Res (List γ)) : Prop :=
  ∀ x y vx vy H σ Q, G F L O σ H → rp F (rgn b1 F O H) vx x → rp F (rgn b2 F O H) vy y → Out F (mc x y) (KF γ b3 F L O σ H Q) (XP F L O σ H) → r vx vy H Q
theorem nf2f {e : Expr} {b1 b2 b3 : Bool} {r : R2} {ma : Res α} {mb : Res β} {mc : α → β → Res (List γ)} (h : PE X e (tOp r (tP b1 F L O ma) (tP b2 F L O mb))) (hr : RRF F L O b1 b2 b3 r mc) :
    PE X e (tF b3 F L O (ma.bind fun x => mb.bind fun y => mc x y)) := pe_imp h fun σ H Q ⟨g, q⟩ => by
  rw [out_bind] at q
  refine ⟨g, q.mono (fun x qx v1 H1 g1 s1 r1 => ?_) fun _ z => z⟩
  rw [out_bind] at qx
  refine ⟨g1, qx.mono (fun y qy v2 H2 g2 s2 r2 => ?_) fun H' ⟨a, b⟩ => ⟨a, s1.trans b⟩⟩
  exact hr x y v1 v2 H2 σ Q g2 (Rep.mono (rgn_grow s2) r1) r2 (qy.mono (fun z kz => KF.mono (s1.trans s2) kz) fun H' ⟨a, b⟩ => ⟨a, (s1.trans s2).trans b⟩)
/-! places -/
def idx (xs : List α) (i : Int) : Res α := match atI xs i with
  | some a => .ok a
  | none => .bad
theorem at_get {K : Fg} {mg : MG} {H : Hp} {vs : List V} {as : List α} {i : Int} {a : α} (r : Reps K mg H vs as) (h : atI as i = some a) : ∃ v, atI vs i = some v ∧ Rep.rep K mg H v a := by
  unfold atI at h ⊢
  rw [r.length]
  cases e : ixN as.length i with
  | none => rw [e] at h; cases h
  | some j =>
    rw [e] at h
    exact reps_get r h
theorem ix_or {r r' : R2} (h : IxR X r) (h' : IxR X r') : IxR X (fun x y H Q => r x y H Q ∨ r' x y H Q) := fun a b pins s σ H x y v u Q I rx ry q hs => by
  rcases q with q | q
  · exact h a b pins s σ H x y v u Q I rx ry q hs
  · exact h' a b pins s σ H x y v u Q I rx ry q hs
theorem n_idx [Lk s α] {x y : Expr} {b1 b2 : Bool} {ma : Res s} {mb : Res Int} {pos : Pos} (hx : PE X x (tP b1 F L O ma)) (hy : PE X y (tP b2 F L O mb)) (hp : PlainIx y := by exact fun _ _ => rfl) (hK : X.K = F.K := by rfl) :
    PE X (.Subscript x y pos) (tP b1 F L O (ma.bind fun x => mb.bind fun y => idx (Lk.its x) y)) := nf2 (pe_ix (ix_or ix_list ix_tup) hx hy hp) fun x y vx vy H σ Q g rx ry q => by
  unfold idx at q
  cases e : atI (Lk.its x) y with
  | none => rw [e] at q; exact q.elim
  | some a =>
    rw [e] at q
    obtain ⟨p, vs, h1, h2, h3⟩ := Lk.get rx
    obtain ⟨v, h4, h5⟩ := at_get h3 e
    subst h1
    cases ry
    rw [hK]
    rcases h2 with h2 | h2
    · exact .inl ⟨p, vs, y, v, rfl, rfl, rgn_sub.seq h2, h4, q v H g (Same.refl _) h5⟩
    · exact .inr ⟨p, vs, y, v, rfl, rfl, same_t rgn_sub h2, h4, q v H g (Same.refl _) h5⟩
/-- the places of a pair -/
theorem n_fst {x : Expr} {b1 : Bool} {ma : Res (α × β)} {pos : Pos} {j p'} (hx : PE X x (tP b1 F L O ma)) (hp : PlainIx (.Constant (.int 0) j p') := by exact fun _ _ => rfl) (hK : X.K = F.K := by rfl) :
    PE X (.Subscript x (.Constant (.int 0) j p') pos) (tP b1 F L O (ma.bind fun x => .ok x.1)) := pe_imp (pe_ix ix_tup hx pe_int hp) fun σ H Q ⟨g, q⟩ => by
  rw [out_bind] at q
  refine ⟨g, q.mono (fun x qx v1 H1 g1 s1 r1 => ?_) fun _ z => z⟩
  obtain ⟨p, a, b, h1, h2, h3, h4⟩ := r1
  subst h1
  rw [hK]
  exact ⟨p, _, 0, a, rfl, rfl, same_t rgn_sub h2, rfl, qx _ H1 g1 s1 h3⟩
theorem n_snd {x : Expr} {b1 : Bool} {ma : Res (α × β)} {pos : Pos} {j p'} (hx : PE X x (tP b1 F L O ma)) (hp : PlainIx (.Constant (.int 1) j p') := by exact fun _ _ => rfl) (hK : X.K = F.K := by rfl) :
    PE X (.Subscript x (.Constant (.int 1) j p') pos) (tP b1 F L O (ma.bind fun x => .ok x.2)) := pe_imp (pe_ix ix_tup hx pe_int hp) fun σ H Q ⟨g, q⟩ => by
  rw [out_bind] at q
  refine ⟨g, q.mono (fun x qx v1 H1 g1 s1 r1 => ?_) fun _ z => z⟩
  obtain ⟨p, a, b, h1, h2, h3, h4⟩ := r1
  subst h1
  rw [hK]
  exact ⟨p, _, 1, b, rfl, rfl, same_t rgn_sub h2, rfl, qx _ H1 g1 s1 h4⟩
/-! tuples -/
theorem n_tup2 {x y : Expr} {b : Bool} {ma : Res α} {mb : Res β} {k} {pos : Pos} (hx : PE X x (tP b F L O ma)) (hy : PE X y (tP b F L O mb)) (h1 : starEach [x, y] X.env = (false, eval x X.env) :: starEach [y] X.env := by rfl) (h2 : starEach [y] X.env = (false, eval y X.env) :: starEach [] X.env := by rfl) :
    PE X (.Tuple [x, y] k pos) (tP b F L O (ma.bind fun x => mb.bind fun y => .ok (x, y))) := pe_imp (pe_tup (pa_cons hx (pa_cons hy pa_nil h2) h1)) fun σ H Q ⟨g, q⟩ => by
  rw [out_bind] at q
  refine ⟨g, q.mono (fun x qx v1 H1 g1 s1 r1 => ?_) fun _ z => z⟩
  rw [out_bind] at qx
  refine ⟨g1, qx.mono (fun y qy v2 H2 g2 s2 r2 => ?_) fun H' ⟨a, b⟩ => ⟨a, s1.trans b⟩⟩
  refine ⟨by show 2 ≤ sizeLine; decide, fun p hp => qy _ _ (g2.grow (same_upd hp)) ((s1.trans s2).trans (same_upd hp)) ⟨p, v1, v2, rfl, .of (rgn_new g2 (same_upd hp) hp upd_same), Rep.mono (rgn_grow (s2.trans (same_upd hp))) r1, Rep.mono (rgn_grow (same_upd hp)) r2⟩⟩
/-! argument lists -/
def tL (b : Bool) (F : Fr) (L : List (Option Asr)) (O : List Own) (m : Res (List α)) : TA := fun σ H Q =>
  G F L O σ H ∧ Out F m (fun as => ∀ vs H', G F L O σ H' → Same H H' → Reps F.K F.mg (rgn b F O H') vs as → Q vs H') (XP F L O σ H)
theorem l_nil {b : Bool} : PA X [] (tL (α := α) b F L O (.ok [])) := pa_imp pa_nil fun σ H Q ⟨g, q⟩ => q [] H g (Same.refl _) .nil
theorem l_cons {b : Bool} {e : Expr} {es : List Expr} {ma : Res α} {mr : Res (List α)} (he : PE X e (tP b F L O ma)) (hr : PA X es (tL b F L O mr)) (hs : starEach (e :: es) X.env = (false, eval e X.env) :: starEach es X.env := by rfl) :
    PA X (e :: es) (tL b F L O (ma.bind fun x => mr.bind fun xs => .ok (x :: xs))) := pa_imp (pa_cons he hr hs) fun σ H Q ⟨g, q⟩ => by
  rw [out_bind] at q
  refine ⟨g, q.mono (fun x qx v1 H1 g1 s1 r1 => ?_) fun _ z => z⟩
  rw [out_bind] at qx
  refine ⟨g1, qx.mono (fun y qy v2 H2 g2 s2 r2 => ?_) fun H' ⟨a, b⟩ => ⟨a, s1.trans b⟩⟩
  exact qy _ H2 g2 (s1.trans s2) (.cons (Rep.mono (rgn_grow s2) r1) r2)
theorem l_star [Lk s α] {b : Bool} {e : Expr} {es : List Expr} {p : Pos} {ma : Res s} {mr : Res (List α)} (he : PE X e (tP b F L O ma)) (hr : PA X es (tL b F L O mr)) (hs : starEach (.Starred e p :: es) X.env = (true, eval e X.env) :: starEach es X.env := by rfl) (hK : X.K = F.K := by rfl) :
    PA X (.Starred e p :: es) (tL b F L O (ma.bind fun x => mr.bind fun xs => .ok (Lk.its x ++ xs))) := pa_imp (StX.pa_star he hr hs) fun σ H Q ⟨g, q⟩ => by
  rw [out_bind] at q
  refine ⟨g, q.mono (fun x qx v1 H1 g1 s1 r1 => ?_) fun _ z => z⟩
  rw [out_bind] at qx
  obtain ⟨a, vs, h1, h2, h3⟩ := Lk.get r1
  rw [hK]
  refine ⟨a, vs, h1, h2.elim (fun z => .inr (rgn_sub.seq z)) (fun z => .inl (same_t rgn_sub z)), g1, qx.mono (fun y qy v2 H2 g2 s2 r2 => ?_) fun H' ⟨a, b⟩ => ⟨a, s1.trans b⟩⟩
  exact qy _ H2 g2 (s1.trans s2) (reps_append (h3.mono (rgn_grow s2)) r2)
theorem f_lst {b : Bool} {es : List Expr} {m : Res (List α)} {pos : Pos} (h : PA X es (tL b F L O m)) : PE X (.List es pos) (tF b F L O (m.bind fun as => need (as.length ≤ sizeLine) (.ok as))) := pe_imp (pe_lst h) fun σ H Q ⟨g, q⟩ => by
  rw [out_bind] at q
  refine ⟨g, q.mono (fun as qx vs H1 g1 s1 r1 => ?_) fun _ z => z⟩
  rw [out_need] at qx
  exact ⟨by rw [r1.length]; exact qx.1, kf_new g1 (KF.mono s1 qx.2) r1⟩
theorem n_tupN {b : Bool} {es : List Expr} {m : Res (List α)} {x1} {pos : Pos} (h : PA X es (tL b F L O m)) : PE X (.Tuple es x1 pos) (tP b F L O (m.bind fun as => need (as.length ≤ sizeLine) (.ok (Tp.mk as)))) := pe_imp (pe_tup h) fun σ H Q ⟨g, q⟩ => by
  rw [out_bind] at q
  refine ⟨g, q.mono (fun as qx vs H1 g1 s1 r1 => ?_) fun _ z => z⟩
  rw [out_need] at qx
  exact ⟨by rw [r1.length]; exact qx.1, fun p hp => qx.2 _ _ (g1.grow (same_upd hp)) (s1.trans (same_upd hp)) ⟨p, vs, rfl, .of (rgn_new g1 (same_upd hp) hp upd_same), r1.mono (rgn_grow (same_upd hp))⟩⟩
/-! xs + ys, xs * n, slices -/
theorem f_cat {x y : Expr} {b : Bool} {ma mb : Res (List α)} {pos : Pos} (hx : PE X x (tP b F L O ma)) (hy : PE X y (tP b F L O mb)) :
    PE X (.BinOp x .Add y pos) (tF b F L O (ma.bind fun x => mb.bind fun y => need (x.length + y.length ≤ sizeLine) (.ok (x ++ y)))) := nf2f (pe_op op_cat hx hy) fun x y vx vy H σ Q g rx ry q => by
  rw [out_need] at q
  obtain ⟨p, vs, rfl, h2, h3⟩ := rx
  obtain ⟨p', vs', rfl, h2', h3'⟩ := ry
  exact ⟨p, p', vs, vs', rfl, rfl, rgn_sub _ _ h2, rgn_sub _ _ h2', by rw [h3.length, h3'.length]; exact q.1, kf_new g q.2 (reps_append h3 h3')⟩
theorem reps_rep {K : Fg} {mg : MG} {H : Hp} {vs : List V} {as : List α} (r : Reps K mg H vs as) : ∀ n : Nat, Reps K mg H (List.replicate n vs).flatten (List.replicate n as).flatten
  | 0 => .nil
  | n + 1 => by
    rw [List.replicate_succ, List.replicate_succ, List.flatten_cons, List.flatten_cons]
    exact reps_append r (reps_rep r n)
theorem f_rep {x y : Expr} {b b2 : Bool} {ma : Res (List α)} {mb : Res Int} {pos : Pos} (hx : PE X x (tP b F L O ma)) (hy : PE X y (tP b2 F L O mb)) :
    PE X (.BinOp x .Mult y pos) (tF b F L O (ma.bind fun x => mb.bind fun n => need (Rg63 n ∧ x.length * n.toNat ≤ sizeLine) (.ok (List.replicate n.toNat x).flatten))) := nf2f (pe_op op_rep hx hy) fun x y vx vy H σ Q g rx ry q => by
  rw [out_need] at q
  obtain ⟨p, vs, rfl, h2, h3⟩ := rx
  cases ry
  exact ⟨p, y, vs, rfl, rfl, rgn_sub _ _ h2, q.1.1.1, q.1.1.2, by rw [h3.length]; exact q.1.2, kf_new g q.2 (reps_rep h3 _)⟩
def cut (xs : List α) (lo hi : Option Int) : List α := List.take (HT.sIx xs.length xs.length hi - HT.sIx xs.length 0 lo) (List.drop (HT.sIx xs.length 0 lo) xs)
def tO (F : Fr) (L : List (Option Asr)) (O : List Own) (m : Res (Option Int)) : TO := fun σ H Q =>
  G F L O σ H ∧ Out F m (fun a => ∀ H', G F L O σ H' → Same H H' → Q a H') (XP F L O σ H)
theorem po_imp {e : Option Expr} {t t' : TO} (h : PO X e t) (i : ∀ σ H Q, t' σ H Q → t σ H Q) : PO X e t' := ⟨fun pins s σ H Q I q => h.run pins s σ H Q I (i σ H Q q)⟩
theorem o_none : PO X none (tO F L O (.ok none)) := po_imp po_none fun σ H Q ⟨g, q⟩ => q H g (Same.refl _)
theorem o_some {e : Expr} {b : Bool} {m : Res Int} (h : PE X e (tP b F L O m)) : PO X (some e) (tO F L O (m.bind fun i => .ok (some i))) := po_imp (po_some h) fun σ H Q ⟨g, q⟩ => by
  rw [out_bind] at q
  exact ⟨g, q.mono (fun i k v H' g' s r => ⟨i, r, k H' g' s⟩) fun _ z => z⟩
theorem f_slice {x : Expr} {b : Bool} {ma : Res (List α)} {lo hi : Option Expr} {ml mh : Res (Option Int)} {p1 p2 : Pos} (hx : PE X x (tP b F L O ma)) (hl : PO X lo (tO F L O ml)) (hh : PO X hi (tO F L O mh)) :
    PE X (.Subscript x (.Slice lo hi none p2) p1) (tF b F L O (ma.bind fun x => ml.bind fun l => mh.bind fun h => .ok (cut x l h))) := pe_imp (pe_slice sl_list hx hl hh) fun σ H Q ⟨g, q⟩ => by
  rw [out_bind] at q
  refine ⟨g, q.mono (fun x qx v1 H1 g1 s1 r1 => ?_) fun _ z => z⟩
  rw [out_bind] at qx
  refine ⟨g1, qx.mono (fun l ql H2 g2 s2 => ?_) fun H' ⟨a, b⟩ => ⟨a, s1.trans b⟩⟩
  rw [out_bind] at ql
  refine ⟨g2, ql.mono (fun h qh H3 g3 s3 => ?_) fun H' ⟨a, b⟩ => ⟨a, (s1.trans s2).trans b⟩⟩
  obtain ⟨p, vs, rfl, h2, h3⟩ := r1
  refine ⟨p, vs, rfl, .of ((s2.trans s3) _ _ (rgn_sub _ _ h2)), kf_new g3 (KF.mono ((s1.trans s2).trans s3) qh) ?_⟩
  have e : vs.length = x.length := h3.length
  unfold cutV cut
  rw [e]
  exact reps_take _ (reps_drop _ (h3.mono (rgn_grow (s2.trans s3))))
/-! built-ins of one and of two arguments -/
def RC1 (F : Fr) (L : List (Option Asr)) (O : List Own) (b1 b3 : Bool) (r : List V → Hp → VK → Prop) (mc : α → Res γ) : Prop :=
  ∀ x vx H σ Q, G F L O σ H → rp F (rgn b1 F O H) vx x → Out F (mc x) (KP γ b3 F L O σ H Q) (XP F L O σ H) → r [vx] H Q
theorem nc1 {e : Expr} {b1 b3 : Bool} {r : List V → Hp → VK → Prop} {ma : Res α} {mc : α → Res γ} (h : PE X e (tCB r (tCons (tP b1 F L O ma) tNil))) (hr : RC1 F L O b1 b3 r mc) :
    PE X e (tP b3 F L O (ma.bind mc)) := pe_imp h fun σ H Q ⟨g, q⟩ => by
  rw [out_bind] at q
  refine ⟨g, q.mono (fun x qx v1 H1 g1 s1 r1 => ?_) fun _ z => z⟩
  exact hr x v1 H1 σ Q g1 r1 (qx.mono (fun z kz v H' g' s' r' => kz v H' g' (s1.trans s') r') fun H' ⟨a, b⟩ => ⟨a, s1.trans b⟩)
def RC1F (F : Fr) (L : List (Option Asr)) (O : List Own) (b1 b3 : Bool) (r : List V → Hp → VK → Prop) (mc : α → Res (List γ)) : Prop :=
  ∀ x vx H σ Q, G F L O σ H → rp F (rgn b1 F O H) vx x → Out F (mc x) (KF γ b3 F L O σ H Q) (XP F L O σ H) → r [vx] H Q
theorem nc1f {e : Expr} {b1 b3 : Bool} {r : List V → Hp → VK → Prop} {ma : Res α} {mc : α → Res (List γ)} (h : PE X e (tCB r (tCons (tP b1 F L O ma) tNil))) (hr : RC1F F L O b1 b3 r mc) :
    PE X e (tF b3 F L O (ma.bind mc)) := pe_imp h fun σ H Q ⟨g, q⟩ => by
  rw [out_bind] at q
  refine ⟨g, q.mono (fun x qx v1 H1 g1 s1 r1 => ?_) fun _ z => z⟩
  exact hr x v1 H1 σ Q g1 r1 (qx.mono (fun z kz => KF.mono s1 kz) fun H' ⟨a, b⟩ => ⟨a, s1.trans b⟩)
theorem nc2 {e : Expr} {b1 b2 b3 : Bool} {r : List V → Hp → VK → Prop} {ma : Res α} {mb : Res β} {mc : α → β → Res γ} (h : PE X e (tCB r (tCons (tP b1 F L O ma) (tCons (tP b2 F L O mb) tNil))))
    (hr : ∀ x y vx vy H σ Q, G F L O σ H → rp F (rgn b1 F O H) vx x → rp F (rgn b2 F O H) vy y → Out F (mc x y) (KP γ b3 F L O σ H Q) (XP F L O σ H) → r [vx, vy] H Q) :
    PE X e (tP b3 F L O (ma.bind fun x => mb.bind fun y => mc x y)) := pe_imp h fun σ H Q ⟨g, q⟩ => by
  rw [out_bind] at q
  refine ⟨g, q.mono (fun x qx v1 H1 g1 s1 r1 => ?_) fun _ z => z⟩
  rw [out_bind] at qx
  refine ⟨g1, qx.mono (fun y qy v2 H2 g2 s2 r2 => ?_) fun H' ⟨a, b⟩ => ⟨a, s1.trans b⟩⟩
  exact hr x y v1 v2 H2 σ Q g2 (Rep.mono (rgn_grow s2) r1) r2 (qy.mono (fun z kz v H' g' s' r' => kz v H' g' ((s1.trans s2).trans s') r') fun H' ⟨a, b⟩ => ⟨a, (s1.trans s2).trans b⟩)
theorem n_len [Lk s α] {e : Expr} {b1 b3 : Bool} {ma : Res s} {r} (h : PE X e (tCB r (tCons (tP b1 F L O ma) tNil))) (er : r = fun xs H Q => ∃ p ys, xs = [V.ref p] ∧ (SqL X.K H p ys ∨ SqT X.K H p ys) ∧ Q (V.int ys.length) H) (hK : X.K = F.K := by rfl) : PE X e (tP b3 F L O (ma.bind fun x => .ok ((Lk.its x).length : Int))) := nc1 h fun x vx H σ Q g rx q => by
  subst er
  obtain ⟨p, vs, rfl, h2, h3⟩ := Lk.get rx
  rw [hK]
  refine ⟨p, vs, rfl, h2.elim (fun z => .inl (rgn_sub.seq z)) (fun z => .inr (same_t rgn_sub z)), ?_⟩
  rw [h3.length]
  exact kp_flat g q
end
end NF

set_option Elab.async false
set_option linter.all false
set_option maxRecDepth 100000
/-! Nf3: statements, defs, calls. -/
namespace NF
open PySem PySem.Spec PyProof.Rows L2
open Data (toD)
section
variable {X : Cx} {F : Fr} {L : List (Option Asr)} {O : List Own} {α β γ s ι : Type} [Rep α] [Rep β] [Rep γ] [Rep s] [Rep ι]

/-! owned objects may be let go -/
theorem GO.sub {O' : List Own} {H : Hp} (g : GO F O H) (h : List.Sublist O' O) : GO F O' H where
  objs := fun w hw => let ⟨o, ho, p⟩ := g.objs w (h.subset hw); ⟨o, ho, w.mono (less_sub fun a ha => by
    rcases List.mem_append.mp ha with z | z
    · exact List.mem_append_left _ ((h.map Own.a).subset z)
    · exact List.mem_append_right _ z) p⟩
  nd := g.nd.sublist (h.map Own.a)
  own := fun w hw => g.own w (h.subset hw)
  keep := g.keep
  live := g.live
  hid := g.hid
  apart := fun w hw => g.apart w (h.subset hw)
  facts := fun z hz => z.mono (less_sub fun a ha => by
    rcases List.mem_append.mp ha with z | z
    · exact List.mem_append_left _ ((h.map Own.a).subset z)
    · exact List.mem_append_right _ z) (g.facts z hz)
theorem rg_sub {O' : List Own} {H : Hp} (h : List.Sublist O' O) : Same (rg F O H) (rg F O' H) := less_sub fun a ha => by
  rcases List.mem_append.mp ha with z | z
  · exact List.mem_append_left _ ((h.map Own.a).subset z)
  · exact List.mem_append_right _ z

/-! ### statements -/
abbrev XPS (F : Fr) : Hp → Prop := fun H' => GO F F.O0 H'
/-- goes on -/
def tN {β : Type} (F : Fr) (L : List (Option Asr)) (O : List Own) (m : Res β) (L' : β → List (Option Asr)) (O' : β → List Own) : TS := fun D σ H =>
  G F L O σ H ∧ Out F m (fun b => ∀ σ' H', G F (L' b) (O' b) σ' H' → D.nx σ' H') (XPS F)
/-- hands back -/
def tT {β : Type} (F : Fr) (L : List (Option Asr)) (O : List Own) (m : Res β) (Ret : β → V → Hp → Prop) : TS := fun D σ H =>
  G F L O σ H ∧ Out F m (fun b => ∀ v H', Ret b v H' → D.rt v H') (XPS F)
/-- goes on or hands back -/
def tM {β δ : Type} (F : Fr) (L : List (Option Asr)) (O : List Own) (m : Res (Sum β δ)) (L' : β → List (Option Asr)) (O' : β → List Own) (Ret : δ → V → Hp → Prop) : TS := fun D σ H =>
  G F L O σ H ∧ Out F m (fun r => match r with
    | .inl b => ∀ σ' H', G F (L' b) (O' b) σ' H' → D.nx σ' H'
    | .inr d => ∀ v H', Ret d v H' → D.rt v H') (XPS F)
theorem pss_ex {ι : Type} {st : List Stmt} {t : ι → TS} (h : ∀ b, PSs X st (t b)) : PSs X st (fun D σ H => ∃ b, t b D σ H) := ⟨fun pins s σ H D I ⟨b, q⟩ => (h b).run pins s σ H D I q⟩
variable {st : Stmt} {rest : List Stmt} {B B' D' : Type} {Ret : D' → V → Hp → Prop} {L' : B → List (Option Asr)} {O' : B → List Own} {L2' : B' → List (Option Asr)} {O2' : B' → List Own}
theorem b_N {m1 : Res B} {m2 : B → Res D'} (h1 : PS X st (tN F L O m1 L' O')) (h2 : ∀ b, PSs X rest (tT F (L' b) (O' b) (m2 b) Ret)) : PSs X (st :: rest) (tT F L O (m1.bind m2) Ret) := pss_imp (pss_cons h1 (pss_ex h2)) fun D σ H ⟨g, q⟩ => by
  rw [out_bind] at q
  exact ⟨g, q.mono (fun b k σ' H' g' => ⟨b, g', k⟩) fun _ z => z⟩
theorem n_N {m1 : Res B} {m2 : B → Res B'} (h1 : PS X st (tN F L O m1 L' O')) (h2 : ∀ b, PSs X rest (tN F (L' b) (O' b) (m2 b) L2' O2')) : PSs X (st :: rest) (tN F L O (m1.bind m2) L2' O2') := pss_imp (pss_cons h1 (pss_ex h2)) fun D σ H ⟨g, q⟩ => by
  rw [out_bind] at q
  exact ⟨g, q.mono (fun b k σ' H' g' => ⟨b, g', k⟩) fun _ z => z⟩
theorem m_N {m1 : Res B} {m2 : B → Res (Sum B' D')} (h1 : PS X st (tN F L O m1 L' O')) (h2 : ∀ b, PSs X rest (tM F (L' b) (O' b) (m2 b) L2' O2' Ret)) : PSs X (st :: rest) (tM F L O (m1.bind m2) L2' O2' Ret) := pss_imp (pss_cons h1 (pss_ex h2)) fun D σ H ⟨g, q⟩ => by
  rw [out_bind] at q
  exact ⟨g, q.mono (fun b k σ' H' g' => ⟨b, g', k⟩) fun _ z => z⟩
/-- the end of a block that goes on; slots and owned objects may be forgotten -/
def wk : List (Option Asr) → List (Option Asr) → Prop
  | [], [] => True
  | x :: xs, y :: ys => (y = none ∨ y = x) ∧ wk xs ys
  | _, _ => False
theorem wk_ok {R : Hp} : ∀ {l l' : List (Option Asr)} {σ : L2.St}, wk l l' → Paired (SlotOk R) l σ → Paired (SlotOk R) l' σ
  | [], [], _, _, h => h
  | _ :: _, _ :: _, _, ⟨w, ws⟩, .cons h hs => .cons (by
      rcases w with rfl | rfl
      · trivial
      · exact h) (wk_ok ws hs)
  | [], _ :: _, _, w, _ => w.elim
  | _ :: _, [], _, w, _ => w.elim
theorem G.to {L'' : List (Option Asr)} {O'' : List Own} {σ : L2.St} {H : Hp} (g : G F L O σ H) (h : wk L L'') (ho : List.Sublist O'' O) : G F L'' O'' σ H :=
  ⟨L2.Paired.mapP (wk_ok h g.slots) fun _ _ q => q.mono (rg_sub ho), g.go.sub ho⟩
theorem n_end (b : B) (h : wk L (L' b)) (ho : List.Sublist (O' b) O) : PSs X [] (tN F L O (.ok b) L' O') := pss_imp pss_nil fun D σ H ⟨g, q⟩ => q σ H (g.to h ho)
theorem m_end (b : B) (h : wk L (L' b)) (ho : List.Sublist (O' b) O) : PSs X [] (tM F L O (.ok (.inl b)) L' O' Ret) := pss_imp pss_nil fun D σ H ⟨g, q⟩ => q σ H (g.to h ho)
theorem m_T {m : Res D'} {st : List Stmt} (h : PSs X st (tT F L O m Ret)) : PSs X st (tM F L O (m.bind fun d => .ok (.inr d)) L' O' Ret) := pss_imp h fun D σ H ⟨g, q⟩ => by
  rw [out_bind] at q
  exact ⟨g, q⟩
theorem b_s {m : Res D'} (h : PS X st (tT F L O m Ret)) : PSs X [st] (tT F L O m Ret) := pss_one h
/-! names -/
def tNx (i : Nat) (te : TE) : TS := tAsg te (gName i)
theorem set_ok {R : Hp} {v : V} {p : Option Asr} (h : SlotOk R p (some v)) : ∀ {l : List (Option Asr)} {σ : L2.St} (i : Nat), Paired (SlotOk R) l σ → Paired (SlotOk R) (l.set i p) (σ.set i (some v))
  | _, _, _, .nil => .nil
  | _, _, 0, .cons _ t => .cons h t
  | _, _, n + 1, .cons q t => .cons q (set_ok h n t)
theorem go_s {H' : Hp} {O₀ : List Own} (g : GO F O H') (h : List.Sublist O₀ O) : GO F O₀ H' := g.sub h
/-- goes on, with a new owned object at p -/
def tNp {β : Type} (F : Fr) (L : List (Option Asr)) (O : List Own) (m : Res β) (L' : Addr → β → List (Option Asr)) (O' : Addr → β → List Own) : TS := fun D σ H =>
  G F L O σ H ∧ Out F m (fun b => ∀ p σ' H', G F (L' p b) (O' p b) σ' H' → D.nx σ' H') (XPS F)
section
variable {L' : Addr → B → List (Option Asr)} {O' : Addr → B → List Own}
theorem b_Np {m1 : Res B} {m2 : B → Res D'} (h1 : PS X st (tNp F L O m1 L' O')) (h2 : ∀ b p, PSs X rest (tT F (L' p b) (O' p b) (m2 b) Ret)) : PSs X (st :: rest) (tT F L O (m1.bind m2) Ret) := pss_imp (pss_cons h1 (pss_ex fun b => pss_ex (h2 b))) fun D σ H ⟨g, q⟩ => by
  rw [out_bind] at q
  exact ⟨g, q.mono (fun b k p σ' H' g' => ⟨b, p, g', k⟩) fun _ z => z⟩
theorem n_Np {m1 : Res B} {m2 : B → Res B'} (h1 : PS X st (tNp F L O m1 L' O')) (h2 : ∀ b p, PSs X rest (tN F (L' p b) (O' p b) (m2 b) L2' O2')) : PSs X (st :: rest) (tN F L O (m1.bind m2) L2' O2') := pss_imp (pss_cons h1 (pss_ex fun b => pss_ex (h2 b))) fun D σ H ⟨g, q⟩ => by
  rw [out_bind] at q
  exact ⟨g, q.mono (fun b k p σ' H' g' => ⟨b, p, g', k⟩) fun _ z => z⟩
theorem m_Np {m1 : Res B} {m2 : B → Res (Sum B' D')} (h1 : PS X st (tNp F L O m1 L' O')) (h2 : ∀ b p, PSs X rest (tM F (L' p b) (O' p b) (m2 b) L2' O2' Ret)) : PSs X (st :: rest) (tM F L O (m1.bind m2) L2' O2' Ret) := pss_imp (pss_cons h1 (pss_ex fun b => pss_ex (h2 b))) fun D σ H ⟨g, q⟩ => by
  rw [out_bind] at q
  exact ⟨g, q.mono (fun b k p σ' H' g' => ⟨b, p, g', k⟩) fun _ z => z⟩
end
section
variable {x : Str} {e : Expr} {pos pos' : Pos} (i : Nat)
/-- x = e -/
theorem s_set (hN : X.N.Nodup) (hO : List.Sublist F.O0 O) {m : Res α} (he : PE X e (tP true F L O m)) (hi : X.N[i]? = some x := by rfl) (hx : L2.Loc X.env.scope x := by first | exact .inl rfl | exact .inr rfl) (hs : swapsWith e (some (.Name x pos')) pos.line X.env = pure false := by rfl) (hf : X.fn x = true ∨ X.env.scope.names.lookup x = some .local := by first | exact .inl rfl | exact .inr rfl) :
    PS X (.Assign [.Name x pos'] e pos) (tN F L O m (fun a => L.set i (vl F.K F.mg a)) (fun _ => O)) := ps_imp (ps_set (i := i) hN hi hx he hs hf) fun D σ H ⟨g, q⟩ =>
  ⟨g, q.mono (fun a k v H1 g1 s1 r1 => k _ _ ⟨set_ok (p := vl F.K F.mg a) r1 i g1.slots, g1.go⟩) fun H' ⟨a, _⟩ => a.go.sub hO⟩
theorem rg_new {H H1 : Hp} {p : Addr} {w : Own} (hw : w.a = p) (e : Same H H1) (h1 : H p = none) : Same (rg F O H) (rg F (w :: O) H1) := fun b o q => by
  unfold rg at q ⊢
  by_cases hb : b ∈ addrs O ++ F.A
  · rw [less_in hb] at q; cases q
  · rw [less_out hb] at q
    rw [less_out (by
      intro z
      rcases List.mem_append.mp z with z | z
      · rcases List.mem_cons.mp z with z | z
        · rw [z, hw, h1] at q; cases q
        · exact hb (List.mem_append_left _ z)
      · exact hb (List.mem_append_right _ z))]
    exact e b o q
theorem go_new {σ : L2.St} {H H1 : Hp} {p : Addr} {vs : List V} {as : List α} (g : G F L O σ H) (g1 : GO F O H1) (e : Same H H1) (h1 : H p = none) (h2 : H1 p = some (.lst vs)) (r : Reps F.K F.mg (less (rg F O H1) [p]) vs as) : GO F (ow F.K F.mg p as :: O) H1 where
  objs := fun w hw => by
    rcases List.mem_cons.mp hw with rfl | hw
    · refine ⟨_, h2, vs, rfl, r.mono fun b o q => ?_⟩
      unfold rg
      by_cases hb : b ∈ [p]
      · rw [less_in hb] at q; cases q
      · rw [less_out hb] at q
        unfold rg at q
        by_cases hc : b ∈ addrs O ++ F.A
        · rw [less_in hc] at q; cases q
        · rw [less_out hc] at q
          rw [less_out]
          · exact q
          · intro z
            rcases List.mem_cons.mp (show b ∈ p :: (addrs O ++ F.A) from z) with z | z
            · exact hb (List.mem_singleton.mpr z)
            · exact hc z
    · obtain ⟨o, ho, hp⟩ := g.go.objs w hw
      exact ⟨o, e _ _ ho, w.mono (rg_new rfl e h1) hp⟩
  nd := by
    refine List.nodup_cons.mpr ⟨fun z => ?_, g1.nd⟩
    exact g.go.out h1 (List.mem_append_left _ z)
  own := fun w hw => by
    rcases List.mem_cons.mp hw with rfl | hw
    · refine .inr ?_
      cases q : F.H0 p with
      | none => exact q
      | some o => exact (g.go.live p (by rw [q]; simp) h1).elim
    · exact g1.own w hw
  keep := g1.keep
  live := g1.live
  hid := g1.hid
  apart := fun w hw => by
    rcases List.mem_cons.mp hw with rfl | hw
    · exact fun z => g.go.out h1 (List.mem_append_right _ z)
    · exact g1.apart w hw
  facts := fun z hz => z.mono (rg_new rfl e h1) (g.go.facts z hz)
/-- x = a new list, owned from now on -/
theorem s_own (hN : X.N.Nodup) (hO : List.Sublist F.O0 O) {m : Res (List α)} (he : PE X e (tF true F L O m)) (hi : X.N[i]? = some x := by rfl) (hx : L2.Loc X.env.scope x := by first | exact .inl rfl | exact .inr rfl) (hs : swapsWith e (some (.Name x pos')) pos.line X.env = pure false := by rfl) (hf : X.fn x = true ∨ X.env.scope.names.lookup x = some .local := by first | exact .inl rfl | exact .inr rfl) :
    PS X (.Assign [.Name x pos'] e pos) (tNp F L O m (fun p _ => L.set i (rf p)) (fun p as => ow F.K F.mg p as :: O)) := ps_imp (ps_set (i := i) hN hi hx he hs hf) fun D σ H ⟨g, q⟩ =>
  ⟨g, q.mono (fun as k p vs H1 g1 s1 h1 h2 r1 => k p _ _ ⟨set_ok (p := rf p) rfl i (L2.Paired.mapP g.slots fun _ _ z => z.mono (rg_new rfl s1 h1)), go_new g g1.go s1 h1 h2 r1⟩) fun H' ⟨a, _⟩ => a.go.sub hO⟩
end
/-! if -/
section
variable {c : Expr} {mc : Res Bool} {body orelse : List Stmt} {pos : Pos}
theorem b_if {m1 m2 : Res D'} (hc : PT X c (tB' F L O mc)) (hb : PSs X body (tT F L O m1 Ret)) (hr : PSs X rest (tT F L O m2 Ret)) (hO : List.Sublist F.O0 O) : PSs X (.If c body [] pos :: rest) (tT F L O (mc.bind fun c => if c then m1 else m2) Ret) := pss_imp (pss_cons (ps_if hc hb pss_nil) hr) fun D σ H ⟨g, q⟩ => by
  rw [out_bind] at q
  refine ⟨g, q.mono (fun c k H1 g1 s1 => ?_) fun H' ⟨a, _⟩ => a.go.sub hO⟩
  cases c with
  | true => exact ⟨g1, k⟩
  | false => exact ⟨g1, k⟩
theorem b_ife {m1 m2 : Res D'} (hc : PT X c (tB' F L O mc)) (hb : PSs X body (tT F L O m1 Ret)) (hr : PSs X orelse (tT F L O m2 Ret)) (hO : List.Sublist F.O0 O) : PS X (.If c body orelse pos) (tT F L O (mc.bind fun c => if c then m1 else m2) Ret) := ps_imp (ps_if hc hb hr) fun D σ H ⟨g, q⟩ => by
  rw [out_bind] at q
  refine ⟨g, q.mono (fun c k H1 g1 s1 => ?_) fun H' ⟨a, _⟩ => a.go.sub hO⟩
  cases c with
  | true => exact ⟨g1, k⟩
  | false => exact ⟨g1, k⟩
theorem s_if {m1 m2 : Res B} (hc : PT X c (tB' F L O mc)) (hb : PSs X body (tN F L O m1 L' O')) (hr : PSs X orelse (tN F L O m2 L' O')) (hO : List.Sublist F.O0 O) : PS X (.If c body orelse pos) (tN F L O (mc.bind fun c => if c then m1 else m2) L' O') := ps_imp (ps_if hc hb hr) fun D σ H ⟨g, q⟩ => by
  rw [out_bind] at q
  refine ⟨g, q.mono (fun c k H1 g1 s1 => ?_) fun H' ⟨a, _⟩ => a.go.sub hO⟩
  cases c with
  | true => exact ⟨g1, k⟩
  | false => exact ⟨g1, k⟩
theorem m_if {m1 : Res D'} {m2 : Res (Sum B D')} (hc : PT X c (tB' F L O mc)) (hb : PSs X body (tT F L O m1 Ret)) (hr : PSs X rest (tM F L O m2 L' O' Ret)) (hO : List.Sublist F.O0 O) : PSs X (.If c body [] pos :: rest) (tM F L O (mc.bind fun c => if c then (m1.bind fun d => .ok (.inr d)) else m2) L' O' Ret) := pss_imp (pss_cons (ps_if hc hb pss_nil) hr) fun D σ H ⟨g, q⟩ => by
  rw [out_bind] at q
  refine ⟨g, q.mono (fun c k H1 g1 s1 => ?_) fun H' ⟨a, _⟩ => a.go.sub hO⟩
  cases c with
  | true =>
    simp only [if_true] at k
    rw [out_bind] at k
    exact ⟨g1, k⟩
  | false => exact ⟨g1, k⟩
end
/-! return -/
def rV {ρ : Type} [Rep ρ] (F : Fr) (b : ρ) (v : V) (H : Hp) : Prop := GO F [] H ∧ rp F (rg F [] H) v b
def rF (F : Fr) (as : List α) (v : V) (H : Hp) : Prop := ∃ p vs, v = .ref p ∧ GO F [] H ∧ F.H0 p = none ∧ p ∉ F.A ∧ H p = some (.lst vs) ∧ Reps F.K F.mg (less (rg F [] H) [p]) vs as
theorem b_ret {m : Res α} {e : Expr} {pos : Pos} (he : PE X e (tP true F L O m)) (hO : List.Sublist F.O0 O) : PSs X [.Return (some e) pos] (tT F L O m (rV F)) := pss_one (ps_imp (ps_ret he) fun D σ H ⟨g, q⟩ =>
  ⟨g, q.mono (fun a k v H1 g1 s1 r1 => k v H1 ⟨g1.go.sub (List.nil_sublist _), Rep.mono (rg_sub (List.nil_sublist _)) r1⟩) fun H' ⟨a, _⟩ => a.go.sub hO⟩)
theorem b_retF {m : Res (List α)} {e : Expr} {pos : Pos} (he : PE X e (tF true F L O m)) (hO : List.Sublist F.O0 O) : PSs X [.Return (some e) pos] (tT F L O m (rF F)) := pss_one (ps_imp (ps_ret he) fun D σ H ⟨g, q⟩ =>
  ⟨g, q.mono (fun a k p vs H1 g1 s1 h1 h2 r1 => k _ H1 ⟨p, vs, rfl, g1.go.sub (List.nil_sublist _), by
    cases q : F.H0 p with
    | none => rfl
    | some o => exact (g.go.live p (by rw [q]; simp) h1).elim, fun z => g.go.out h1 (List.mem_append_right _ z), h2, r1.mono (less_mono fun b o _ q => rg_sub (List.nil_sublist _) b o q)⟩) fun H' ⟨a, _⟩ => a.go.sub hO⟩)
/-- return of an owned list -/
theorem b_retO {as : List α} {O1 : List Own} {p : Addr} {x : Str} {pos' pos : Pos} (i : Nat) (hL : L[i]? = some (rf p) := by rfl) (hO1 : (ow F.K F.mg p as :: O1).Perm O) (hW : F.W = []) (hO : List.Sublist F.O0 O) (hN : X.N[i]? = some x := by rfl) (hv : Vis X.env.scope x := by first | exact Or.inl rfl | exact Or.inr (Or.inl rfl) | exact Or.inr (Or.inr rfl)) (hd : (x == ("__debug__" : Str)) = false := by decide)
    (hcd : (x == ("__classdict__" : Str)) = false := by decide) : PSs X [.Return (some (.Name x pos')) pos] (tT F L O (.ok as) (rF F)) := pss_one (ps_imp (ps_ret (pe_var hN hv hd hcd)) fun D σ H ⟨g, q⟩ => by
  obtain ⟨v, h1, h2⟩ := g.slot hL
  have hm : ow F.K F.mg p as ∈ O := hO1.subset List.mem_cons_self
  obtain ⟨o, h3, vs, h4, h5⟩ := g.go.objs _ hm
  subst h4
  refine ⟨v, h1, q v H ⟨p, vs, h2, g.go.sub (List.nil_sublist _), ?_, g.go.apart _ hm, h3, h5.mono fun b o z => ?_⟩⟩
  · rcases g.go.own _ hm with z | z
    · rw [hW] at z; cases z
    · exact z
  · have hb : b ∉ addrs O ++ F.A := fun y => by unfold rg at z; rw [less_in y] at z; cases z
    unfold rg at z ⊢
    rw [less_out hb] at z
    rw [less_out (fun y => hb (List.mem_append_left _ (by
      rw [List.mem_singleton.mp y]
      exact List.mem_map.mpr ⟨_, hm, rfl⟩))), show addrs ([] : List Own) ++ F.A = F.A from rfl, less_out (fun y => hb (List.mem_append_right _ y))]
    exact z)
end
end NF

set_option Elab.async false
set_option linter.all false
set_option maxRecDepth 100000
/-! Nf4: promises, defs, calls. -/
namespace NF
open PySem PySem.Spec PyProof.Rows L2
open Data (toD)
/-- the frame of a def that changes nothing -/
abbrev F0 (K : Fg) (mg : MG) (H : Hp) (A : List Addr) (E : XK) : Fr := ⟨K, mg, H, [], A, [], E, []⟩
/-- the frame of a def that changes a list -/
abbrev F1 {α : Type} [Rep α] (K : Fg) (mg : MG) (H : Hp) (A : List Addr) (E : XK) (p : Addr) (xs : List α) : Fr := ⟨K, mg, H, [p], A, [ow K mg p xs], E, []⟩
section
variable (K : Fg) (mg : MG) {τ ρ α : Type} [RepA τ] [Rep ρ] [Rep α]
/-- hands back what mir says; nothing that stood changes; nothing is raised -/
def spP (mir : τ → Res ρ) : Sp := fun vs H Q _ => ∃ (a : τ) (A : List Addr), (∀ x ∈ A, H x ≠ none) ∧ RepA.rep K mg (less H A) vs a ∧
  Out (F0 K mg H A E0) (mir a) (fun r => ∀ v H', Same H H' → Rep.rep K mg (less H' A) v r → Q v H') (fun H' => Same H H')
/-- .. a new list -/
def spF (mir : τ → Res (List α)) : Sp := fun vs H Q _ => ∃ (a : τ) (A : List Addr), (∀ x ∈ A, H x ≠ none) ∧ RepA.rep K mg (less H A) vs a ∧
  Out (F0 K mg H A E0) (mir a) (fun as => ∀ p ws H', Same H H' → H p = none → H' p = some (.lst ws) → Reps K mg (less (less H' A) [p]) ws as → Q (.ref p) H') (fun H' => Same H H')
/-- .. or raises -/
def spX (mir : τ → Res ρ) : Sp := fun vs H Q E => ∃ (a : τ) (A : List Addr), (∀ x ∈ A, H x ≠ none) ∧ RepA.rep K mg (less H A) vs a ∧
  Out (F0 K mg H A E) (mir a) (fun r => ∀ v H', Same H H' → Rep.rep K mg (less H' A) v r → Q v H') (fun H' => Same H H')
end
theorem go_start {K : Fg} {mg : MG} {H : Hp} {A : List Addr} {E : XK} (hA : ∀ x ∈ A, H x ≠ none) : GO (F0 K mg H A E) [] H :=
  ⟨fun _ h => (nomatch h), List.nodup_nil, fun _ h => (nomatch h), fun _ _ h _ => h, fun _ h => h, hA, fun _ h => (nomatch h), fun _ h => (nomatch h)⟩
theorem go_same {K : Fg} {mg : MG} {H H' : Hp} {A : List Addr} {E : XK} (g : GO (F0 K mg H A E) [] H') : Same H H' := fun a o h => g.keep a o h (fun z => nomatch z)
theorem go_of_same {K : Fg} {mg : MG} {H H' : Hp} {A : List Addr} {E : XK} (hA : ∀ x ∈ A, H x ≠ none) (e : Same H H') : GO (F0 K mg H A E) [] H' := (go_start hA).grow e
theorem out_xp {α : Type} {F : Fr} {m : Res α} {k : α → Prop} {xp xp' : Hp → Prop} (h : Out F m k xp) (hx : ∀ H', xp' H' → xp H') : Out F m k xp' := h.mono (fun _ z => z) hx
section
variable {P : Program} {w : World} {K : PySem.W.Frag} {mg : Str → Option Value} {base : Heap} {τ ρ α : Type} [RepA τ] [Rep ρ] [Rep α]
variable {x qual : Str} {st : Stmt} {f : Addr} {fd : FuncData} {N ps : List Str} {k : Nat}
theorem def_P {mir : τ → Res ρ} (Fu : Fun K x qual st f fd) (S : FnScope N ps (defScope st)) (L0 : τ → List (Option Asr)) (hl : ∀ (vs : List V) (R : Hp) (a : τ), RepA.rep K mg R vs a → vs.length = ps.length ∧ Paired (SlotOk R) (L0 a) (start N vs))
    (body : ∀ (cdv : Value) (A : Around) (outer : List Env) (s : Shared) (H : Hp) (Av : List Addr) (E : XK) (a : τ), Room k (A.deeper (envOfC qual (defScope st) s.heap.objs.size f cdv)) →
      PSs (cxOf CX0 P w K mg base N qual (defScope st) f cdv A outer s H E).nox (defBody st) (tT (F0 K mg H Av E0) (L0 a) [] (mir a) (rV (F0 K mg H Av E0)))) :
    FnOk P w K mg base CX0 (k + 1) f fd ps (spP K mg mir) := by
  refine Fu.ok S (fun vs H Q E ⟨a, A, _, h, _⟩ => (hl vs _ a h).1) (fun cdv A outer s H vs Q E hr ⟨a, Av, hA, h, q⟩ => ⟨_, body cdv A outer s H Av E a hr, ⟨(hl vs _ a h).2, go_start hA⟩, ?_⟩)
  exact q.mono (fun r k v H' ⟨g, r'⟩ => k v H' (go_same g) r') fun H' g => go_same g
/-- .. that may fall off its end (None) -/
theorem def_F {mir : τ → Res (List α)} (Fu : Fun K x qual st f fd) (S : FnScope N ps (defScope st)) (L0 : τ → List (Option Asr)) (hl : ∀ (vs : List V) (R : Hp) (a : τ), RepA.rep K mg R vs a → vs.length = ps.length ∧ Paired (SlotOk R) (L0 a) (start N vs))
    (body : ∀ (cdv : Value) (A : Around) (outer : List Env) (s : Shared) (H : Hp) (Av : List Addr) (E : XK) (a : τ), Room k (A.deeper (envOfC qual (defScope st) s.heap.objs.size f cdv)) →
      PSs (cxOf CX0 P w K mg base N qual (defScope st) f cdv A outer s H E).nox (defBody st) (tT (F0 K mg H Av E0) (L0 a) [] (mir a) (rF (F0 K mg H Av E0)))) :
    FnOk P w K mg base CX0 (k + 1) f fd ps (spF K mg mir) := by
  refine Fu.ok S (fun vs H Q E ⟨a, A, _, h, _⟩ => (hl vs _ a h).1) (fun cdv A outer s H vs Q E hr ⟨a, Av, hA, h, q⟩ => ⟨_, body cdv A outer s H Av E a hr, ⟨(hl vs _ a h).2, go_start hA⟩, ?_⟩)
  exact q.mono (fun r k v H' ⟨p, ws, e, g, h1, h2, h3, h4⟩ => by subst e; exact k p ws H' (go_same g) h1 h3 h4) fun H' g => go_same g
theorem def_X {mir : τ → Res ρ} (Fu : Fun K x qual st f fd) (S : FnScope N ps (defScope st)) (L0 : τ → List (Option Asr)) (hl : ∀ (vs : List V) (R : Hp) (a : τ), RepA.rep K mg R vs a → vs.length = ps.length ∧ Paired (SlotOk R) (L0 a) (start N vs))
    (body : ∀ (cdv : Value) (A : Around) (outer : List Env) (s : Shared) (H : Hp) (Av : List Addr) (E : XK) (a : τ), Room k (A.deeper (envOfC qual (defScope st) s.heap.objs.size f cdv)) →
      PSs (cxOf (CX P w) P w K mg base N qual (defScope st) f cdv A outer s H E) (defBody st) (tT (F0 K mg H Av E) (L0 a) [] (mir a) (rV (F0 K mg H Av E)))) :
    FnOk P w K mg base (CX P w) (k + 1) f fd ps (spX K mg mir) := by
  refine Fu.okX S (fun vs H Q E ⟨a, A, _, h, _⟩ => (hl vs _ a h).1) (fun cdv A outer s H vs Q E hr ⟨a, Av, hA, h, q⟩ => ⟨_, body cdv A outer s H Av E a hr, ⟨(hl vs _ a h).2, go_start hA⟩, ?_⟩)
  exact q.mono (fun r k v H' ⟨g, r'⟩ => k v H' (go_same g) r') fun H' g => go_same g
end
/-! ### calls -/
section
variable {X : Cx} {F : Fr} {L : List (Option Asr)} {O : List Own} {τ ρ α : Type} [RepA τ] [Rep ρ] [Rep α]
theorem a_nil {b : Bool} : PA X [] (tA b F L O (.ok ())) := pa_imp pa_nil fun σ H Q ⟨g, q⟩ => q [] H g (Same.refl _) rfl
theorem a_cons {b : Bool} {e : Expr} {es : List Expr} {ma : Res α} {mr : Res τ} (he : PE X e (tP b F L O ma)) (hr : PA X es (tA b F L O mr)) (hs : starEach (e :: es) X.env = (false, eval e X.env) :: starEach es X.env := by rfl) :
    PA X (e :: es) (tA b F L O (ma.bind fun x => mr.bind fun r => .ok (Ar.mk x r))) := pa_imp (pa_cons he hr hs) fun σ H Q ⟨g, q⟩ => by
  rw [out_bind] at q
  refine ⟨g, q.mono (fun x qx v1 H1 g1 s1 r1 => ?_) fun _ z => z⟩
  rw [out_bind] at qx
  refine ⟨g1, qx.mono (fun y qy v2 H2 g2 s2 r2 => ?_) fun H' ⟨a, b⟩ => ⟨a, s1.trans b⟩⟩
  exact qy _ H2 g2 (s1.trans s2) ⟨v1, v2, rfl, Rep.mono (rgn_grow s2) r1, r2⟩
def avoid (b : Bool) (F : Fr) (O : List Own) : List Addr := if b then addrs O ++ F.A else []
theorem rgn_avoid {b : Bool} {H : Hp} : rgn b F O H = less H (avoid b F O) := by
  cases b
  · funext a
    show H a = less H [] a
    rw [less_out List.not_mem_nil]
  · rfl
theorem GO.avoided {b : Bool} {H : Hp} (g : GO F O H) : ∀ x ∈ avoid b F O, H x ≠ none := fun x hx => by
  cases b with
  | false => exact (List.not_mem_nil (show x ∈ ([] : List Addr) from hx)).elim
  | true => exact fun z => g.out z hx
variable {k : Nat} {f : Addr} {fd : FuncData} {ps : List Str} {x : Str} {p pos : Pos} {e : Expr} {es : List Expr} {b : Bool}
theorem call_core {mir : τ → Res ρ} {m : Res τ} {e : Expr} {E : XK} {sp : Sp} (hE : F.E = E) (hsp : ∀ vs H Q, (∃ (a : τ) (A : List Addr), (∀ x ∈ A, H x ≠ none) ∧ RepA.rep F.K F.mg (less H A) vs a ∧
    Out (F0 F.K F.mg H A E) (mir a) (fun r => ∀ v H', Same H H' → Rep.rep F.K F.mg (less H' A) v r → Q v H') (fun H' => Same H H')) → sp vs H Q E) (h : PE X e (tCall sp [] E (tA b F L O m))) : PE X e (tP b F L O (m.bind mir)) := pe_imp h fun σ H Q ⟨g, q⟩ => by
  rw [out_bind] at q
  refine ⟨g, q.mono (fun a qa vs H1 g1 s1 r1 => ?_) fun _ z => z⟩
  show sp (vs ++ []) H1 Q E
  rw [List.append_nil]
  refine hsp _ _ _ ⟨a, avoid b F O, g1.go.avoided, by rw [← rgn_avoid]; exact r1, ?_⟩
  subst hE
  cases e : mir a with
  | ok r =>
    rw [e] at qa
    exact fun v H' s2 r2 => qa v H' (g1.grow s2) (s1.trans s2) (by rw [rgn_avoid]; exact r2)
  | err c fs =>
    rw [e] at qa
    exact fun C d H' h1 h2 h4 => qa C d H' h1 (h2.older g1.go.live) ⟨g1.grow h4, s1.trans h4⟩
  | bad =>
    rw [e] at qa
    exact qa.elim
theorem callF_core {mir : τ → Res (List α)} {m : Res τ} {e : Expr} {E : XK} {sp : Sp} (hE : F.E = E) (hsp : ∀ vs H Q, (∃ (a : τ) (A : List Addr), (∀ x ∈ A, H x ≠ none) ∧ RepA.rep F.K F.mg (less H A) vs a ∧
    Out (F0 F.K F.mg H A E) (mir a) (fun as => ∀ p ws H', Same H H' → H p = none → H' p = some (.lst ws) → Reps F.K F.mg (less (less H' A) [p]) ws as → Q (.ref p) H') (fun H' => Same H H')) → sp vs H Q E) (h : PE X e (tCall sp [] E (tA b F L O m))) : PE X e (tF b F L O (m.bind mir)) := pe_imp h fun σ H Q ⟨g, q⟩ => by
  rw [out_bind] at q
  refine ⟨g, q.mono (fun a qa vs H1 g1 s1 r1 => ?_) fun _ z => z⟩
  show sp (vs ++ []) H1 Q E
  rw [List.append_nil]
  refine hsp _ _ _ ⟨a, avoid b F O, g1.go.avoided, by rw [← rgn_avoid]; exact r1, ?_⟩
  subst hE
  cases e : mir a with
  | ok r =>
    rw [e] at qa
    exact fun p ws H' s2 h1 h2 r2 => qa p ws H' (g1.grow s2) (s1.trans s2) (s1.free h1) h2 (by rw [rgn_avoid]; exact r2)
  | err c fs =>
    rw [e] at qa
    exact fun C d H' h1 h2 h4 => qa C d H' h1 (h2.older g1.go.live) ⟨g1.grow h4, s1.trans h4⟩
  | bad =>
    rw [e] at qa
    exact qa.elim
/-- f(..), f of nothing raised, from a def that raises nothing -/
theorem n_call {mir : τ → Res ρ} {m : Res τ} (Gf : FnOk X.prog X.w X.K X.mg X.base CX0 k f fd ps (spP X.K X.mg mir)) (hr : Room k X.A) (hm : X.mg x = some (.ref f)) (hk : PySem.W.keepIn X.K (.ref f) = true) (hb : Binds X.K fd ps [])
    (ha : PA X (e :: es) (tA b F L O m)) (hg : Gl X x := by rfl) (hE : F.E = E0 := by rfl) (hK : X.K = F.K := by rfl) (hM : X.mg = F.mg := by rfl) (hd : (x == ("__debug__" : Str)) = false := by decide)
    (hs : starEach (e :: es) X.env = (false, eval e X.env) :: starEach es X.env := by rfl) (hs2 : ((backTo pos (starEach es X.env)).any fun x => x.fst) = false := by rfl) : PE X (.Call (.Name x p) (e :: es) [] pos) (tP b F L O (m.bind mir)) :=
  call_core (sp := spP X.K X.mg mir) hE (fun vs H Q q => by rw [← hK, ← hM] at q; exact q) (pe_call Gf hr hg hm hk hb .nil pass0 ha hd hs hs2)
theorem f_call {mir : τ → Res (List α)} {m : Res τ} (Gf : FnOk X.prog X.w X.K X.mg X.base CX0 k f fd ps (spF X.K X.mg mir)) (hr : Room k X.A) (hm : X.mg x = some (.ref f)) (hk : PySem.W.keepIn X.K (.ref f) = true) (hb : Binds X.K fd ps [])
    (ha : PA X (e :: es) (tA b F L O m)) (hg : Gl X x := by rfl) (hE : F.E = E0 := by rfl) (hK : X.K = F.K := by rfl) (hM : X.mg = F.mg := by rfl) (hd : (x == ("__debug__" : Str)) = false := by decide)
    (hs : starEach (e :: es) X.env = (false, eval e X.env) :: starEach es X.env := by rfl) (hs2 : ((backTo pos (starEach es X.env)).any fun x => x.fst) = false := by rfl) : PE X (.Call (.Name x p) (e :: es) [] pos) (tF b F L O (m.bind mir)) :=
  callF_core (sp := spF X.K X.mg mir) hE (fun vs H Q q => by rw [← hK, ← hM] at q; exact q) (pe_call Gf hr hg hm hk hb .nil pass0 ha hd hs hs2)
end
end NF

set_option Elab.async false
set_option linter.all false
set_option maxRecDepth 100000
/-! Nf5: what is walked; loops; comprehensions. -/
namespace NF
open PySem PySem.Spec PyProof.Rows L2
open Data (toD)
section
variable {X : Cx} {F : Fr} {L : List (Option Asr)} {O : List Own} {α β γ s : Type} [Rep α] [Rep β] [Rep γ] [Rep s]
theorem pi_seq {tg l : Expr} {tl : TE} (hl : PE X l tl) : PI X tg l (fun σ H R => tl σ H fun x H1 => ∃ a xs, x = .ref a ∧ ((SqL X.K H1 a xs ∧ R (Itl X.K a) H1) ∨ (SqT X.K H1 a xs ∧ R (Itt X.K a) H1))) := by
  refine ⟨fun pins s σ H R I h => ?_⟩
  refine thn (hl.run pins s σ H _ I h) fun v s1 ⟨x, H1, I1, r1, q1⟩ => ?_
  obtain ⟨a, xs, e, q⟩ := q1
  subst e
  cases r1
  rcases q with ⟨hq, q⟩ | ⟨hq, q⟩
  · obtain ⟨its, rv, p, hz⟩ := I1.list hq
    refine wpAny_pyIter_list p.isList ?_
    refine ⟨s1.heap.objs.size, [s1.heap.objs.size], _, _, H1, rfl, I1.kept (t' := s1.toks) fun b o e => Heap.get?_push_of_some _ e, turn_list a _, ⟨_, Heap.get?_push_size _ rfl, rfl, rfl⟩, fun b hb => ?_, q⟩
    have e : b = s1.heap.objs.size := by simpa using hb
    subst e
    exact I1.fpOk (Nat.le_refl _) (I1.hok.fresh (Nat.le_refl _))
  · obtain ⟨its, rv, p, hz⟩ := I1.tuple hq
    refine wpAny_pyIter_tuple (show s1.heap.IsTuple a its.toArray from p) ?_
    refine ⟨s1.heap.objs.size, [s1.heap.objs.size], _, _, H1, rfl, I1.kept (t' := s1.toks) fun b o e => Heap.get?_push_of_some _ e, turn_tuple a _, ⟨_, Heap.get?_push_size _ rfl, rfl, rfl⟩, fun b hb => ?_, q⟩
    have e : b = s1.heap.objs.size := by simpa using hb
    subst e
    exact I1.fpOk (Nat.le_refl _) (I1.hok.fresh (Nat.le_refl _))
/-- a walk over things that stand for as -/
structure Src (K : Fg) (mg : MG) (J : It) (as : List α) where
  src : Hp → Prop
  mono : ∀ {H H' : Hp}, Same H H' → src H → src H'
  Y : Nat → Hp → V → Hp → Prop
  walk : Walk J as.length src Y
  ylds : ∀ i H x H', Y i H x H' → Same H H' ∧ ∀ Av : List Addr, (∀ a ∈ Av, H a ≠ none) → src (less H Av) → ∀ a, as[i]? = some a → Rep.rep K mg (less H' Av) x a
def tI (b : Bool) (F : Fr) (L : List (Option Asr)) (O : List Own) (m : Res (List α)) : TI := fun σ H R =>
  G F L O σ H ∧ Out F m (fun as => ∀ J H' (S : Src F.K F.mg J as), G F L O σ H' → Same H H' → S.src (rgn b F O H') → R J H') (XP F L O σ H)
theorem pi_imp {tg e : Expr} {t t' : TI} (h : PI X tg e t) (i : ∀ σ H Q, t' σ H Q → t σ H Q) : PI X tg e t' := ⟨fun pins s σ H Q I q => h.run pins s σ H Q I (i σ H Q q)⟩
def srcL {K : Fg} {mg : MG} {a : Addr} {vs : List V} {as : List α} (hl : vs.length = as.length) : Src K mg (Itl K a) as where
  src H := SqL K H a vs ∧ Reps K mg H vs as
  mono e h := ⟨e.seq h.1, h.2.mono e⟩
  Y := YAt vs
  walk := by rw [← hl]; exact (walk_list (K := K) (a := a) (xs := vs)).mono (fun H h => h.1) (fun i H x H' _ _ y => y)
  ylds i H x H' y := by
    obtain ⟨rfl, y⟩ := y
    refine ⟨Same.refl _, fun Av _ h a ha => ?_⟩
    obtain ⟨v, h1, h2⟩ := reps_get h.2 ha
    rw [y] at h1
    cases h1
    exact h2
def srcT {K : Fg} {mg : MG} {a : Addr} {vs : List V} {as : List α} (hl : vs.length = as.length) : Src K mg (Itt K a) as where
  src H := SqT K H a vs ∧ Reps K mg H vs as
  mono e h := ⟨same_t e h.1, h.2.mono e⟩
  Y := YAt vs
  walk := by rw [← hl]; exact (walk_tup (K := K) (a := a) (xs := vs)).mono (fun H h => h.1) (fun i H x H' _ _ y => y)
  ylds i H x H' y := by
    obtain ⟨rfl, y⟩ := y
    refine ⟨Same.refl _, fun Av _ h a ha => ?_⟩
    obtain ⟨v, h1, h2⟩ := reps_get h.2 ha
    rw [y] at h1
    cases h1
    exact h2
theorem i_lk [Lk s α] {tg e : Expr} {b : Bool} {m : Res s} (h : PE X e (tP b F L O m)) (hK : X.K = F.K := by rfl) : PI X tg e (tI b F L O (m.bind fun x => .ok (Lk.its x))) := pi_imp (pi_seq h) fun σ H R ⟨g, q⟩ => by
  rw [out_bind] at q
  refine ⟨g, q.mono (fun x k v H1 g1 s1 r1 => ?_) fun _ z => z⟩
  obtain ⟨p, vs, h1, h2, h3⟩ := Lk.get r1
  refine ⟨p, vs, h1, ?_⟩
  rw [hK]
  rcases h2 with h2 | h2
  · exact .inl ⟨rgn_sub.seq h2, k _ H1 (srcL h3.length) g1 s1 ⟨h2, h3⟩⟩
  · exact .inr ⟨same_t rgn_sub h2, k _ H1 (srcT h3.length) g1 s1 ⟨h2, h3⟩⟩
def irange (lo hi : Int) : List Int := (List.range (hi - lo).toNat).map fun i : Nat => lo + i
theorem irange_len (lo hi : Int) : (irange lo hi).length = (hi - lo).toNat := by unfold irange; simp
def srcR {K : Fg} {mg : MG} {lo hi : Int} : Src K mg (Itr lo (hi - lo).toNat) (irange lo hi) where
  src H := True
  mono e h := h
  Y := YFn fun i => .int (lo + i)
  walk := by rw [irange_len]; exact walk_range
  ylds i H x H' y := by
    obtain ⟨rfl, y⟩ := y
    refine ⟨Same.refl _, fun Av _ h a ha => ?_⟩
    subst y
    unfold irange at ha
    rw [List.getElem?_map] at ha
    cases e : (List.range (hi - lo).toNat)[i]? with
    | none => rw [e] at ha; cases ha
    | some j =>
      rw [e] at ha
      have : j = i := by
        have := List.getElem?_eq_some_iff.mp e
        obtain ⟨h1, h2⟩ := this
        rw [List.getElem_range] at h2
        exact h2.symm
      subst this
      cases ha
      rfl
theorem i_range1 {tg e : Expr} {b b' : Bool} {m : Res Int} {p pos : Pos} (h : PE X e (tP b F L O m)) (hm : X.mg "range" = none) (hg : Gl X "range" := by rfl) (h1 : starEach [e] X.env = (false, eval e X.env) :: starEach [] X.env := by rfl) (hs : starEach [e] X.env = [(false, eval e X.env)] := by rfl) :
    PI X tg (.Call (.Name "range" p) [e] [] pos) (tI b' F L O (m.bind fun n => need (Rg62 n) (.ok (irange 0 n)))) := pi_imp (pi_range1 hg hm (pa_cons h pa_nil h1) hs) fun σ H R ⟨g, q⟩ => by
  rw [out_bind] at q
  refine ⟨g, q.mono (fun n k v H1 g1 s1 r1 => ?_) fun _ z => z⟩
  rw [out_need] at k
  cases r1
  refine ⟨n, rfl, k.1.1, k.1.2, ?_⟩
  have S : Src F.K F.mg (Itr 0 (n - 0).toNat) (irange 0 n) := srcR
  have e : (n - 0).toNat = n.toNat := by rw [Int.sub_zero]
  have kk := k.2 (Itr 0 (n - 0).toNat) H1 srcR g1 s1 trivial
  rw [e] at kk
  exact kk
theorem i_range2 {tg e e2 : Expr} {b b1 b' : Bool} {m m2 : Res Int} {p pos : Pos} (h : PE X e (tP b F L O m)) (h2 : PE X e2 (tP b1 F L O m2)) (hm : X.mg "range" = none) (hg : Gl X "range" := by rfl)
    (hs1 : starEach [e, e2] X.env = (false, eval e X.env) :: starEach [e2] X.env := by rfl) (hs2 : starEach [e2] X.env = (false, eval e2 X.env) :: starEach [] X.env := by rfl) (hs : starEach [e, e2] X.env = [(false, eval e X.env), (false, eval e2 X.env)] := by rfl) (hs3 : starEach [e2] X.env = [(false, eval e2 X.env)] := by rfl) :
    PI X tg (.Call (.Name "range" p) [e, e2] [] pos) (tI b' F L O (m.bind fun lo => m2.bind fun hi => need (Rg62 lo ∧ Rg62 hi) (.ok (irange lo hi)))) := pi_imp (pi_range2 hg hm (pa_cons h (pa_cons h2 pa_nil hs2) hs1) hs hs3) fun σ H R ⟨g, q⟩ => by
  rw [out_bind] at q
  refine ⟨g, q.mono (fun n k v H1 g1 s1 r1 => ?_) fun _ z => z⟩
  rw [out_bind] at k
  refine ⟨g1, k.mono (fun n2 k v H2 g2 s2 r2 => ?_) fun H' ⟨a, b⟩ => ⟨a, s1.trans b⟩⟩
  rw [out_need] at k
  cases r1
  cases r2
  exact ⟨n, n2, rfl, ⟨k.1.1.1, k.1.1.2, k.1.2.1, k.1.2.2⟩, k.2 _ H2 srcR g2 (s1.trans s2) trivial⟩
/-! ### targets -/
theorem wipe_get (σ : L2.St) : ∀ (vs : List Nat) (k : Nat), (wipe σ vs)[k]? = if k ∈ vs then σ[k]?.map (fun _ => none) else σ[k]?
  | [], k => by simp [wipe]
  | v :: vs, k => by
    show ((wipe σ vs).set v none)[k]? = _
    rw [List.getElem?_set]
    by_cases h : v = k
    · subst h
      rw [if_pos rfl, if_pos List.mem_cons_self]
      have hl : (wipe σ vs).length = σ.length := wipe_length σ vs
      by_cases h2 : v < σ.length
      · rw [if_pos (by rw [hl]; exact h2)]
        simp [h2]
      · rw [if_neg (by rw [hl]; exact h2)]
        simp [h2]
    · rw [if_neg h, wipe_get σ vs k]
      by_cases h2 : k ∈ vs
      · rw [if_pos h2, if_pos (List.mem_cons_of_mem _ h2)]
      · rw [if_neg h2, if_neg (fun z => (List.mem_cons.mp z).elim (fun z => h z.symm) h2)]
theorem wipe_wipe (σ : L2.St) (vs : List Nat) : wipe (wipe σ vs) vs = wipe σ vs := by
  apply List.ext_getElem?
  intro k
  rw [wipe_get, wipe_get]
  by_cases h : k ∈ vs
  · rw [if_pos h, if_pos h]
    cases σ[k]? <;> rfl
  · rw [if_neg h, if_neg h]
def wipeL (L : List (Option Asr)) : List Nat → List (Option Asr)
  | [] => L
  | v :: vs => (wipeL L vs).set v none
theorem set_none {R : Hp} {o : Option V} : ∀ {l : List (Option Asr)} {σ : L2.St} (i : Nat), Paired (SlotOk R) l σ → Paired (SlotOk R) (l.set i none) (σ.set i o)
  | _, _, _, .nil => .nil
  | _, _, 0, .cons _ t => .cons trivial t
  | _, _, n + 1, .cons q t => .cons q (set_none n t)
theorem wipe_ok {R : Hp} {L : List (Option Asr)} {σ : L2.St} (h : Paired (SlotOk R) L σ) : ∀ vs : List Nat, Paired (SlotOk R) (wipeL L vs) (wipe σ vs)
  | [] => h
  | v :: vs => set_none v (wipe_ok h vs)
def TgOk (K : Fg) (mg : MG) (g : TG) (vs : List Nat) (bd : α → List (Option Asr) → List (Option Asr)) : Prop :=
  ∀ v a σ H R L Q, Same R H → Rep.rep K mg R v a → Paired (SlotOk R) L σ → (∀ σ', wipe σ' vs = wipe σ vs → Paired (SlotOk R) (bd a L) σ' → Q σ' H) → g v σ H Q
structure Tg (X : Cx) (K : Fg) (mg : MG) (tg : Expr) (g : TG) (vs : List Nat) (bd : α → List (Option Asr) → List (Option Asr)) : Prop where
  pg : PG X tg g
  ok : TgOk K mg g vs bd
variable {K : Fg} {mg : MG}
theorem tgok_name (i : Nat) : TgOk K mg (gName i) [i] (fun (a : α) L => L.set i (vl K mg a)) := fun v a σ H R L Q _ r h k => k _ (by show (σ.set i (some v)).set i none = σ.set i none; rw [List.set_set]) (set_ok (p := vl K mg a) r i h)
theorem tgok_pair (i j : Nat) (hij : i ≠ j) : TgOk K mg (gTup K 2 (gCons (gName i) (gCons (gName j) gNil))) [i, j] (fun (a : α × β) L => (L.set i (vl K mg a.1)).set j (vl K mg a.2)) := fun v a σ H R L Q e r h k => by
  obtain ⟨p, v1, v2, rfl, h2, h3, h4⟩ := r
  refine ⟨p, _, rfl, same_t e h2, rfl, v1, _, rfl, v2, _, rfl, rfl, ?_⟩
  refine k _ ?_ (set_ok (p := vl K mg a.2) h4 j (set_ok (p := vl K mg a.1) h3 i h))
  show ((((σ.set i (some v1)).set j (some v2)).set j none).set i none) = (σ.set j none).set i none
  rw [List.set_set, List.set_comm _ _ hij, List.set_set]
theorem tg_name (i : Nat) {x : Str} {pos : Pos} (hN : X.N.Nodup) (hi : X.N[i]? = some x := by rfl) (hx : L2.Loc X.env.scope x := by first | exact .inl rfl | exact .inr rfl) (hf : X.fn x = true ∨ X.env.scope.names.lookup x = some .local := by first | exact .inl rfl | exact .inr rfl) :
    Tg X K mg (.Name x pos) (gName i) [i] (fun (a : α) L => L.set i (vl K mg a)) := ⟨pg_name hN hi hx hf, tgok_name i⟩
theorem tg_pair (i j : Nat) {x y : Str} {p1 p2 pos : Pos} {kk : Nat} (hij : i ≠ j) (hc : X.calm = true) (hN : X.N.Nodup) (hi : X.N[i]? = some x := by rfl) (hj : X.N[j]? = some y := by rfl) (hx : L2.Loc X.env.scope x := by first | exact .inl rfl | exact .inr rfl) (hy : L2.Loc X.env.scope y := by first | exact .inl rfl | exact .inr rfl)
    (hf : X.fn x = true ∨ X.env.scope.names.lookup x = some .local := by first | exact .inl rfl | exact .inr rfl) (hf2 : X.fn y = true ∨ X.env.scope.names.lookup y = some .local := by first | exact .inl rfl | exact .inr rfl) (hK : X.K = K := by rfl)
    (h1 : (assignEach [.Name x p1, .Name y p2] X.env).map (·.2) = assign (.Name x p1) X.env :: (assignEach [.Name y p2] X.env).map (·.2) := by rfl) (h2 : (assignEach [.Name y p2] X.env).map (·.2) = assign (.Name y p2) X.env :: (assignEach [] X.env).map (·.2) := by rfl)
    (hn : (assignEach [.Name x p1, .Name y p2] X.env).length = 2 := by rfl) (hst : (assignEach [.Name x p1, .Name y p2] X.env).findIdx? (·.1) = none := by rfl) :
    Tg X K mg (.Tuple [.Name x p1, .Name y p2] kk pos) (gTup K 2 (gCons (gName i) (gCons (gName j) gNil))) [i, j] (fun (a : α × β) L => (L.set i (vl K mg a.1)).set j (vl K mg a.2)) :=
  ⟨by rw [← hK]; exact pg_tup hc (pgs_cons (pg_name hN hi hx hf) (pgs_cons (pg_name hN hj hy hf2) pgs_nil h2) h1) hn hst, tgok_pair i j hij⟩
/-! ### loops -/
def foldR {β : Type} (f : α → β → Res β) : List α → β → Res β
  | [], b => .ok b
  | a :: as, b => (f a b).bind fun b => foldR f as b
def foldM {β δ : Type} (f : α → β → Res (Sum β δ)) : List α → β → Res (Sum β δ)
  | [], b => .ok (.inl b)
  | a :: as, b => (f a b).bind fun r => match r with
    | .inl b => foldM f as b
    | .inr d => .ok (.inr d)
/-- what a loop hands on, said ahead -/
inductive Sp3 {B : Type} (L' : B → List (Option Asr)) (O' : B → List Own) (b0 : B) : Prop where | mk
inductive Sp2 {B : Type} (L' : B → List (Option Asr)) (O' : B → List Own) : Prop where | mk
inductive Sp1 (i : Nat) : Prop where | mk
def Fr.add (F : Fr) (z : Fact) : Fr := { F with Z := z :: F.Z }
theorem GO.add {H : Hp} (g : GO F O H) (z : Fact) (h : z.P (rg F O H)) : GO (F.add z) O H := ⟨g.objs, g.nd, g.own, g.keep, g.live, g.hid, g.apart, fun y hy => by
  rcases List.mem_cons.mp hy with rfl | hy
  · exact h
  · exact g.facts y hy⟩
theorem GO.unadd {H : Hp} {z : Fact} (g : GO (F.add z) O H) : GO F O H := ⟨g.objs, g.nd, g.own, g.keep, g.live, g.hid, g.apart, fun y hy => g.facts y (List.mem_cons_of_mem _ hy)⟩
theorem GO.fact {H : Hp} {z : Fact} (g : GO (F.add z) O H) : z.P (rg F O H) := g.facts z List.mem_cons_self
theorem out_add {β : Type} {z : Fact} {m : Res β} {k : β → Prop} {xp : Hp → Prop} : Out (F.add z) m k xp ↔ Out F m k xp := by cases m <;> exact Iff.rfl
theorem s_for {B : Type} {tg iter : Expr} {g : TG} {vs : List Nat} {bd : α → List (Option Asr) → List (Option Asr)} {m : Res (List α)} {f : α → B → Res B} {body : List Stmt} {pos : Pos} {L' : B → List (Option Asr)} {O' : B → List Own} {b0 : B} (sp : Sp3 L' O' b0)
    (hp : PassesOwn (model X.prog X.w) X.A X.env X.xe) (hc : X.calm = true) (hi : PI X tg iter (tI true F L O m)) (ht : Tg X F.K F.mg tg g vs bd) (hO : List.Sublist F.O0 O) (hw : wk L (L' b0)) (ho : List.Sublist (O' b0) O)
    (hb : ∀ z a b, PSs X body (tN (F.add z) (bd a (L' b)) (O' b) (f a b) L' O')) (hs : ∀ x, foldedSetIterable iter X.env x = pure x := by intro _; rfl) : PS X (.For tg iter body [] pos) (tN F L O (m.bind fun as => foldR f as b0) L' O') := by
  have hb' : PSs X body (fun D σ H => ∃ z a b, tN (F.add z) (bd a (L' b)) (O' b) (f a b) L' O' D σ H) := pss_ex fun z => pss_ex fun a => pss_ex fun b => hb z a b
  have hg : PG X tg g := ht.pg
  refine ps_imp (ps_for hp hc hi hg hb' hs) fun D σ H ⟨g0, q⟩ => ?_
  rw [out_bind] at q
  refine ⟨g0, q.mono (fun as k J H1 S g1 s1 hS => ?_) fun H' ⟨a, _⟩ => a.go.sub hO⟩
  have zf : ∃ z : Fact, z = ⟨S.src, fun e h => S.mono e h⟩ := ⟨_, rfl⟩
  obtain ⟨z, hz⟩ := zf
  refine for_it S.walk (g := g) (tb := fun D σ H => ∃ z a b, tN (F.add z) (bd a (L' b)) (O' b) (f a b) L' O' D σ H) (D := D) (σ := σ) (H := H1) (fun i σ H => ∃ b, G (F.add z) (L' b) (O' b) σ H ∧ Out F (foldR f (as.drop i) b) (fun b => ∀ σ' H', G F (L' b) (O' b) σ' H' → D.nx σ' H') (XPS F)) ⟨b0, ?_, k⟩ ?_ ?_ ?_
  · have g2 := g1.to hw ho
    refine ⟨g2.slots, g2.go.add z ?_⟩
    subst hz
    exact S.mono (rg_sub ho) hS
  · rintro i σ H _ ⟨b, g2, _⟩
    have h := g2.go.fact
    subst hz
    exact S.mono less_same h
  · rintro i x σ H H' hi ⟨b, g2, q2⟩ y
    have ha : as[i]? = some as[i] := List.getElem?_eq_getElem hi
    rw [List.drop_eq_getElem_cons hi] at q2
    rw [show foldR f (as[i] :: List.drop (i + 1) as) b = (f as[i] b).bind fun b => foldR f (List.drop (i + 1) as) b from rfl, out_bind] at q2
    obtain ⟨s2, yy⟩ := S.ylds i H x H' y
    have hsrc : S.src (rg F (O' b) H) := by
      have h := g2.go.fact
      subst hz
      exact h
    have r2 : rp (F.add z) (rg F (O' b) H') x as[i] := yy _ (fun a ha z => g2.go.out z ha) hsrc _ ha
    have g3 := g2.grow s2
    refine ht.ok x as[i] σ H' (rg F (O' b) H') (L' b) _ less_same r2 g3.slots fun σ2 _ hs2 => ?_
    exact ⟨z, as[i], b, ⟨hs2, g3.go⟩, out_add.mpr (q2.mono (fun b' kb σ' H'' g' => ⟨b', g', kb⟩) fun H'' (x : GO (F.add z) F.O0 H'') => x.unadd)⟩
  · rintro σ H ⟨b, g2, q2⟩
    rw [List.drop_length] at q2
    exact q2 σ H ⟨g2.slots, g2.go.unadd⟩
theorem s_forM {B D' : Type} {tg iter : Expr} {g : TG} {vs : List Nat} {bd : α → List (Option Asr) → List (Option Asr)} {m : Res (List α)} {f : α → B → Res (Sum B D')} {body : List Stmt} {pos : Pos} {Ret : D' → V → Hp → Prop} {L' : B → List (Option Asr)} {O' : B → List Own} {b0 : B} (sp : Sp3 L' O' b0)
    (hp : PassesOwn (model X.prog X.w) X.A X.env X.xe) (hc : X.calm = true) (hi : PI X tg iter (tI true F L O m)) (ht : Tg X F.K F.mg tg g vs bd) (hO : List.Sublist F.O0 O) (hw : wk L (L' b0)) (ho : List.Sublist (O' b0) O)
    (hb : ∀ z a b, PSs X body (tM (F.add z) (bd a (L' b)) (O' b) (f a b) L' O' Ret)) (hs : ∀ x, foldedSetIterable iter X.env x = pure x := by intro _; rfl) : PS X (.For tg iter body [] pos) (tM F L O (m.bind fun as => foldM f as b0) L' O' Ret) := by
  have hb' : PSs X body (fun D σ H => ∃ z a b, tM (F.add z) (bd a (L' b)) (O' b) (f a b) L' O' Ret D σ H) := pss_ex fun z => pss_ex fun a => pss_ex fun b => hb z a b
  have hg : PG X tg g := ht.pg
  refine ps_imp (ps_for hp hc hi hg hb' hs) fun D σ H ⟨g0, q⟩ => ?_
  rw [out_bind] at q
  refine ⟨g0, q.mono (fun as k J H1 S g1 s1 hS => ?_) fun H' ⟨a, _⟩ => a.go.sub hO⟩
  have zf : ∃ z : Fact, z = ⟨S.src, fun e h => S.mono e h⟩ := ⟨_, rfl⟩
  obtain ⟨z, hz⟩ := zf
  refine for_it S.walk (g := g) (tb := fun D σ H => ∃ z a b, tM (F.add z) (bd a (L' b)) (O' b) (f a b) L' O' Ret D σ H) (D := D) (σ := σ) (H := H1) (fun i σ H => ∃ b, G (F.add z) (L' b) (O' b) σ H ∧ Out F (foldM f (as.drop i) b) (fun r => match r with
    | .inl b => ∀ σ' H', G F (L' b) (O' b) σ' H' → D.nx σ' H'
    | .inr d => ∀ v H', Ret d v H' → D.rt v H') (XPS F)) ⟨b0, ?_, k⟩ ?_ ?_ ?_
  · have g2 := g1.to hw ho
    refine ⟨g2.slots, g2.go.add z ?_⟩
    subst hz
    exact S.mono (rg_sub ho) hS
  · rintro i σ H _ ⟨b, g2, _⟩
    have h := g2.go.fact
    subst hz
    exact S.mono less_same h
  · rintro i x σ H H' hi ⟨b, g2, q2⟩ y
    have ha : as[i]? = some as[i] := List.getElem?_eq_getElem hi
    rw [List.drop_eq_getElem_cons hi] at q2
    rw [show foldM f (as[i] :: List.drop (i + 1) as) b = (f as[i] b).bind fun r => match r with
      | .inl b => foldM f (List.drop (i + 1) as) b
      | .inr d => .ok (.inr d) from rfl, out_bind] at q2
    obtain ⟨s2, yy⟩ := S.ylds i H x H' y
    have hsrc : S.src (rg F (O' b) H) := by
      have h := g2.go.fact
      subst hz
      exact h
    have r2 : rp (F.add z) (rg F (O' b) H') x as[i] := yy _ (fun a ha z => g2.go.out z ha) hsrc _ ha
    have g3 := g2.grow s2
    refine ht.ok x as[i] σ H' (rg F (O' b) H') (L' b) _ less_same r2 g3.slots fun σ2 _ hs2 => ?_
    refine ⟨z, as[i], b, ⟨hs2, g3.go⟩, out_add.mpr (q2.mono (fun r kb => ?_) fun H'' (x : GO (F.add z) F.O0 H'') => x.unadd)⟩
    cases r with
    | inl b' => exact fun σ' H'' g' => ⟨b', g', kb⟩
    | inr d => exact fun v H'' hr => kb v H'' hr
  · rintro σ H ⟨b, g2, q2⟩
    rw [List.drop_length] at q2
    exact q2 σ H ⟨g2.slots, g2.go.unadd⟩
/-- .. and what follows, which hands back -/
def goOn {B D' : Type} (m : Res (Sum B D')) (f : B → Res D') : Res D' := m.bind fun r => match r with
  | .inl b => f b
  | .inr d => .ok d
theorem b_M {B D' : Type} {st : Stmt} {rest : List Stmt} {m1 : Res (Sum B D')} {m2 : B → Res D'} {L' : B → List (Option Asr)} {O' : B → List Own} {Ret : D' → V → Hp → Prop} (h1 : PS X st (tM F L O m1 L' O' Ret)) (h2 : ∀ b, PSs X rest (tT F (L' b) (O' b) (m2 b) Ret)) :
    PSs X (st :: rest) (tT F L O (goOn m1 m2) Ret) := pss_imp (pss_cons h1 (pss_ex h2)) fun D σ H ⟨g, q⟩ => by
  unfold goOn at q
  rw [out_bind] at q
  refine ⟨g, q.mono (fun r k => ?_) fun _ z => z⟩
  cases r with
  | inl b => exact fun σ' H' g' => ⟨b, g', k⟩
  | inr d => exact k
end
end NF

set_option Elab.async false
set_option linter.all false
set_option maxRecDepth 100000
/-! Nf6: comprehensions, zip, enumerate. -/
namespace NF
open PySem PySem.Spec PyProof.Rows L2
open Data (toD)
/-- nothing is raised -/
def Res.quiet {α : Type} : Res α → Res α
  | .ok a => .ok a
  | _ => .bad
def mapR {α β : Type} (f : α → Res β) : List α → Res (List β)
  | [] => .ok []
  | a :: as => (f a).bind fun y => (mapR f as).bind fun ys => .ok (y :: ys)
def filtR {α β : Type} (p : α → Res Bool) (f : α → Res β) : List α → Res (List β)
  | [] => .ok []
  | a :: as => (p a).bind fun c => if c then (f a).bind fun y => (filtR p f as).bind fun ys => .ok (y :: ys) else filtR p f as
theorem filtR_yes {α β : Type} (f : α → Res β) : ∀ as : List α, filtR (fun _ => .ok true) f as = mapR f as
  | [] => rfl
  | a :: as => by
    show ((f a).bind fun y => (filtR (fun _ => .ok true) f as).bind fun ys => .ok (y :: ys)) = _
    rw [filtR_yes f as]
    rfl
section
variable {X : Cx} {F : Fr} {L : List (Option Asr)} {O : List Own} {α β γ s : Type} [Rep α] [Rep β] [Rep γ] [Rep s]
def Fr.nox (F : Fr) : Fr := { F with E := E0 }
theorem GO.nox {H : Hp} (g : GO F O H) : GO F.nox O H := ⟨g.objs, g.nd, g.own, g.keep, g.live, g.hid, g.apart, g.facts⟩
/-- in a comprehension an error is nothing we know -/
theorem out_quiet {δ : Type} {m : Res δ} {k : δ → Prop} {xp xp' : Hp → Prop} (h : Out F m.quiet k xp) : Out F.nox m k xp' := by
  cases m with
  | ok a => exact h
  | err c fs => exact h.elim
  | bad => exact h.elim
def tYes' (F : Fr) (L : List (Option Asr)) (O : List Own) : TT := tB' F L O (.ok true)
theorem pts_imp {ifs : List Expr} {t t' : TT} (h : PTs X ifs t) (i : ∀ σ H Q, t' σ H Q → t σ H Q) : PTs X ifs t' := ⟨fun pins s σ H Q I q => h.run pins s σ H Q I (i σ H Q q)⟩
theorem ts_nil : PTs X [] (tB' F L O (.ok true)) := pts_imp pts_nil fun σ H Q ⟨g, q⟩ => q H g (Same.refl _)
theorem ts_one {c : Expr} {m : Res Bool} (h : PT X c (tB' F L O m)) : PTs X [c] (tB' F L O m) := pts_one h
theorem sz_min {n k : Nat} (h : n + k ≤ sizeLine) (hk : 0 < k) : n < sizeLine := by omega
def FlatP (α : Type) [Rep α] : Prop := ∀ {K : Fg} {mg : MG} {H H' : Hp} {v : V} {a : α}, Rep.rep K mg H v a → Rep.rep K mg H' v a
theorem flatP [Flat α] : FlatP α := fun h => Flat.iff.mpr (Flat.iff.mp h)
theorem comp_core {b : Bool} {g : TG} {vs : List Nat} {bd : α → List (Option Asr) → List (Option Asr)} {m : Res (List α)} {p : α → Res Bool} {f : α → Res β} {wi : TI} (tt : TT) (te : TE)
    (hi : wi = tI b F L O m) (hfl : b = true ∨ FlatP α) (ht : TgOk F.K F.mg g vs bd) (htt : tt = fun σ H Q => ∃ a D ds, tB' F.nox (bd a (wipeL L vs)) (ow (s := List β) F.K F.mg D ds :: O) (p a) σ H Q) (hte : te = fun σ H Q => ∃ a D ds, tP true F.nox (bd a (wipeL L vs)) (ow (s := List β) F.K F.mg D ds :: O) (f a) σ H Q) (σ : L2.St) (H : Hp) (Q : VK)
    (h : tF true F L O (m.bind fun as => need (as.length ≤ sizeLine) (filtR (fun a => (p a).quiet) (fun a => (f a).quiet) as)) σ H Q) : tLc wi g tt te vs σ H Q := by
  subst hi
  obtain ⟨g0, q⟩ := h
  rw [out_bind] at q
  refine ⟨g0, q.mono (fun as k J H1 S g1 s1 hS => ?_) fun _ z => z⟩
  rw [out_need] at k
  obtain ⟨hsz, k⟩ := k
  intro D hD
  refine lc_it S.walk (g := g) (tt := tt) (te := te) (vs := vs) (σ := σ) (H1 := H1) (D := D) (Qd := fun H => Q (.ref D) H)
    (fun i H => ∃ (ds : List β) (vd : List V), H D = some (.lst vd) ∧ ds.length + (as.length - i) ≤ sizeLine ∧ Reps F.K F.mg (less (rg F O H) [D]) vd ds ∧ Same H1 (less H [D]) ∧ Out F (filtR (fun a => (p a).quiet) (fun a => (f a).quiet) (as.drop i)) (fun rest => KF β true F L O σ H1 Q (ds ++ rest)) (fun _ => False))
    ⟨[], [], upd_same, ?_, .nil, ?_, ?_⟩ ?_ ?_ ?_
  · show 0 + (as.length - 0) ≤ sizeLine
    omega
  · intro a o ha
    have hne : a ≠ D := ne_of_none ha hD
    rw [less_out (fun z => hne (List.mem_singleton.mp z)), upd_ne hne]
    exact ha
  · exact k.mono (fun ds kk => (KF.mono s1 kk)) fun _ z => z.elim
  · rintro i H _ ⟨ds, vd, h1, _, h2, h3, _⟩
    exact S.mono (h3.trans less_same) (S.mono rgn_sub hS)
  · rintro i x H H' hi ⟨ds, vd, h1, hl, h2, h3, q2⟩ y
    have ha : as[i]? = some as[i] := List.getElem?_eq_getElem hi
    have sH : Same H1 H := h3.trans less_same
    have gH : G F L O σ H := g1.grow sH
    have go2 : GO F (ow F.K F.mg D ds :: O) H := go_new g1 gH.go sH hD h1 h2
    obtain ⟨s2, yy⟩ := S.ylds i H x H' y
    have g2 : G F L (ow F.K F.mg D ds :: O) σ H := ⟨L2.Paired.mapP g1.slots fun _ _ z => z.mono (rg_new rfl sH hD), go2⟩
    have g3 : G F L (ow F.K F.mg D ds :: O) σ H' := g2.grow s2
    have rx : rp F (rg F (ow F.K F.mg D ds :: O) H') x as[i] := by
      rcases hfl with e | e
      · subst e
        exact yy _ (fun a ha z => go2.out z ha) (S.mono (rg_new rfl sH hD) hS) _ ha
      · exact e (yy [] (fun _ z => (List.not_mem_nil z).elim) (S.mono (sH.trans (fun a o z => by rw [less_out List.not_mem_nil]; exact z)) (S.mono rgn_sub hS)) _ ha)
    have gn : G F.nox (wipeL L vs) (ow F.K F.mg D ds :: O) (wipe σ vs) H' := ⟨wipe_ok g3.slots vs, g3.go.nox⟩
    refine ht x as[i] (wipe σ vs) H' (rg F (ow F.K F.mg D ds :: O) H') (wipeL L vs) _ less_same rx gn.slots fun σ2 e2 hs2 => ?_
    refine ⟨e2.trans (wipe_wipe σ vs), ?_⟩
    rw [List.drop_eq_getElem_cons hi] at q2
    rw [show filtR (fun a => (p a).quiet) (fun a => (f a).quiet) (as[i] :: List.drop (i + 1) as) = ((p as[i]).quiet).bind fun c => if c then ((f as[i]).quiet).bind fun y => (filtR (fun a => (p a).quiet) (fun a => (f a).quiet) (List.drop (i + 1) as)).bind fun ys => .ok (y :: ys) else filtR (fun a => (p a).quiet) (fun a => (f a).quiet) (List.drop (i + 1) as) from rfl, out_bind] at q2
    have gb : G F.nox (bd as[i] (wipeL L vs)) (ow F.K F.mg D ds :: O) σ2 H' := ⟨hs2, gn.go⟩
    have lss : ∀ {H'' : Hp}, Same H' H'' → Same H1 (less H'' [D]) := fun {H''} e a o z => by
      have z1 := h3 a o z
      by_cases hb : a ∈ [D]
      · rw [less_in hb] at z1; cases z1
      · rw [less_out hb] at z1 ⊢
        exact e _ _ (s2 _ _ z1)
    have regD : ∀ {H'' : Hp} {ds' : List β}, Same (rg F (ow F.K F.mg D ds' :: O) H'') (less (rg F O H'') [D]) := fun {H'' ds'} a o z => by
      unfold rg at z ⊢
      by_cases hb : a ∈ addrs (ow F.K F.mg D ds' :: O) ++ F.A
      · rw [less_in hb] at z; cases z
      · rw [less_out hb] at z
        rw [less_out (fun y => hb (by rw [List.mem_singleton.mp y]; exact List.mem_append_left _ List.mem_cons_self)), less_out (A := addrs O ++ F.A) (fun y => hb (List.mem_cons_of_mem _ y))]
        exact z
    have keepR : ∀ {H'' : Hp}, Same H' H'' → Reps F.K F.mg (less (rg F O H'') [D]) vd ds := fun {H''} e => h2.mono (less_mono fun a o _ z => rg_grow (s2.trans e) a o z)
    subst htt hte
    refine ⟨as[i], D, ds, gb, out_quiet (q2.mono (fun c qc H3 g4 s3 => ?_) fun _ z => z)⟩
    cases c with
    | false =>
      refine ⟨ds, vd, ?_, by omega, keepR s3, lss s3, qc⟩
      exact s3 _ _ (s2 _ _ h1)
    | true =>
      simp only [if_true] at qc
      rw [out_bind] at qc
      refine ⟨as[i], D, ds, g4, out_quiet (qc.mono (fun y qy v H4 g5 s4 r5 => ?_) fun _ z => z)⟩
      have s34 : Same H' H4 := s3.trans s4
      have e4 : H4 D = some (.lst vd) := s34 _ _ (s2 _ _ h1)
      have lenv : vd.length = ds.length := h2.length
      refine ⟨vd, e4, by rw [lenv]; omega, ds ++ [y], vd ++ [v], upd_same, ?_, ?_, ?_, ?_⟩
      · rw [List.length_append, List.length_singleton]; omega
      · have eqr : ∀ {a o}, less (rg F O H4) [D] a = some o → less (rg F O (upd H4 D (.lst (vd ++ [v])))) [D] a = some o := fun {a o} z => by
          by_cases hb : a ∈ [D]
          · rw [less_in hb] at z; cases z
          · have hne : a ≠ D := fun y => hb (List.mem_singleton.mpr y)
            rw [less_out hb] at z ⊢
            unfold rg at z ⊢
            by_cases hc : a ∈ addrs O ++ F.A
            · rw [less_in hc] at z; cases z
            · rw [less_out hc] at z ⊢
              rw [upd_ne hne]
              exact z
        exact (reps_append (keepR s34) (.cons (Rep.mono regD r5) .nil)).mono fun a o z => eqr z
      · intro a o z
        have z1 := lss s34 a o z
        by_cases hb : a ∈ [D]
        · rw [less_in hb] at z1; cases z1
        · rw [less_out hb] at z1 ⊢
          rw [upd_ne (fun y => hb (List.mem_singleton.mpr y))]
          exact z1
      · rw [out_bind] at qy
        exact qy.mono (fun ys kk => by rw [List.append_assoc]; exact kk) fun _ z => z
  · rintro H ⟨ds, vd, h1, hl, h2, h3, q2⟩
    rw [List.drop_length] at q2
    have q3 : KF β true F L O σ H1 Q (ds ++ []) := q2
    rw [List.append_nil] at q3
    exact q3 D vd H (g1.grow (h3.trans less_same)) (h3.trans less_same) hD h1 h2
theorem pts_ex {ι : Type} {ifs : List Expr} {t : ι → TT} (h : ∀ b, PTs X ifs (t b)) : PTs X ifs (fun σ H Q => ∃ b, t b σ H Q) := ⟨fun pins s σ H Q I ⟨b, q⟩ => (h b).run pins s σ H Q I q⟩
theorem pe_ex {ι : Type} {e : Expr} {t : ι → TE} (h : ∀ b, PE X e (t b)) : PE X e (fun σ H Q => ∃ b, t b σ H Q) := ⟨fun pins s σ H Q I ⟨b, q⟩ => (h b).run pins s σ H Q I q⟩
/-- [elt for tg in iter if ..] -/
theorem f_lcf {tg iter elt : Expr} {ifs : List Expr} {scope : Scope} {own : List (Str × Nat)} {pos : Pos} {b : Bool} {g : TG} {bd : α → List (Option Asr) → List (Option Asr)} {m : Res (List α)} {p : α → Res Bool} {f : α → Res β}
    (hc : X.calm = true) (hN : X.N.Nodup) (hi : PI X tg iter (tI b F L O m)) (hfl : b = true ∨ FlatP α) (hb : BlkOk X.N X.env.scope scope own)
    (hok : TgOk F.K F.mg g (own.map (·.2)) bd) (ht : ∀ (s : Shared) (H : Hp) (C : Addr) (cl : List (Str × Addr)) (fp : List Addr), Tg (X.blk s H scope (compEnvC scope cl C X.env) fp) F.K F.mg tg g (own.map (·.2)) bd)
    (hp : ∀ (s : Shared) (H : Hp) (C : Addr) (cl : List (Str × Addr)) (fp : List Addr) (a : α) (D : Addr) (ds : List β), PTs (X.blk s H scope (compEnvC scope cl C X.env) fp) ifs (tB' F.nox (bd a (wipeL L (own.map (·.2)))) (ow F.K F.mg D ds :: O) (p a)))
    (he : ∀ (s : Shared) (H : Hp) (C : Addr) (cl : List (Str × Addr)) (fp : List Addr) (a : α) (D : Addr) (ds : List β), PE (X.blk s H scope (compEnvC scope cl C X.env) fp) elt (tP true F.nox (bd a (wipeL L (own.map (·.2)))) (ow F.K F.mg D ds :: O) (f a)))
    (hf : ∀ x, foldedSetIterable iter X.env x = pure x := by intro _; rfl) :
    PE X (.ListComp elt [{ target := tg, iter := iter, ifs := ifs, is_async := 0 }] scope pos) (tF true F L O (m.bind fun as => need (as.length ≤ sizeLine) (filtR (fun a => (p a).quiet) (fun a => (f a).quiet) as))) := by
  refine pe_imp (pe_lc hc hN hi hb (fun s H C cl fp => (ht s H C cl fp).pg) (fun s H C cl fp => pts_ex fun a => pts_ex fun D => pts_ex fun ds => hp s H C cl fp a D ds) (fun s H C cl fp => pe_ex fun a => pe_ex fun D => pe_ex fun ds => he s H C cl fp a D ds) hf) fun σ H Q h => ?_
  exact comp_core _ _ rfl hfl hok rfl rfl σ H Q h
end
end NF

set_option Elab.async false
set_option linter.all false
set_option maxRecDepth 100000
/-! Nf7: zip, enumerate; expressions that change an owned list; defs that do. -/
namespace NF
open PySem PySem.Spec PyProof.Rows L2
open Data (toD)
section
variable {X : Cx} {F : Fr} {L : List (Option Asr)} {O : List Own} {α β γ s : Type} [Rep α] [Rep β] [Rep γ] [Rep s]
theorem less_upd {H : Hp} {Av : List Addr} {T : Addr} {o : HO} (hA : ∀ a ∈ Av, H a ≠ none) (hT : H T = none) : less (upd H T o) Av T = some o := by
  rw [less_out (fun z => hA T z hT), upd_same]
theorem less_upd_same {H : Hp} {Av : List Addr} {T : Addr} {o : HO} (hT : H T = none) : Same (less H Av) (less (upd H T o) Av) := less_mono fun b q _ h => same_upd hT b q h
def srcZ {K : Fg} {mg : MG} {a b : Addr} {vs ws : List V} {xs : List α} {ys : List β} (h1 : vs.length = xs.length) (h2 : ws.length = ys.length) : Src K mg (Itz K a b) (xs.zip ys) where
  src H := (SqL K H a vs ∧ Reps K mg H vs xs) ∧ (SqL K H b ws ∧ Reps K mg H ws ys)
  mono e h := ⟨⟨e.seq h.1.1, h.1.2.mono e⟩, ⟨e.seq h.2.1, h.2.2.mono e⟩⟩
  Y := YPair (fun i => vs[i]?) (fun i => ws[i]?)
  walk := (walk_zip (n := (xs.zip ys).length) (by rw [List.length_zip, h1, h2])).mono (fun H h => ⟨h.1.1, h.2.1⟩) (fun i H x H' _ _ y => y)
  ylds i H x H' y := by
    obtain ⟨T, v1, v2, rfl, hT, rfl, e1, e2⟩ := y
    refine ⟨same_upd hT, fun Av hA h p hp => ?_⟩
    rw [List.getElem?_zip_eq_some] at hp
    obtain ⟨v, a1, a2⟩ := reps_get h.1.2 hp.1
    obtain ⟨w, b1, b2⟩ := reps_get h.2.2 hp.2
    rw [show vs[i]? = some v1 from e1] at a1
    rw [show ws[i]? = some v2 from e2] at b1
    cases a1
    cases b1
    exact ⟨T, v1, v2, rfl, .of (less_upd hA hT), Rep.mono (less_upd_same hT) a2, Rep.mono (less_upd_same hT) b2⟩
def enumF (n : Nat) : List α → List (Int × α)
  | [] => []
  | x :: xs => ((n : Int), x) :: enumF (n + 1) xs
theorem enumF_len : ∀ (n : Nat) (xs : List α), (enumF n xs).length = xs.length
  | _, [] => rfl
  | n, _ :: xs => by show (enumF (n + 1) xs).length + 1 = xs.length + 1; rw [enumF_len]
theorem enumF_get : ∀ (n : Nat) (xs : List α) (i : Nat), (enumF n xs)[i]? = xs[i]?.map fun x => (((n + i : Nat) : Int), x)
  | _, [], i => by simp [enumF]
  | n, x :: xs, 0 => by simp [enumF]
  | n, x :: xs, i + 1 => by
    show (enumF (n + 1) xs)[i]? = _
    rw [enumF_get (n + 1) xs i, show (x :: xs)[i + 1]? = xs[i]? from rfl, show n + 1 + i = n + (i + 1) by omega]
def srcE {K : Fg} {mg : MG} {a : Addr} {vs : List V} {xs : List α} (h1 : vs.length = xs.length) : Src K mg (Ite K a) (enumF 0 xs) where
  src H := SqL K H a vs ∧ Reps K mg H vs xs
  mono e h := ⟨e.seq h.1, h.2.mono e⟩
  Y := YPair (fun i => some (.int (i : Nat))) (fun i => vs[i]?)
  walk := by rw [enumF_len, ← h1]; exact walk_enum.mono (fun H h => h.1) (fun i H x H' _ _ y => y)
  ylds i H x H' y := by
    obtain ⟨T, v1, v2, rfl, hT, rfl, e1, e2⟩ := y
    refine ⟨same_upd hT, fun Av hA h p hp => ?_⟩
    rw [enumF_get] at hp
    cases e : xs[i]? with
    | none => rw [e] at hp; cases hp
    | some x =>
      rw [e] at hp
      cases hp
      obtain ⟨v, a1, a2⟩ := reps_get h.2 e
      rw [show vs[i]? = some v2 from e2] at a1
      cases a1
      cases e1
      refine ⟨T, _, v2, rfl, .of (less_upd hA hT), ?_, Rep.mono (less_upd_same hT) a2⟩
      show V.int (i : Nat) = V.int (((0 + i : Nat) : Int))
      rw [Nat.zero_add]
theorem i_zip {elts : List Expr} {kk : Nat} {tpos : Pos} {e e2 : Expr} {b : Bool} {m : Res (List α)} {m2 : Res (List β)} {p pos : Pos} (h : PE X e (tP b F L O m)) (h2 : PE X e2 (tP b F L O m2)) (hm : X.mg "zip" = none) (hg : Gl X "zip" := by rfl) (hK : X.K = F.K := by rfl)
    (hs1 : starEach [e, e2] X.env = (false, eval e X.env) :: starEach [e2] X.env := by rfl) (hs2 : starEach [e2] X.env = (false, eval e2 X.env) :: starEach [] X.env := by rfl) (hs3 : ((backTo pos (starEach [e2] X.env)).any fun x => x.fst) = false := by rfl) :
    PI X (.Tuple elts kk tpos) (.Call (.Name "zip" p) [e, e2] [] pos) (tI b F L O (m.bind fun xs => m2.bind fun ys => .ok (xs.zip ys))) := pi_imp (pi_zip hg hm (pa_cons h (pa_cons h2 pa_nil hs2) hs1) hs1 hs3) fun σ H R ⟨g, q⟩ => by
  rw [out_bind] at q
  refine ⟨g, q.mono (fun xs k v H1 g1 s1 r1 => ?_) fun _ z => z⟩
  rw [out_bind] at k
  refine ⟨g1, k.mono (fun ys k v H2 g2 s2 r2 => ?_) fun H' ⟨a, b⟩ => ⟨a, s1.trans b⟩⟩
  obtain ⟨a, vs, rfl, h3, h4⟩ := r1
  obtain ⟨c, ws, rfl, h5, h6⟩ := r2
  rw [hK]
  have h3' := rgn_grow s2 _ _ h3
  exact ⟨a, c, vs, ws, rfl, .of (rgn_sub _ _ h3'), .of (rgn_sub _ _ h5), k _ H2 (srcZ h4.length h6.length) g2 (s1.trans s2) ⟨⟨.of h3', h4.mono (rgn_grow s2)⟩, ⟨.of h5, h6⟩⟩⟩
theorem i_enum {elts : List Expr} {kk : Nat} {tpos : Pos} {e : Expr} {b : Bool} {m : Res (List α)} {p pos : Pos} (h : PE X e (tP b F L O m)) (hm : X.mg "enumerate" = none) (hg : Gl X "enumerate" := by rfl) (hK : X.K = F.K := by rfl)
    (hs1 : starEach [e] X.env = (false, eval e X.env) :: starEach [] X.env := by rfl) (hs : starEach [e] X.env = [(false, eval e X.env)] := by rfl) :
    PI X (.Tuple elts kk tpos) (.Call (.Name "enumerate" p) [e] [] pos) (tI b F L O (m.bind fun xs => .ok (enumF 0 xs))) := pi_imp (pi_enum hg hm (pa_cons h pa_nil hs1) hs) fun σ H R ⟨g, q⟩ => by
  rw [out_bind] at q
  refine ⟨g, q.mono (fun xs k v H1 g1 s1 r1 => ?_) fun _ z => z⟩
  obtain ⟨a, vs, rfl, h3, h4⟩ := r1
  rw [hK]
  exact ⟨a, vs, rfl, .of (rgn_sub _ _ h3), k _ H1 (srcE h4.length) g1 s1 ⟨.of h3, h4⟩⟩
end
/-! ### what changes the list at p -/
def KeepBut (p : Addr) (H H' : Hp) : Prop := ∀ x o, H x = some o → x ≠ p → H' x = some o
section
variable {X : Cx} {F : Fr} {L : List (Option Asr)} {p : Addr} {O : List Own} {α β γ ι : Type} [Rep α] [Rep β] [Rep γ] [OwR ι]
theorem KeepBut.trans {H H1 H2 : Hp} (a : KeepBut p H H1) (b : KeepBut p H1 H2) : KeepBut p H H2 := fun x o h hx => b x o (a x o h hx) hx
theorem KeepBut.of {H H' : Hp} (e : Same H H') : KeepBut p H H' := fun x o h _ => e x o h
def tE {γ : Type} [Rep γ] (b : Bool) (F : Fr) (L : List (Option Asr)) (p : Addr) (xs : ι) (O : List Own) (m : Res (γ × ι)) : TE := fun σ H Q =>
  G F L (ow F.K F.mg p xs :: O) σ H ∧ Out F m (fun r => ∀ v H', G F L (ow F.K F.mg p r.2 :: O) σ H' → KeepBut p H H' → rp F (rgn b F (ow F.K F.mg p r.2 :: O) H') v r.1 → Q v H') (XPS F)
def tEB (F : Fr) (L : List (Option Asr)) (p : Addr) (xs : ι) (O : List Own) (m : Res (Bool × ι)) : TT := fun σ H Q =>
  G F L (ow F.K F.mg p xs :: O) σ H ∧ Out F m (fun r => ∀ H', G F L (ow F.K F.mg p r.2 :: O) σ H' → KeepBut p H H' → Q r.1 H') (XPS F)
def tEA {τ : Type} [RepA τ] (b : Bool) (F : Fr) (L : List (Option Asr)) (p : Addr) (xs : ι) (O : List Own) (m : Res (τ × ι)) : TA := fun σ H Q =>
  G F L (ow F.K F.mg p xs :: O) σ H ∧ Out F m (fun r => ∀ vs H', G F L (ow F.K F.mg p r.2 :: O) σ H' → KeepBut p H H' → RepA.rep F.K F.mg (rgn b F (ow F.K F.mg p r.2 :: O) H') vs r.1 → Q vs H') (XPS F)
variable {xs : ι}
theorem e_p {e : Expr} {b : Bool} {m : Res γ} (hO : List.Sublist F.O0 (ow F.K F.mg p xs :: O)) (h : PE X e (tP b F L (ow F.K F.mg p xs :: O) m)) : PE X e (tE b F L p xs O (m.bind fun a => .ok (a, xs))) := pe_imp h fun σ H Q ⟨g, q⟩ => by
  rw [out_bind] at q
  exact ⟨g, q.mono (fun a k v H' g' s r => k v H' g' (.of s) r) fun H' ⟨a, _⟩ => a.go.sub hO⟩
theorem eb_p {e : Expr} {m : Res Bool} (hO : List.Sublist F.O0 (ow F.K F.mg p xs :: O)) (h : PT X e (tB' F L (ow F.K F.mg p xs :: O) m)) : PT X e (tEB F L p xs O (m.bind fun a => .ok (a, xs))) := pt_imp h fun σ H Q ⟨g, q⟩ => by
  rw [out_bind] at q
  exact ⟨g, q.mono (fun a k H' g' s => k H' g' (.of s)) fun H' ⟨a, _⟩ => a.go.sub hO⟩
theorem ne2 [Flat α] [Flat β] {x y e : Expr} {b1 b2 b3 : Bool} {r : R2} {ma : Res (α × ι)} {mb : ι → Res (β × ι)} {mc : α → β → Res γ} (c : ∀ {ta tb : TE}, PE X x ta → PE X y tb → PE X e (tOp r ta tb))
    (hx : PE X x (tE b1 F L p xs O ma)) (hy : ∀ xs', PE X y (tE b2 F L p xs' O (mb xs'))) (hr : ∀ xs' : ι, RR F L (ow F.K F.mg p xs' :: O) true true b3 r mc) (hO : ∀ xs' : ι, List.Sublist F.O0 (ow F.K F.mg p xs' :: O)) :
    PE X e (tE b3 F L p xs O (ma.bind fun u => (mb u.2).bind fun w => (mc u.1 w.1).bind fun z => .ok (z, w.2))) := pe_imp (c hx (pe_ex hy)) fun σ H Q ⟨g, q⟩ => by
  rw [out_bind] at q
  refine ⟨g, q.mono (fun u qx v1 H1 g1 s1 r1 => ?_) fun _ z => z⟩
  rw [out_bind] at qx
  refine ⟨u.2, g1, qx.mono (fun w qy v2 H2 g2 s2 r2 => ?_) fun _ z => z⟩
  rw [out_bind] at qy
  exact hr w.2 u.1 w.1 v1 v2 H2 σ Q g2 (Flat.iff.mpr (Flat.iff.mp r1)) (Flat.iff.mpr (Flat.iff.mp r2)) (qy.mono (fun z kz v H' g' s' r' => kz v H' g' ((s1.trans s2).trans (.of s')) r') fun H' ⟨a, b⟩ => a.go.sub (hO _))
theorem ne2t [Flat α] [Flat β] {x y e : Expr} {b1 b2 : Bool} {r : R2} {ma : Res (α × ι)} {mb : ι → Res (β × ι)} {mc : α → β → Res Bool} (c : ∀ {ta tb : TE}, PE X x ta → PE X y tb → PT X e (tTest (tOp r ta tb)))
    (hx : PE X x (tE b1 F L p xs O ma)) (hy : ∀ xs', PE X y (tE b2 F L p xs' O (mb xs'))) (hr : ∀ xs' : ι, RR F L (ow F.K F.mg p xs' :: O) true true true r mc) (hO : ∀ xs' : ι, List.Sublist F.O0 (ow F.K F.mg p xs' :: O)) :
    PT X e (tEB F L p xs O (ma.bind fun u => (mb u.2).bind fun w => (mc u.1 w.1).bind fun z => .ok (z, w.2))) := pt_imp (c hx (pe_ex hy)) fun σ H Q ⟨g, q⟩ => by
  rw [out_bind] at q
  refine ⟨g, q.mono (fun u qx v1 H1 g1 s1 r1 => ?_) fun _ z => z⟩
  rw [out_bind] at qx
  refine ⟨u.2, g1, qx.mono (fun w qy v2 H2 g2 s2 r2 => ?_) fun _ z => z⟩
  rw [out_bind] at qy
  exact hr w.2 u.1 w.1 v1 v2 H2 σ _ g2 (Flat.iff.mpr (Flat.iff.mp r1)) (Flat.iff.mpr (Flat.iff.mp r2)) (qy.mono (fun z kz v H' g' s' r' => ⟨z, r', kz H' g' ((s1.trans s2).trans (.of s'))⟩) fun H' ⟨a, b⟩ => a.go.sub (hO _))
/-- one argument -/
theorem ec1 [Flat α] {e : Expr} {b1 b3 : Bool} {r : List V → Hp → VK → Prop} {ma : Res (α × ι)} {mc : α → Res γ} (h : PE X e (tCB r (tCons (tE b1 F L p xs O ma) tNil))) (hr : ∀ xs' : ι, RC1 F L (ow F.K F.mg p xs' :: O) true b3 r mc) (hO : ∀ xs' : ι, List.Sublist F.O0 (ow F.K F.mg p xs' :: O)) :
    PE X e (tE b3 F L p xs O (ma.bind fun u => (mc u.1).bind fun z => .ok (z, u.2))) := pe_imp h fun σ H Q ⟨g, q⟩ => by
  rw [out_bind] at q
  refine ⟨g, q.mono (fun u qx v1 H1 g1 s1 r1 => ?_) fun _ z => z⟩
  rw [out_bind] at qx
  exact hr u.2 u.1 v1 H1 σ Q g1 (Flat.iff.mpr (Flat.iff.mp r1)) (qx.mono (fun z kz v H' g' s' r' => kz v H' g' (s1.trans (.of s')) r') fun H' ⟨a, b⟩ => a.go.sub (hO _))
/-- if .. else, and, or -/
theorem e_if {c a e : Expr} {pos : Pos} {b : Bool} {mc : Res (Bool × ι)} {ma mb : ι → Res (γ × ι)} (hc : PT X c (tEB F L p xs O mc)) (ha : ∀ xs', PE X a (tE b F L p xs' O (ma xs'))) (hb : ∀ xs', PE X e (tE b F L p xs' O (mb xs'))) :
    PE X (.IfExp c a e pos) (tE b F L p xs O (mc.bind fun u => if u.1 then ma u.2 else mb u.2)) := pe_imp (pe_ifExp hc (pe_ex ha) (pe_ex hb)) fun σ H Q ⟨g, q⟩ => by
  rw [out_bind] at q
  refine ⟨g, q.mono (fun u qc H1 g1 s1 => ?_) fun _ z => z⟩
  cases hu : u.1 with
  | true =>
    rw [hu] at qc
    exact ⟨u.2, g1, qc.mono (fun d kd v H' g' s' r' => kd v H' g' (s1.trans s') r') fun _ z => z⟩
  | false =>
    rw [hu] at qc
    exact ⟨u.2, g1, qc.mono (fun d kd v H' g' s' r' => kd v H' g' (s1.trans s') r') fun _ z => z⟩
theorem pw_ex {δ : Type} {e : Expr} {t : δ → TT} (h : ∀ b, PW X e (t b)) : PW X e (fun σ H Q => ∃ b, t b σ H Q) := ⟨fun wh pins s σ H Q I ⟨b, q⟩ => (h b).run wh pins s σ H Q I q⟩
theorem ew_and {x y : Expr} {rest : List Expr} {pos : Pos} {ma : Res (Bool × ι)} {mb : ι → Res (Bool × ι)} (hx : PT X x (tEB F L p xs O ma)) (hy : ∀ xs', PW X (.BoolOp .And (y :: rest) pos) (tEB F L p xs' O (mb xs'))) :
    PW X (.BoolOp .And (x :: y :: rest) pos) (tEB F L p xs O (ma.bind fun u => if u.1 then mb u.2 else .ok (false, u.2))) := pw_imp (pw_and hx (pw_ex hy)) fun σ H Q ⟨g, q⟩ => by
  rw [out_bind] at q
  refine ⟨g, q.mono (fun u qc H1 g1 s1 => ?_) fun _ z => z⟩
  cases hu : u.1 with
  | true =>
    rw [hu] at qc
    show ∃ b, tEB F L p b O (mb b) σ H1 Q
    exact ⟨u.2, g1, qc.mono (fun d kd H' g' s' => kd H' g' (s1.trans s')) fun _ z => z⟩
  | false =>
    rw [hu] at qc
    exact qc H1 g1 s1
theorem ew_or {x y : Expr} {rest : List Expr} {pos : Pos} {ma : Res (Bool × ι)} {mb : ι → Res (Bool × ι)} (hx : PT X x (tEB F L p xs O ma)) (hy : ∀ xs', PW X (.BoolOp .Or (y :: rest) pos) (tEB F L p xs' O (mb xs'))) :
    PW X (.BoolOp .Or (x :: y :: rest) pos) (tEB F L p xs O (ma.bind fun u => if u.1 then .ok (true, u.2) else mb u.2)) := pw_imp (pw_or hx (pw_ex hy)) fun σ H Q ⟨g, q⟩ => by
  rw [out_bind] at q
  refine ⟨g, q.mono (fun u qc H1 g1 s1 => ?_) fun _ z => z⟩
  cases hu : u.1 with
  | true =>
    rw [hu] at qc
    exact qc H1 g1 s1
  | false =>
    rw [hu] at qc
    show ∃ b, tEB F L p b O (mb b) σ H1 Q
    exact ⟨u.2, g1, qc.mono (fun d kd H' g' s' => kd H' g' (s1.trans s')) fun _ z => z⟩
end
end NF

set_option Elab.async false
set_option linter.all false
set_option maxRecDepth 100000
/-! Nf8: statements that change an owned list; defs that do. -/
namespace NF
open PySem PySem.Spec PyProof.Rows L2
open Data (toD)
section
variable {X : Cx} {F : Fr} {L : List (Option Asr)} {p : Addr} {O : List Own} {α β γ ε : Type} [Rep α] [Rep β] [Rep γ] [Rep ε]
/-! the owned objects in another order -/
theorem GO.perm {O2 : List Own} {H : Hp} (g : GO F O H) (h : O.Perm O2) : GO F O2 H where
  objs := fun w hw => let ⟨o, ho, q⟩ := g.objs w (h.symm.subset hw); ⟨o, ho, w.mono (less_sub fun a ha => by
    rcases List.mem_append.mp ha with z | z
    · exact List.mem_append_left _ ((h.map Own.a).symm.subset z)
    · exact List.mem_append_right _ z) q⟩
  nd := (h.map Own.a).nodup_iff.mp g.nd
  own := fun w hw => g.own w (h.symm.subset hw)
  keep := g.keep
  live := g.live
  hid := g.hid
  apart := fun w hw => g.apart w (h.symm.subset hw)
  facts := fun z hz => z.mono (less_sub fun a ha => by
    rcases List.mem_append.mp ha with z | z
    · exact List.mem_append_left _ ((h.map Own.a).symm.subset z)
    · exact List.mem_append_right _ z) (g.facts z hz)
theorem G.perm {O2 : List Own} {σ : L2.St} {H : Hp} (g : G F L O σ H) (h : O.Perm O2) : G F L O2 σ H := ⟨L2.Paired.mapP g.slots fun _ _ q => q.mono (less_sub fun a ha => by
    rcases List.mem_append.mp ha with z | z
    · exact List.mem_append_left _ ((h.map Own.a).symm.subset z)
    · exact List.mem_append_right _ z), g.go.perm h⟩
theorem s_perm {B : Type} {st : Stmt} {m : Res B} {L' : B → List (Option Asr)} {O2 : List Own} {O' O2' : B → List Own} (h : O.Perm O2) (h' : ∀ b, (O2' b).Perm (O' b)) (hs : PS X st (tN F L O2 m L' O2')) : PS X st (tN F L O m L' O') := ps_imp hs fun D σ H ⟨g, q⟩ =>
  ⟨g.perm h, q.mono (fun b k σ' H' g' => k σ' H' (g'.perm (h' b))) fun _ z => z⟩
theorem b_perm {D' : Type} {st : List Stmt} {m : Res D'} {Ret : D' → V → Hp → Prop} {O2 : List Own} (h : O.Perm O2) (hs : PSs X st (tT F L O2 m Ret)) : PSs X st (tT F L O m Ret) := pss_imp hs fun D σ H ⟨g, q⟩ => ⟨g.perm h, q⟩
theorem m_perm {B D' : Type} {st : List Stmt} {m : Res (Sum B D')} {L' : B → List (Option Asr)} {O' : B → List Own} {Ret : D' → V → Hp → Prop} {O2 : List Own} (h : O.Perm O2) (hs : PSs X st (tM F L O2 m L' O' Ret)) : PSs X st (tM F L O m L' O' Ret) := pss_imp hs fun D σ H ⟨g, q⟩ => ⟨g.perm h, q⟩
theorem n_perm {B : Type} {st : List Stmt} {m : Res B} {L' : B → List (Option Asr)} {O' : B → List Own} {O2 : List Own} (h : O.Perm O2) (hs : PSs X st (tN F L O2 m L' O')) : PSs X st (tN F L O m L' O') := pss_imp hs fun D σ H ⟨g, q⟩ => ⟨g.perm h, q⟩
/-! the list at p becomes another one -/
theorem g_upd {xs xs' : List ε} {vs' : List V} {σ : L2.St} {H : Hp} (g : G F L (ow F.K F.mg p xs :: O) σ H) (r : Reps F.K F.mg (rg F (ow F.K F.mg p xs :: O) H) vs' xs') :
    G F L (ow F.K F.mg p xs' :: O) σ (upd H p (.lst vs')) ∧ KeepBut p H (upd H p (.lst vs')) := by
  have hp : p ∈ addrs (ow F.K F.mg p xs :: O) ++ F.A := List.mem_append_left _ List.mem_cons_self
  have er : Same (rg F (ow F.K F.mg p xs :: O) H) (rg F (ow F.K F.mg p xs' :: O) (upd H p (.lst vs'))) := fun a o z => by
    unfold rg at z ⊢
    by_cases hb : a ∈ addrs (ow F.K F.mg p xs :: O) ++ F.A
    · rw [less_in hb] at z; cases z
    · rw [less_out hb] at z
      rw [less_out (show a ∉ addrs (ow F.K F.mg p xs' :: O) ++ F.A from hb), upd_ne (fun y => hb (by rw [y]; exact hp))]
      exact z
  have nd := List.nodup_cons.mp (show (p :: addrs O).Nodup from g.go.nd)
  refine ⟨⟨L2.Paired.mapP g.slots fun _ _ q => q.mono er, ?_⟩, fun x o h hx => by rw [upd_ne hx]; exact h⟩
  exact {
    objs := fun w hw => by
      rcases List.mem_cons.mp hw with rfl | hw
      · exact ⟨_, upd_same, vs', rfl, r.mono er⟩
      · obtain ⟨o, ho, q⟩ := g.go.objs w (List.mem_cons_of_mem _ hw)
        have hne : w.a ≠ p := fun y => nd.1 (by rw [← y]; exact List.mem_map.mpr ⟨w, hw, rfl⟩)
        exact ⟨o, by rw [upd_ne hne]; exact ho, w.mono er q⟩
    nd := g.go.nd
    own := fun w hw => by
      rcases List.mem_cons.mp hw with rfl | hw
      · exact g.go.own (ow F.K F.mg p xs) List.mem_cons_self
      · exact g.go.own w (List.mem_cons_of_mem _ hw)
    keep := fun a o h hw => by
      have hne : a ≠ p := fun y => by
        subst y
        rcases g.go.own _ List.mem_cons_self with z | z
        · exact hw z
        · have z' : F.H0 a = none := z
          rw [z'] at h; cases h
      rw [upd_ne hne]
      exact g.go.keep a o h hw
    live := fun a h => by
      by_cases hne : a = p
      · subst hne; rw [upd_same]; simp
      · rw [upd_ne hne]; exact g.go.live a h
    hid := g.go.hid
    apart := fun w hw => by
      rcases List.mem_cons.mp hw with rfl | hw
      · exact g.go.apart (ow F.K F.mg p xs) List.mem_cons_self
      · exact g.go.apart w (List.mem_cons_of_mem _ hw)
    facts := fun z hz => z.mono er (g.go.facts z hz) }
variable {xs : List ε}
theorem G.head {σ : L2.St} {H : Hp} (g : G F L (ow F.K F.mg p xs :: O) σ H) : ∃ vs, H p = some (.lst vs) ∧ Reps F.K F.mg (rg F (ow F.K F.mg p xs :: O) H) vs xs := by
  obtain ⟨o, h3, vs, h4, h5⟩ := g.go.objs _ List.mem_cons_self
  exact ⟨vs, h4 ▸ h3, h5⟩
/-- x = what changes the list -/
theorem s_setE {ι : Type} [OwR ι] {xs : ι} {x : Str} {e : Expr} {pos pos' : Pos} (i : Nat) (hN : X.N.Nodup) {m : Res (α × ι)} (he : PE X e (tE true F L p xs O m)) (hi : X.N[i]? = some x := by rfl) (hx : L2.Loc X.env.scope x := by first | exact .inl rfl | exact .inr rfl) (hs : swapsWith e (some (.Name x pos')) pos.line X.env = pure false := by rfl) (hf : X.fn x = true ∨ X.env.scope.names.lookup x = some .local := by first | exact .inl rfl | exact .inr rfl) :
    PS X (.Assign [.Name x pos'] e pos) (tN F L (ow F.K F.mg p xs :: O) m (fun r => L.set i (vl F.K F.mg r.1)) (fun r => ow F.K F.mg p r.2 :: O)) := ps_imp (ps_set (i := i) hN hi hx he hs hf) fun D σ H ⟨g, q⟩ =>
  ⟨g, q.mono (fun a k v H1 g1 s1 r1 => k _ _ ⟨set_ok (p := vl F.K F.mg a.1) r1 i g1.slots, g1.go⟩) fun _ z => z⟩
/-- e, for what it changes -/
theorem s_exprE {ι : Type} [OwR ι] {xs : ι} {e : Expr} {pos : Pos} {m : Res (α × ι)} (he : PE X e (tE true F L p xs O m)) (hs : swapsWith e none pos.line X.env = pure false := by rfl) :
    PS X (.Expr e pos) (tN F L (ow F.K F.mg p xs :: O) m (fun _ => L) (fun r => ow F.K F.mg p r.2 :: O)) := ps_imp (ps_expr he hs) fun D σ H ⟨g, q⟩ =>
  ⟨g, q.mono (fun a k v H1 g1 s1 r1 => k _ _ g1) fun _ z => z⟩
/-- x[i] = e -/
def setR (xs : List ε) (i : Int) (a : ε) : Res (List ε) := match ixN xs.length i with
  | some j => .ok (xs.set j a)
  | none => .bad
theorem s_sub {x : Str} {e ie : Expr} {pos pos1 pos2 : Pos} (i : Nat) (hL : L[i]? = some (rf p)) {m : Res (ε × List ε)} {mi : List ε → Res Int} (hO : ∀ xs' : List ε, List.Sublist F.O0 (ow F.K F.mg p xs' :: O)) (he : PE X e (tE true F L p xs O m)) (hie : ∀ xs' : List ε, PE X ie (tP true F L (ow F.K F.mg p xs' :: O) (mi xs')))
    (hN : X.N[i]? = some x := by rfl) (hv : Vis X.env.scope x := by first | exact Or.inl rfl | exact Or.inr (Or.inl rfl) | exact Or.inr (Or.inr rfl)) (hd : (x == ("__debug__" : Str)) = false := by decide) (hcd : (x == ("__classdict__" : Str)) = false := by decide)
    (ha : ∀ v, assign (.Subscript (.Name x pos1) ie pos2) X.env v = (do
      let ov ← holding [v] (eval (.Name x pos1) X.env)
      let iv ← holding [v, ov] (eval ie X.env)
      standAt pos2
      holding [v, ov, iv] (setItem ov iv v)
      release [v, ov, iv] []) := by intro _; rfl) (h1 : swapsWithSole [.Subscript (.Name x pos1) ie pos2] e pos.line X.env = pure false := by rfl) (h2 : swappedStores [.Subscript (.Name x pos1) ie pos2] e X.env = pure none := by rfl)
    (h3 : (assignEach [.Subscript (.Name x pos1) ie pos2] X.env).map (·.2) = [assign (.Subscript (.Name x pos1) ie pos2) X.env] := by rfl) :
    PS X (.Assign [.Subscript (.Name x pos1) ie pos2] e pos) (tN F L (ow F.K F.mg p xs :: O) (m.bind fun r => (mi r.2).bind fun j => setR r.2 j r.1) (fun _ => L) (fun ys => ow F.K F.mg p ys :: O)) := ps_imp (ps_asg he (pg_sub (pe_var hN hv hd hcd) (pe_ex hie) set_list ha) h1 h2 h3) fun D σ H ⟨g, q⟩ => by
  rw [out_bind] at q
  refine ⟨g, q.mono (fun r k v H1 g1 s1 r1 => ?_) fun _ z => z⟩
  obtain ⟨w, h4, h5⟩ := g1.slot hL
  rw [out_bind] at k
  refine ⟨w, h4, r.2, g1, k.mono (fun j k v2 H2 g2 s2 r2 => ?_) fun H' ⟨a, _⟩ => a.go.sub (hO _)⟩
  unfold setR at k
  obtain ⟨vs, h6, h7⟩ := g2.head
  cases e : ixN r.2.length j with
  | none => rw [e] at k; exact k.elim
  | some n =>
    rw [e] at k
    refine ⟨p, vs, j, n, h5, r2, h6, by rw [h7.length]; exact e, ?_⟩
    exact k σ _ (g_upd g2 (reps_set (Rep.mono (rg_grow s2) r1) n h7)).1
/-- x.append(e) -/
theorem s_app {x : Str} {e : Expr} {pos pos1 pos2 cpos : Pos} (i : Nat) (hL : L[i]? = some (rf p)) {m : Res ε} (hO : ∀ xs' : List ε, List.Sublist F.O0 (ow F.K F.mg p xs' :: O)) (he : PE X e (tP true F L (ow F.K F.mg p xs :: O) m))
    (h : ∀ {to : TE} {t : TA}, PE X (.Name x pos1) to → PA X [e] t → PE X (.Call (.Attribute (.Name x pos1) "append" pos2) [e] [] cpos) (tBM X.K "list" rAppend to t)) (hs1 : starEach [e] X.env = (false, eval e X.env) :: starEach [] X.env := by rfl)
    (hN : X.N[i]? = some x := by rfl) (hv : Vis X.env.scope x := by first | exact Or.inl rfl | exact Or.inr (Or.inl rfl) | exact Or.inr (Or.inr rfl)) (hd : (x == ("__debug__" : Str)) = false := by decide) (hcd : (x == ("__classdict__" : Str)) = false := by decide)
    (hs : swapsWith (.Call (.Attribute (.Name x pos1) "append" pos2) [e] [] cpos) none pos.line X.env = pure false := by rfl) :
    PS X (.Expr (.Call (.Attribute (.Name x pos1) "append" pos2) [e] [] cpos) pos) (tN F L (ow F.K F.mg p xs :: O) (m.bind fun a => need (xs.length < sizeLine) (.ok (xs ++ [a]))) (fun _ => L) (fun ys => ow F.K F.mg p ys :: O)) := ps_imp (ps_expr (h (pe_var hN hv hd hcd) (pa_cons he pa_nil hs1)) hs) fun D σ H ⟨g, q⟩ => by
  obtain ⟨w, h4, h5⟩ := g.slot hL
  obtain ⟨vs, h6, h7⟩ := g.head
  rw [out_bind] at q
  refine ⟨w, h4, ?_, g, q.mono (fun a k v H1 g1 s1 r1 => ?_) fun H' ⟨a, _⟩ => a.go.sub (hO _)⟩
  · rw [show w = V.ref p from h5]
    exact .inl ⟨rfl, _, .of h6⟩
  · rw [out_need] at k
    obtain ⟨vs', h8, h9⟩ := g1.head
    refine ⟨p, vs', v, h5, rfl, h8, by rw [h9.length]; exact k.1, ?_⟩
    exact k.2 σ _ (g_upd g1 (reps_append h9 (.cons r1 .nil))).1
/-- x.pop(i) -/
def popAtR (xs : List ε) (i : Int) : Res (ε × List ε) := match seqIndex? i xs.length with
  | some k => match xs[k]? with
    | some a => need (Rg63 i) (.ok (a, xs.eraseIdx k))
    | none => .bad
  | none => .bad
theorem reps_erase {K : Fg} {mg : MG} {H : Hp} : ∀ {vs : List V} {as : List ε} (n : Nat), Reps K mg H vs as → Reps K mg H (vs.eraseIdx n) (as.eraseIdx n)
  | _, _, _, .nil => .nil
  | _, _, 0, .cons _ t => t
  | _, _, n + 1, .cons q t => .cons q (reps_erase n t)
theorem e_popAt {x : Str} {ie : Expr} {pos1 pos2 cpos : Pos} (i : Nat) (hL : L[i]? = some (rf p)) {mi : Res Int} (hO : ∀ xs' : List ε, List.Sublist F.O0 (ow F.K F.mg p xs' :: O)) (hie : PE X ie (tP true F L (ow F.K F.mg p xs :: O) mi))
    (h : ∀ {to : TE} {t : TA}, PE X (.Name x pos1) to → PA X [ie] t → PE X (.Call (.Attribute (.Name x pos1) "pop" pos2) [ie] [] cpos) (tBM X.K "list" rPopAt to t)) (hs1 : starEach [ie] X.env = (false, eval ie X.env) :: starEach [] X.env := by rfl)
    (hN : X.N[i]? = some x := by rfl) (hv : Vis X.env.scope x := by first | exact Or.inl rfl | exact Or.inr (Or.inl rfl) | exact Or.inr (Or.inr rfl)) (hd : (x == ("__debug__" : Str)) = false := by decide) (hcd : (x == ("__classdict__" : Str)) = false := by decide) :
    PE X (.Call (.Attribute (.Name x pos1) "pop" pos2) [ie] [] cpos) (tE true F L p xs O (mi.bind fun j => popAtR xs j)) := pe_imp (h (pe_var hN hv hd hcd) (pa_cons hie pa_nil hs1)) fun σ H Q ⟨g, q⟩ => by
  obtain ⟨w, h4, h5⟩ := g.slot hL
  obtain ⟨vs, h6, h7⟩ := g.head
  rw [out_bind] at q
  refine ⟨w, h4, ?_, g, q.mono (fun j k v H1 g1 s1 r1 => ?_) fun H' ⟨a, _⟩ => a.go.sub (hO _)⟩
  · rw [show w = V.ref p from h5]
    exact .inl ⟨rfl, _, .of h6⟩
  · obtain ⟨vs', h8, h9⟩ := g1.head
    unfold popAtR at k
    cases e : seqIndex? j xs.length with
    | none => rw [e] at k; exact k.elim
    | some n =>
      rw [e] at k
      cases e2 : xs[n]? with
      | none => simp only [e2] at k; exact k.elim
      | some a =>
        simp only [e2] at k
        rw [out_need] at k
        obtain ⟨y, h10, h11⟩ := reps_get h9 e2
        have r1' : v = V.int j := r1
        refine ⟨p, vs', j, n, y, h5, by rw [r1'], h8, k.1.1, k.1.2, by rw [h9.length]; exact e, h10, ?_⟩
        have gu := g_upd g1 (reps_erase n h9)
        refine k.2 y _ gu.1 ((KeepBut.of s1).trans gu.2) ?_
        exact Rep.mono (fun a o z => by
          unfold rg at z
          show rgn true F (ow F.K F.mg p (xs.eraseIdx n) :: O) _ a = some o
          show less _ _ a = some o
          by_cases hb : a ∈ addrs (ow F.K F.mg p xs :: O) ++ F.A
          · rw [less_in hb] at z; cases z
          · rw [less_out hb] at z
            rw [less_out (show a ∉ addrs (ow F.K F.mg p (xs.eraseIdx n) :: O) ++ F.A from hb), upd_ne (fun y => hb (by rw [y]; exact List.mem_append_left _ List.mem_cons_self))]
            exact z) h11
end
end NF

set_option Elab.async false
set_option linter.all false
set_option maxRecDepth 100000
/-! Nf9: built-ins. -/
namespace NF
open PySem PySem.Spec PyProof.Rows L2
open Data (toD)
/-- the name of a value's type -/
class Ty (α : Type) [Rep α] where
  tyN : α → String
  ok : ∀ {K : Fg} {mg : MG} {H : Hp} {v : V} {a : α}, Rep.rep K mg H v a → TyX K H v (.type (tyN a))
theorem tyx_tup {K : Fg} {H : Hp} {p : Addr} {vs : List V} (h : SqT K H p vs) : TyX K H (.ref p) (.type "tuple") := by
  rcases h with (h | ⟨o, h⟩) | ⟨o, its, n, h1, h2, _⟩
  · exact .base (.tup h)
  · exact .fTuple h
  · exact .kTuple h1 h2
theorem tyx_lst {K : Fg} {H : Hp} {p : Addr} {vs : List V} (h : SqL K H p vs) : TyX K H (.ref p) (.type "list") := by
  rcases h with (h | ⟨o, h⟩) | ⟨o, its, n, h1, h2, _⟩
  · exact .base (.lst h)
  · exact .base (.frz h)
  · exact .kList h1 h2
instance : Ty Int := ⟨fun _ => "int", fun {K mg H v a} h => by subst h; exact .base (.int a)⟩
instance : Ty Bool := ⟨fun _ => "bool", fun {K mg H v a} h => by subst h; exact .base (.bl a)⟩
instance : Ty Str := ⟨fun _ => "str", fun {K mg H v a} h => by subst h; exact .base (.str a)⟩
instance : Ty Unit := ⟨fun _ => "NoneType", fun {K mg H v a} h => by subst h; exact .base .non⟩
instance {α : Type} [Rep α] : Ty (List α) := ⟨fun _ => "list", fun ⟨p, vs, h1, h2, h3⟩ => by subst h1; exact tyx_lst (.of h2)⟩
instance {α : Type} [Rep α] : Ty (Tp α) := ⟨fun _ => "tuple", fun ⟨p, vs, h1, h2, h3⟩ => by subst h1; exact tyx_tup h2⟩
instance {α β : Type} [Rep α] [Rep β] : Ty (α × β) := ⟨fun _ => "tuple", fun ⟨p, a, b, h1, h2, _⟩ => by subst h1; exact tyx_tup h2⟩
def dName : PyData → String
  | .none => "NoneType"
  | .bool _ => "bool"
  | .int _ => "int"
  | .str _ => "str"
  | .list _ => "list"
  | .tuple _ => "tuple"
  | .dict _ => "dict"
instance : Ty PyData := ⟨dName, fun {K mg H v a} h => by
  cases (show Dp K H v a from h) with
  | non => exact .base .non
  | bl b => exact .base (.bl b)
  | int i => exact .base (.int i)
  | str x => exact .base (.str x)
  | lst h2 hs => exact tyx_lst h2
  | tup h2 hs => exact tyx_tup h2⟩
/-- isinstance by the names -/
def isT (T n : String) : Res Bool := match kitB n T with
  | some b => .ok b
  | none => .bad
section
variable {X : Cx} {F : Fr} {L : List (Option Asr)} {O : List Own} {α β γ s : Type} [Rep α] [Rep β] [Rep γ] [Rep s] {b1 b2 b3 : Bool} {pos p1 p2 : Pos}
theorem ty_grow [Ty α] {K : Fg} {H H' : Hp} {t : Value} {v : V} (h : TyX K H v t) : True := trivial
theorem n_isi [Ty α] {e : Expr} {T : Str} {n : String} {m : Res α} (h : PE X e (tP b1 F L O m)) (hT : bootBuiltins T = some (.type n)) (hm : X.mg T = none) (hi : X.mg "isinstance" = none) (hg : Gl X "isinstance" := by rfl) (hgT : Gl X T := by rfl) (hK : X.K = F.K := by rfl) (hM : X.mg = F.mg := by rfl)
    (hn : T ≠ "__name__" := by decide) (hd : (T == ("__debug__" : Str)) = false := by decide)
    (h1 : starEach [e, .Name T p2] X.env = (false, eval e X.env) :: starEach [.Name T p2] X.env := by rfl) (h2 : starEach [.Name T p2] X.env = (false, eval (.Name T p2) X.env) :: starEach [] X.env := by rfl)
    (c : ∀ {r : List V → Hp → VK → Prop} {t : TA}, CallR X (.builtin "isinstance") r → PA X [e, .Name T p2] t → PE X (.Call (.Name "isinstance" p1) [e, .Name T p2] [] pos) (tCB r t)) :
    PE X (.Call (.Name "isinstance" p1) [e, .Name T p2] [] pos) (tP b3 F L O (m.bind fun a => isT n (Ty.tyN a))) := pe_imp (c call_isi (pa_cons h (pa_cons (pe_bltn (v := .ty n) hgT hm hT rfl hn hd) pa_nil h2) h1)) fun σ H Q ⟨g, q⟩ => by
  rw [out_bind] at q
  refine ⟨g, q.mono (fun a k v H1 g1 s1 r1 => ?_) fun _ z => z⟩
  unfold isT at k
  cases e : kitB (Ty.tyN a) n with
  | none => rw [e] at k; exact k.elim
  | some b =>
    rw [e] at k
    have ht : TyX F.K (rgn b1 F O H1) v (.type (Ty.tyN a)) := Ty.ok r1
    have ht' : TyX X.K H1 v (.type (Ty.tyN a)) := by rw [hK]; exact Ty.ok (α := α) (mg := F.mg) (Rep.mono rgn_sub r1)
    exact ⟨v, .ty n, _, _, b, rfl, .ty n, ht', kit_ty e, k _ H1 g1 s1 rfl⟩
/-- abs, int, bool, max, min -/
theorem n_abs {e : Expr} {m : Res Int} {es} (h : PE X e (tCB es (tCons (tP b1 F L O m) tNil))) (er : es = fun xs H Q => ∃ i, xs = [V.int i] ∧ Q (.int (if i < 0 then -i else i)) H) : PE X e (tP b3 F L O (m.bind fun i => .ok (if i < 0 then -i else i))) := nc1 h fun x vx H σ Q g rx q => by
  subst er; cases rx; exact ⟨x, rfl, kp_flat (α := Int) g q⟩
theorem n_int1 {e : Expr} {m : Res Int} {es} (h : PE X e (tCB es (tCons (tP b1 F L O m) tNil))) (er : es = fun xs H Q => (∃ i, xs = [V.int i] ∧ Q (.int i) H) ∨ ∃ k, xs = [V.bl k] ∧ Q (.int (if k then 1 else 0)) H) : PE X e (tP b3 F L O (m.bind fun i => .ok i)) := nc1 h fun x vx H σ Q g rx q => by
  subst er; cases rx; exact .inl ⟨x, rfl, kp_flat (α := Int) g q⟩
theorem n_intB {e : Expr} {m : Res Bool} {es} (h : PE X e (tCB es (tCons (tP b1 F L O m) tNil))) (er : es = fun xs H Q => (∃ i, xs = [V.int i] ∧ Q (.int i) H) ∨ ∃ k, xs = [V.bl k] ∧ Q (.int (if k then 1 else 0)) H) : PE X e (tP b3 F L O (m.bind fun k => .ok (if k then (1 : Int) else 0))) := nc1 h fun x vx H σ Q g rx q => by
  subst er; cases rx; exact .inr ⟨x, rfl, kp_flat (α := Int) g q⟩
theorem n_max2 {e : Expr} {ma mb : Res Int} {es} (h : PE X e (tCB es (tCons (tP b1 F L O ma) (tCons (tP b2 F L O mb) tNil)))) (er : es = fun xs H Q => ∃ i j, xs = [V.int i, V.int j] ∧ Q (.int (if j > i then j else i)) H) : PE X e (tP b3 F L O (ma.bind fun i => mb.bind fun j => .ok (if j > i then j else i))) := nc2 h fun x y vx vy H σ Q g rx ry q => by
  subst er; cases rx; cases ry; exact ⟨x, y, rfl, kp_flat (α := Int) g q⟩
theorem n_min2 {e : Expr} {ma mb : Res Int} {es} (h : PE X e (tCB es (tCons (tP b1 F L O ma) (tCons (tP b2 F L O mb) tNil)))) (er : es = fun xs H Q => ∃ i j, xs = [V.int i, V.int j] ∧ Q (.int (if j < i then j else i)) H) : PE X e (tP b3 F L O (ma.bind fun i => mb.bind fun j => .ok (if j < i then j else i))) := nc2 h fun x y vx vy H σ Q g rx ry q => by
  subst er; cases rx; cases ry; exact ⟨x, y, rfl, kp_flat (α := Int) g q⟩
/-- the least, the greatest of a list of ints -/
def minR (xs : List Int) : Res Int := match xs with
  | [] => .bad
  | x :: r => .ok (r.foldl min x)
def maxR (xs : List Int) : Res Int := match xs with
  | [] => .bad
  | x :: r => .ok (r.foldl max x)
theorem foldl_min_le : ∀ (r : List Int) (x : Int), r.foldl min x ≤ x ∧ (∀ y ∈ r, r.foldl min x ≤ y) ∧ (r.foldl min x = x ∨ r.foldl min x ∈ r)
  | [], x => ⟨Int.le_refl _, fun _ h => (List.not_mem_nil h).elim, .inl rfl⟩
  | y :: r, x => by
    obtain ⟨h1, h2, h3⟩ := foldl_min_le r (min x y)
    refine ⟨by show r.foldl min (min x y) ≤ x; omega, fun z hz => ?_, ?_⟩
    · rcases List.mem_cons.mp hz with rfl | hz
      · show r.foldl min (min x z) ≤ z; omega
      · exact h2 z hz
    · show r.foldl min (min x y) = x ∨ r.foldl min (min x y) ∈ y :: r
      rcases h3 with h3 | h3
      · by_cases h : x ≤ y
        · left; omega
        · right; rw [h3, show min x y = y by omega]; exact List.mem_cons_self
      · right; exact List.mem_cons_of_mem _ h3
theorem foldl_max_le : ∀ (r : List Int) (x : Int), x ≤ r.foldl max x ∧ (∀ y ∈ r, y ≤ r.foldl max x) ∧ (r.foldl max x = x ∨ r.foldl max x ∈ r)
  | [], x => ⟨Int.le_refl _, fun _ h => (List.not_mem_nil h).elim, .inl rfl⟩
  | y :: r, x => by
    obtain ⟨h1, h2, h3⟩ := foldl_max_le r (max x y)
    refine ⟨by show x ≤ r.foldl max (max x y); omega, fun z hz => ?_, ?_⟩
    · rcases List.mem_cons.mp hz with rfl | hz
      · show z ≤ r.foldl max (max x z); omega
      · exact h2 z hz
    · show r.foldl max (max x y) = x ∨ r.foldl max (max x y) ∈ y :: r
      rcases h3 with h3 | h3
      · by_cases h : y ≤ x
        · left; omega
        · right; rw [h3, show max x y = y by omega]; exact List.mem_cons_self
      · right; exact List.mem_cons_of_mem _ h3
theorem n_min {e : Expr} {m : Res (List Int)} {es} (h : PE X e (tCB es (tCons (tP b1 F L O m) tNil))) (er : es = rMin F.K) : PE X e (tP b3 F L O (m.bind minR)) := nc1 h fun x vx H σ Q g rx q => by
  subst er
  obtain ⟨p, vs, rfl, h2, h3⟩ := rx
  have e := reps_flat.mp h3
  subst e
  cases x with
  | nil => exact q.elim
  | cons y r =>
    refine ⟨p, y :: r, rfl, .of (rgn_sub _ _ h2), by simp, fun m hm hle => ?_⟩
    obtain ⟨f1, f2, f3⟩ := foldl_min_le r y
    have em : m = r.foldl min y := by
      have a1 : m ≤ r.foldl min y := by
        rcases f3 with f3 | f3
        · rw [f3]; exact hle y List.mem_cons_self
        · exact hle _ (List.mem_cons_of_mem _ f3)
      have a2 : r.foldl min y ≤ m := by
        rcases List.mem_cons.mp hm with e | e
        · rw [e]; exact f1
        · exact f2 m e
      omega
    subst em
    exact kp_flat (α := Int) g q
theorem n_max {e : Expr} {m : Res (List Int)} {es} (h : PE X e (tCB es (tCons (tP b1 F L O m) tNil))) (er : es = rMax F.K) : PE X e (tP b3 F L O (m.bind maxR)) := nc1 h fun x vx H σ Q g rx q => by
  subst er
  obtain ⟨p, vs, rfl, h2, h3⟩ := rx
  have e := reps_flat.mp h3
  subst e
  cases x with
  | nil => exact q.elim
  | cons y r =>
    refine ⟨p, y :: r, rfl, .of (rgn_sub _ _ h2), by simp, fun m hm hle => ?_⟩
    obtain ⟨f1, f2, f3⟩ := foldl_max_le r y
    have em : m = r.foldl max y := by
      have a1 : r.foldl max y ≤ m := by
        rcases f3 with f3 | f3
        · rw [f3]; exact hle y List.mem_cons_self
        · exact hle _ (List.mem_cons_of_mem _ f3)
      have a2 : m ≤ r.foldl max y := by
        rcases List.mem_cons.mp hm with e | e
        · rw [e]; exact f1
        · exact f2 m e
      omega
    subst em
    exact kp_flat (α := Int) g q
theorem n_sum {e : Expr} {m : Res (List Int)} {es} (h : PE X e (tCB es (tCons (tP b1 F L O m) tNil))) (er : es = rSum F.K) : PE X e (tP b3 F L O (m.bind fun xs => .ok xs.sum)) := nc1 h fun x vx H σ Q g rx q => by
  subst er
  obtain ⟨p, vs, rfl, h2, h3⟩ := rx
  have e := reps_flat.mp h3
  subst e
  exact ⟨p, x, rfl, .of (rgn_sub _ _ h2), kp_flat (α := Int) g q⟩
theorem n_all {e : Expr} {m : Res (List Bool)} {es} (h : PE X e (tCB es (tCons (tP b1 F L O m) tNil))) (er : es = rAll F.K) : PE X e (tP b3 F L O (m.bind fun xs => .ok (xs.all id))) := nc1 h fun x vx H σ Q g rx q => by
  subst er
  obtain ⟨p, vs, rfl, h2, h3⟩ := rx
  have e := reps_flat.mp h3
  subst e
  exact ⟨p, x, rfl, .of (rgn_sub _ _ h2), kp_flat (α := Bool) g q⟩
theorem n_any {e : Expr} {m : Res (List Bool)} {es} (h : PE X e (tCB es (tCons (tP b1 F L O m) tNil))) (er : es = rAny F.K) : PE X e (tP b3 F L O (m.bind fun xs => .ok (xs.any id))) := nc1 h fun x vx H σ Q g rx q => by
  subst er
  obtain ⟨p, vs, rfl, h2, h3⟩ := rx
  have e := reps_flat.mp h3
  subst e
  exact ⟨p, x, rfl, .of (rgn_sub _ _ h2), kp_flat (α := Bool) g q⟩
/-- list(xs), tuple(xs) -/
theorem f_list [Lk s α] {e : Expr} {m : Res s} {es} (h : PE X e (tCB es (tCons (tP b1 F L O m) tNil))) (er : es = fun xs H Q => ∃ p ys, xs = [V.ref p] ∧ (SqL F.K H p ys ∨ SqT F.K H p ys) ∧ ∀ l, H l = none → Q (.ref l) (upd H l (.lst ys))) : PE X e (tF b1 F L O (m.bind fun x => .ok (Lk.its x))) := nc1f h fun x vx H σ Q g rx q => by
  subst er
  obtain ⟨p, vs, rfl, h2, h3⟩ := Lk.get rx
  exact ⟨p, vs, rfl, h2.elim (fun z => .inl (rgn_sub.seq z)) (fun z => .inr (same_t rgn_sub z)), kf_new g q h3⟩
theorem n_tupleOf [Lk s α] {e : Expr} {m : Res s} {es} (h : PE X e (tCB es (tCons (tP b1 F L O m) tNil))) (er : es = fun xs H Q => ∃ p ys, xs = [V.ref p] ∧ ((SqL F.K H p ys ∧ ∀ l, H l = none → Q (.ref l) (upd H l (.tup ys))) ∨ SqT F.K H p ys ∧ Q (.ref p) H)) : PE X e (tP b1 F L O (m.bind fun x => .ok (Tp.mk (Lk.its x)))) := nc1 h fun x vx H σ Q g rx q => by
  subst er
  obtain ⟨p, vs, rfl, h2, h3⟩ := Lk.get rx
  refine ⟨p, vs, rfl, ?_⟩
  rcases h2 with h2 | h2
  · exact .inl ⟨rgn_sub.seq h2, fun l hl => q _ _ (g.grow (same_upd hl)) (same_upd hl) ⟨l, vs, rfl, .of (rgn_new g (same_upd hl) hl upd_same), h3.mono (rgn_grow (same_upd hl))⟩⟩
  · exact .inr ⟨same_t rgn_sub h2, q _ H g (Same.refl _) ⟨p, vs, rfl, h2, h3⟩⟩
/-- n.bit_length() -/
theorem n_bits {o : Expr} {apos : Pos} {m : Res Int} (h : PE X o (tP b1 F L O m)) (hb : attributeBase o "bit_length" X.env (eval o X.env) = eval o X.env := by rfl) (hl : (apos.endLine == pos.line) = true := by rfl) :
    PE X (.Call (.Attribute o "bit_length" apos) [] [] pos) (tP b3 F L O (m.bind fun i => .ok ((Builtin.Int.intBits i : Nat) : Int))) := pe_imp (pe_bits h hb hl) fun σ H Q ⟨g, q⟩ => by
  rw [out_bind] at q
  exact ⟨g, q.mono (fun i k v H1 g1 s1 r1 => ⟨i, r1, k _ H1 g1 s1 rfl⟩) fun _ z => z⟩
end
end NF

set_option Elab.async false
set_option linter.all false
set_option maxRecDepth 100000
/-! Nf10: where a def stands; defs that change a list. -/
namespace NF
open PySem PySem.Spec PyProof.Rows L2
open Data (toD)
/-- a def of the module, with its promise -/
structure DefAt (P : Program) (w : World) (K : Fg) (mg : MG) (base : Heap) (cx : CXT) (k : Nat) (x : Str) (ps : List Str) (sp : Sp) : Prop where
  ex : ∃ (f : Addr) (fd : FuncData), FnOk P w K mg base cx k f fd ps sp ∧ mg x = some (.ref f) ∧ PySem.W.keepIn K (.ref f) = true ∧ Binds K fd ps []
section
variable {X : Cx} {F : Fr} {L : List (Option Asr)} {O : List Own} {p : Addr} {τ ρ α ι : Type} [RepA τ] [Rep ρ] [Rep α] [OwR ι]
variable {k : Nat} {ps : List Str} {x : Str} {p1 pos : Pos} {e : Expr} {es : List Expr} {b : Bool}
theorem nd_call {mir : τ → Res ρ} {m : Res τ} (D : DefAt X.prog X.w X.K X.mg X.base CX0 k x ps (spP X.K X.mg mir)) (hr : Room k X.A) (ha : PA X (e :: es) (tA b F L O m)) (hg : Gl X x := by rfl) (hE : F.E = E0 := by rfl) (hK : X.K = F.K := by rfl) (hM : X.mg = F.mg := by rfl) (hd : (x == ("__debug__" : Str)) = false := by decide)
    (hs : starEach (e :: es) X.env = (false, eval e X.env) :: starEach es X.env := by rfl) (hs2 : ((backTo pos (starEach es X.env)).any fun x => x.fst) = false := by rfl) : PE X (.Call (.Name x p1) (e :: es) [] pos) (tP b F L O (m.bind mir)) := by
  obtain ⟨f, fd, h1, h2, h3, h4⟩ := D.ex
  exact n_call h1 hr h2 h3 h4 ha hg hE hK hM hd hs hs2
theorem fd_call {mir : τ → Res (List α)} {m : Res τ} (D : DefAt X.prog X.w X.K X.mg X.base CX0 k x ps (spF X.K X.mg mir)) (hr : Room k X.A) (ha : PA X (e :: es) (tA b F L O m)) (hg : Gl X x := by rfl) (hE : F.E = E0 := by rfl) (hK : X.K = F.K := by rfl) (hM : X.mg = F.mg := by rfl) (hd : (x == ("__debug__" : Str)) = false := by decide)
    (hs : starEach (e :: es) X.env = (false, eval e X.env) :: starEach es X.env := by rfl) (hs2 : ((backTo pos (starEach es X.env)).any fun x => x.fst) = false := by rfl) : PE X (.Call (.Name x p1) (e :: es) [] pos) (tF b F L O (m.bind mir)) := by
  obtain ⟨f, fd, h1, h2, h3, h4⟩ := D.ex
  exact f_call h1 hr h2 h3 h4 ha hg hE hK hM hd hs hs2
end
/-! ### defs that change the list that is passed first -/
abbrev F2 (K : Fg) (mg : MG) (H : Hp) (A : List Addr) (E : XK) (p : Addr) : Fr := ⟨K, mg, H, [p], A, [], E, []⟩
def spI {τ ρ ι : Type} [RepA τ] [Rep ρ] [OwR ι] (K : Fg) (mg : MG) (mir : ι → τ → Res (ρ × ι)) : Sp := fun vs H Q _ => ∃ (p : Addr) (a : τ) (A : List Addr) (xs : ι) (us : List V) (ob : HO), (∀ x ∈ A, H x ≠ none) ∧ p ∉ A ∧ vs = .ref p :: us ∧ RepA.rep K mg (less H (p :: A)) us a ∧
  H p = some ob ∧ OwR.P K mg (less H (p :: A)) ob xs ∧
  Out (F2 K mg H A E0 p) (mir xs a) (fun r => ∀ v H' ob', KeepBut p H H' → H' p = some ob' → OwR.P K mg (less H' (p :: A)) ob' r.2 → Rep.rep K mg (less H' (p :: A)) v r.1 → Q v H') (fun H' => GO (F2 K mg H A E0 p) [] H')
def rI {ρ ι : Type} [Rep ρ] [OwR ι] (F : Fr) (p : Addr) (r : ρ × ι) (v : V) (H : Hp) : Prop := GO F [ow F.K F.mg p r.2] H ∧ rp F (rg F [ow F.K F.mg p r.2] H) v r.1
theorem go_startI {ι : Type} [OwR ι] {K : Fg} {mg : MG} {H : Hp} {A : List Addr} {E : XK} {p : Addr} {xs : ι} {ob : HO} (hA : ∀ x ∈ A, H x ≠ none) (hp : p ∉ A) (h : H p = some ob) (r : OwR.P K mg (less H (p :: A)) ob xs) : GO (F2 K mg H A E p) [ow K mg p xs] H where
  objs := fun w hw => by
    rw [List.mem_singleton.mp hw]
    exact ⟨_, h, r⟩
  nd := by simp
  own := fun w hw => by rw [List.mem_singleton.mp hw]; exact .inl List.mem_cons_self
  keep := fun _ _ h _ => h
  live := fun _ h => h
  hid := hA
  apart := fun w hw => by rw [List.mem_singleton.mp hw]; exact hp
  facts := fun _ h => (List.not_mem_nil h).elim
section
variable {P : Program} {w : World} {K : Fg} {mg : MG} {base : Heap} {τ ρ ι : Type} [RepA τ] [Rep ρ] [OwR ι]
variable {x qual : Str} {st : Stmt} {f : Addr} {fd : FuncData} {N ps : List Str} {k : Nat}
theorem def_I {mir : ι → τ → Res (ρ × ι)} (Fu : Fun K x qual st f fd) (S : FnScope N ps (defScope st)) (L0 : Addr → τ → List (Option Asr)) (hl : ∀ (vs : List V) (R : Hp) (p : Addr) (a : τ), RepA.rep K mg R vs a → (V.ref p :: vs).length = ps.length ∧ Paired (SlotOk R) (L0 p a) (start N (V.ref p :: vs)))
    (body : ∀ (cdv : Value) (A : Around) (outer : List Env) (s : Shared) (H : Hp) (Av : List Addr) (E : XK) (p : Addr) (xs : ι) (a : τ), Room k (A.deeper (envOfC qual (defScope st) s.heap.objs.size f cdv)) →
      PSs (cxOf CX0 P w K mg base N qual (defScope st) f cdv A outer s H E).nox (defBody st) (tT (F2 K mg H Av E0 p) (L0 p a) [ow K mg p xs] (mir xs a) (rI (F2 K mg H Av E0 p) p))) :
    FnOk P w K mg base CX0 (k + 1) f fd ps (spI K mg mir) := by
  refine Fu.ok S (fun vs H Q E ⟨p, a, A, xs, us, ob, _, _, e, h, _⟩ => by rw [e]; exact (hl us _ p a h).1) (fun cdv A outer s H vs Q E hr ⟨p, a, Av, xs, us, ob, hA, hp, e, h, h1, h2, q⟩ => ⟨_, body cdv A outer s H Av E p xs a hr, ⟨?_, go_startI hA hp h1 h2⟩, ?_⟩)
  · rw [e]
    exact (hl us _ p a h).2
  · refine q.mono (fun r k v H' ⟨g, r'⟩ => ?_) fun H' g => g
    obtain ⟨vs', h3, h4⟩ := g.objs _ List.mem_cons_self
    exact k v H' vs' (fun x o h hx => g.keep x o h (fun z => hx (List.mem_singleton.mp z))) h3 h4 r'
end
section
variable {X : Cx} {F : Fr} {L : List (Option Asr)} {O : List Own} {p : Addr} {τ ρ α ι : Type} [RepA τ] [Rep ρ] [Rep α] [OwR ι] {xs : ι}
variable {k : Nat} {ps : List Str} {x y : Str} {p1 p2 pos : Pos} {e : Expr} {es : List Expr}
/-! arguments -/
theorem ea_p {b : Bool} {es : List Expr} {m : Res τ} (hO : List.Sublist F.O0 (ow F.K F.mg p xs :: O)) (h : PA X es (tA b F L (ow F.K F.mg p xs :: O) m)) : PA X es (tEA b F L p xs O (m.bind fun a => .ok (a, xs))) := pa_imp h fun σ H Q ⟨g, q⟩ => by
  rw [out_bind] at q
  exact ⟨g, q.mono (fun a k vs H' g' s r => k vs H' g' (.of s) r) fun H' ⟨a, _⟩ => a.go.sub hO⟩
theorem pa_ex {δ : Type} {es : List Expr} {t : δ → TA} (h : ∀ b, PA X es (t b)) : PA X es (fun σ H Q => ∃ b, t b σ H Q) := ⟨fun pos pins s σ H Q I ⟨b, q⟩ => (h b).run pos pins s σ H Q I q⟩
theorem ea_cons [Flat α] {e : Expr} {es : List Expr} {ma : Res (α × ι)} {mr : ι → Res (τ × ι)} (he : PE X e (tE true F L p xs O ma)) (hr : ∀ xs', PA X es (tEA true F L p xs' O (mr xs'))) (hs : starEach (e :: es) X.env = (false, eval e X.env) :: starEach es X.env := by rfl) :
    PA X (e :: es) (tEA true F L p xs O (ma.bind fun u => (mr u.2).bind fun w => .ok (Ar.mk u.1 w.1, w.2))) := pa_imp (pa_cons he (pa_ex hr) hs) fun σ H Q ⟨g, q⟩ => by
  rw [out_bind] at q
  refine ⟨g, q.mono (fun u qx v1 H1 g1 s1 r1 => ?_) fun _ z => z⟩
  rw [out_bind] at qx
  refine ⟨u.2, g1, qx.mono (fun w qy v2 H2 g2 s2 r2 => ?_) fun _ z => z⟩
  exact qy _ H2 g2 (s1.trans s2) ⟨v1, v2, rfl, Flat.iff.mpr (Flat.iff.mp r1), r2⟩
/-- a pure argument, whose value stands outside the list -/
theorem ea_consP {e : Expr} {es : List Expr} {ma : Res α} {mr : Res (τ × ι)} (hO : List.Sublist F.O0 (ow F.K F.mg p xs :: O)) (he : PE X e (tP true F L (ow F.K F.mg p xs :: O) ma)) (hr : PA X es (tEA true F L p xs O mr)) (hs : starEach (e :: es) X.env = (false, eval e X.env) :: starEach es X.env := by rfl) :
    PA X (e :: es) (tEA true F L p xs O (ma.bind fun u => mr.bind fun w => .ok (Ar.mk u w.1, w.2))) := pa_imp (pa_cons he hr hs) fun σ H Q ⟨g, q⟩ => by
  rw [out_bind] at q
  refine ⟨g, q.mono (fun u qx v1 H1 g1 s1 r1 => ?_) fun H' ⟨a, _⟩ => a.go.sub hO⟩
  rw [out_bind] at qx
  refine ⟨g1, qx.mono (fun w qy v2 H2 g2 s2 r2 => ?_) fun _ z => z⟩
  refine qy _ H2 g2 ((KeepBut.of s1).trans s2) ⟨v1, v2, rfl, Rep.mono (fun a o z => ?_) r1, r2⟩
  have hb : a ∉ addrs (ow F.K F.mg p xs :: O) ++ F.A := fun y => by
    have z' : less H1 _ a = some o := z
    rw [less_in y] at z'
    cases z'
  have z' : less H1 (addrs (ow F.K F.mg p xs :: O) ++ F.A) a = some o := z
  rw [less_out hb] at z'
  show less H2 (addrs (ow F.K F.mg p w.2 :: O) ++ F.A) a = some o
  rw [less_out (show a ∉ addrs (ow F.K F.mg p w.2 :: O) ++ F.A from hb)]
  exact s2 _ _ z' (fun y => hb (by rw [y]; exact List.mem_append_left _ List.mem_cons_self))
/-- f(pool, ..) -/
theorem e_call {mir : ι → τ → Res (ρ × ι)} {m : Res (τ × ι)} (i : Nat) (D : DefAt X.prog X.w X.K X.mg X.base CX0 k x ps (spI X.K X.mg mir)) (hr : Room k X.A) (hL : L[i]? = some (rf p)) (ha : PA X es (tEA true F L p xs O m)) (hg : Gl X x := by rfl) (hE : F.E = E0 := by rfl) (hO0 : F.O0 = [] := by rfl) (hK : X.K = F.K := by rfl) (hM : X.mg = F.mg := by rfl) (hd : (x == ("__debug__" : Str)) = false := by decide)
    (hN : X.N[i]? = some y := by rfl) (hv : Vis X.env.scope y := by first | exact Or.inl rfl | exact Or.inr (Or.inl rfl) | exact Or.inr (Or.inr rfl)) (hd2 : (y == ("__debug__" : Str)) = false := by decide) (hcd : (y == ("__classdict__" : Str)) = false := by decide)
    (hs : starEach (.Name y p2 :: es) X.env = (false, eval (.Name y p2) X.env) :: starEach es X.env := by rfl) (hs2 : ((backTo pos (starEach es X.env)).any fun x => x.fst) = false := by rfl) : PE X (.Call (.Name x p1) (.Name y p2 :: es) [] pos) (tE true F L p xs O (m.bind fun u => mir u.2 u.1)) := by
  obtain ⟨f, fd, h1, h2, h3, h4⟩ := D.ex
  refine pe_imp (pe_call h1 hr hg h2 h3 h4 .nil pass0 (pa_cons (pe_var hN hv hd2 hcd) ha hs) hd hs hs2) fun σ H Q ⟨g, q⟩ => ?_
  rw [out_bind] at q
  obtain ⟨w, h5, h6⟩ := g.slot hL
  refine ⟨w, h5, g, q.mono (fun u qa vs H1 g1 s1 r1 => ?_) fun _ z => z⟩
  obtain ⟨ws, h7, h8⟩ := g1.go.objs _ List.mem_cons_self
  have e1 : w = V.ref p := h6
  subst e1
  show spI X.K X.mg mir ((V.ref p :: vs) ++ []) H1 Q E0
  rw [List.append_nil, hK, hM]
  have hmem : ∀ a ∈ addrs O ++ F.A, H1 a ≠ none := fun a ha z => g1.go.out z (List.mem_cons_of_mem _ ha)
  have hpn : p ∉ addrs O ++ F.A := fun z => by
    rcases List.mem_append.mp z with z | z
    · exact (List.nodup_cons.mp (show (p :: addrs O).Nodup from g1.go.nd)).1 z
    · exact g1.go.apart _ List.mem_cons_self z
  refine ⟨p, u.1, addrs O ++ F.A, u.2, vs, ws, hmem, hpn, rfl, r1, h7, h8, ?_⟩
  have back : ∀ {H' : Hp} {ys : ι} {ws' : HO}, KeepBut p H1 H' → H' p = some ws' → OwR.P F.K F.mg (less H' (p :: (addrs O ++ F.A))) ws' ys → G F L (ow F.K F.mg p ys :: O) σ H' := fun {H' ys ws'} kb hp' rr => by
    have er : Same (rg F (ow F.K F.mg p u.2 :: O) H1) (rg F (ow F.K F.mg p ys :: O) H') := fun a o z => by
      have hb : a ∉ addrs (ow F.K F.mg p u.2 :: O) ++ F.A := fun y => by unfold rg at z; rw [less_in y] at z; cases z
      unfold rg at z ⊢
      rw [less_out hb] at z
      rw [less_out (show a ∉ addrs (ow F.K F.mg p ys :: O) ++ F.A from hb)]
      exact kb _ _ z (fun y => hb (by rw [y]; exact List.mem_append_left _ List.mem_cons_self))
    refine ⟨L2.Paired.mapP g1.slots fun _ _ z => z.mono er, ?_⟩
    exact {
      objs := fun w hw => by
        rcases List.mem_cons.mp hw with rfl | hw
        · exact ⟨_, hp', rr⟩
        · obtain ⟨o, ho, q⟩ := g1.go.objs w (List.mem_cons_of_mem _ hw)
          exact ⟨o, kb _ _ ho (fun y => hpn (by rw [← y]; exact List.mem_append_left _ (List.mem_map.mpr ⟨w, hw, rfl⟩))), w.mono er q⟩
      nd := g1.go.nd
      own := fun w hw => by
        rcases List.mem_cons.mp hw with rfl | hw
        · exact g1.go.own (ow F.K F.mg p u.2) List.mem_cons_self
        · exact g1.go.own w (List.mem_cons_of_mem _ hw)
      keep := fun a o h hw => by
        refine kb _ _ (g1.go.keep a o h hw) fun y => ?_
        subst y
        rcases g1.go.own _ List.mem_cons_self with z | z
        · exact hw z
        · have z' : F.H0 a = none := z
          rw [z'] at h; cases h
      live := fun a h => by
        by_cases hne : a = p
        · subst hne; rw [hp']; simp
        · cases z : H1 a with
          | none => exact (g1.go.live a h z).elim
          | some o => rw [kb _ _ z hne]; simp
      hid := g1.go.hid
      apart := fun w hw => by
        rcases List.mem_cons.mp hw with rfl | hw
        · exact g1.go.apart (ow F.K F.mg p u.2) List.mem_cons_self
        · exact g1.go.apart w (List.mem_cons_of_mem _ hw)
      facts := fun z hz => z.mono er (g1.go.facts z hz) }
  cases e : mir u.2 u.1 with
  | ok r =>
    rw [e] at qa
    exact fun v H' ws' kb h9 h10 h11 => qa v H' (back kb h9 h10) (s1.trans kb) h11
  | err c fs =>
    rw [e] at qa
    rw [← hE]
    exact fun C d H' h9 h10 h12 => qa C d H' h9 (h10.older g1.go.live) (by
      rw [XPS, hO0]
      exact {
        objs := fun _ h => (List.not_mem_nil h).elim
        nd := List.nodup_nil
        own := fun _ h => (List.not_mem_nil h).elim
        keep := fun a o h hw => by
          have hne : a ≠ p := fun y => by
            subst y
            rcases g1.go.own _ List.mem_cons_self with z | z
            · exact hw z
            · have z' : F.H0 a = none := z
              rw [z'] at h; cases h
          exact h12.keep a o (g1.go.keep a o h hw) (fun z => hne (List.mem_singleton.mp z))
        live := fun a h => h12.live a (g1.go.live a h)
        hid := g1.go.hid
        apart := fun _ h => (List.not_mem_nil h).elim
        facts := fun z hz => z.mono (fun a o y => by
          have hb : a ∉ addrs (ow F.K F.mg p u.2 :: O) ++ F.A := fun y' => by unfold rg at y; rw [less_in y'] at y; cases y
          unfold rg at y ⊢
          rw [less_out hb] at y
          rw [show addrs ([] : List Own) ++ F.A = F.A from rfl, less_out (fun y' => hb (List.mem_append_right _ y'))]
          exact h12.keep a o y (fun z => hb (by rw [List.mem_singleton.mp z]; exact List.mem_append_left _ List.mem_cons_self))) (g1.go.facts z hz) })
  | bad =>
    rw [e] at qa
    exact qa.elim
/-! handing back from a def that changes p -/
theorem b_retI {m : Res ρ} {e : Expr} {pos : Pos} (he : PE X e (tP true F L O m)) (hO1 : List.Sublist [ow F.K F.mg p xs] O) (hO : List.Sublist F.O0 O) : PSs X [.Return (some e) pos] (tT F L O (m.bind fun a => .ok (a, xs)) (rI F p)) := pss_one (ps_imp (ps_ret he) fun D σ H ⟨g, q⟩ => by
  rw [out_bind] at q
  exact ⟨g, q.mono (fun a k v H1 g1 s1 r1 => k v H1 ⟨g1.go.sub hO1, Rep.mono (rg_sub hO1) r1⟩) fun H' ⟨a, _⟩ => a.go.sub hO⟩)
theorem b_retE {m : Res (ρ × ι)} {e : Expr} {pos : Pos} (he : PE X e (tE true F L p xs O m)) : PSs X [.Return (some e) pos] (tT F L (ow F.K F.mg p xs :: O) m (rI F p)) := pss_one (ps_imp (ps_ret he) fun D σ H ⟨g, q⟩ =>
  ⟨g, q.mono (fun r k v H1 g1 s1 r1 => k v H1 ⟨g1.go.sub (.cons₂ _ (List.nil_sublist _)), Rep.mono (rg_sub (.cons₂ _ (List.nil_sublist _))) r1⟩) fun _ z => z⟩)
/-- an owned list (at q) handed back as a value -/
theorem b_retOI {as : List α} {q : Addr} {z : Str} {pos' pos : Pos} (i : Nat) (hL : L[i]? = some (rf q)) (hm : ow F.K F.mg q as ∈ O) (hO1 : List.Sublist [ow F.K F.mg p xs] O) (hne : (ow F.K F.mg p xs :: ow F.K F.mg q as :: []).Sublist O ∨ (ow F.K F.mg q as :: ow F.K F.mg p xs :: []).Sublist O) (hO : List.Sublist F.O0 O) (hN : X.N[i]? = some z := by rfl) (hv : Vis X.env.scope z := by first | exact Or.inl rfl | exact Or.inr (Or.inl rfl) | exact Or.inr (Or.inr rfl)) (hd : (z == ("__debug__" : Str)) = false := by decide)
    (hcd : (z == ("__classdict__" : Str)) = false := by decide) : PSs X [.Return (some (.Name z pos')) pos] (tT F L O (.ok (as, xs)) (rI F p)) := pss_one (ps_imp (ps_ret (pe_var hN hv hd hcd)) fun D σ H ⟨g, k⟩ => by
  obtain ⟨v, h1, h2⟩ := g.slot hL
  obtain ⟨o, h3, vs, h4, h5⟩ := g.go.objs _ hm
  subst h4
  refine ⟨v, h1, k v H ⟨g.go.sub hO1, q, vs, h2, ?_, h5.mono (rg_sub hO1)⟩⟩
  have nq : q ≠ p := by
    rcases hne with hne | hne
    · have nd := g.go.nd.sublist (hne.map Own.a)
      have nd' : [p, q].Nodup := nd
      intro e
      subst e
      simp at nd'
    · have nd := g.go.nd.sublist (hne.map Own.a)
      have nd' : [q, p].Nodup := nd
      intro e
      subst e
      simp at nd'
  show less H _ q = some (.lst vs)
  rw [less_out]
  · exact h3
  · intro y
    rcases List.mem_cons.mp (show q ∈ p :: F.A from y) with y | y
    · exact nq y
    · exact g.go.apart _ hm y)
end
end NF

set_option Elab.async false
set_option linter.all false
set_option maxRecDepth 100000
/-! Nf11: the operators that change the list; further statements. -/
namespace NF
open PySem PySem.Spec PyProof.Rows L2
open Data (toD)
section
variable {X : Cx} {F : Fr} {L : List (Option Asr)} {p : Addr} {O : List Own} {α β γ ι s : Type} [Rep α] [Rep β] [Rep γ] [OwR ι] [Rep s] {xs : ι}
section
variable {x y : Expr} {pos : Pos} {b1 b2 b3 : Bool} {ma : Res (Int × ι)} {mb : ι → Res (Int × ι)}
variable (hx : PE X x (tE b1 F L p xs O ma)) (hy : ∀ xs', PE X y (tE b2 F L p xs' O (mb xs'))) (hO : ∀ xs' : ι, List.Sublist F.O0 (ow F.K F.mg p xs' :: O))
include hx hy hO
theorem e_add : PE X (.BinOp x .Add y pos) (tE b3 F L p xs O (ma.bind fun u => (mb u.2).bind fun w => .ok (u.1 + w.1, w.2))) := ne2 (pe_op op_add) hx hy (fun _ => rr_I0 (g := fun x y => x + y)) hO
theorem e_sub : PE X (.BinOp x .Sub y pos) (tE b3 F L p xs O (ma.bind fun u => (mb u.2).bind fun w => .ok (u.1 - w.1, w.2))) := ne2 (pe_op op_sub) hx hy (fun _ => rr_I0 (g := fun x y => x - y)) hO
theorem e_mul : PE X (.BinOp x .Mult y pos) (tE b3 F L p xs O (ma.bind fun u => (mb u.2).bind fun w => (need (CMul u.1 w.1) (.ok (u.1 * w.1))).bind fun z => .ok (z, w.2))) := ne2 (pe_op op_mul) hx hy (fun _ => rr_I (g := fun x y => x * y)) hO
theorem e_mod : PE X (.BinOp x .Mod y pos) (tE b3 F L p xs O (ma.bind fun u => (mb u.2).bind fun w => (need (0 < w.1) (.ok (u.1 % w.1))).bind fun z => .ok (z, w.2))) := ne2 (pe_op op_mod) hx hy (fun _ => rr_I (C := fun _ y => 0 < y) (g := fun x y => x % y)) hO
theorem e_fdiv : PE X (.BinOp x .FloorDiv y pos) (tE b3 F L p xs O (ma.bind fun u => (mb u.2).bind fun w => (need (CDiv u.1 w.1) (.ok (u.1 / w.1))).bind fun z => .ok (z, w.2))) := ne2 (pe_op op_fdiv) hx hy (fun _ => rr_I (g := fun x y => x / y)) hO
theorem et_eq : PT X (.Compare x [.Eq] [y] pos) (tEB F L p xs O (ma.bind fun u => (mb u.2).bind fun w => .ok (decide (u.1 = w.1), w.2))) := ne2t (mc := fun x y => .ok (decide (x = y))) (fun h1 h2 => pt_cmpR op_eq h1 h2 (nomark _)) hx hy (fun _ x y vx vy H σ Q g rx ry q => by
  cases rx; cases ry
  exact ⟨rfl, by rw [show decide (V.int x = V.int y) = decide (x = y) by simp]; exact kp_flat g q⟩) hO
theorem et_ne : PT X (.Compare x [.NotEq] [y] pos) (tEB F L p xs O (ma.bind fun u => (mb u.2).bind fun w => .ok (!decide (u.1 = w.1), w.2))) := ne2t (mc := fun x y => .ok (!decide (x = y))) (fun h1 h2 => pt_cmpR op_ne h1 h2 (nomark _)) hx hy (fun _ x y vx vy H σ Q g rx ry q => by
  cases rx; cases ry
  exact ⟨rfl, by rw [show decide (V.int x = V.int y) = decide (x = y) by simp]; exact kp_flat g q⟩) hO
theorem et_lt : PT X (.Compare x [.Lt] [y] pos) (tEB F L p xs O (ma.bind fun u => (mb u.2).bind fun w => .ok (decide (u.1 < w.1), w.2))) := ne2t (mc := fun x y => .ok (decide (x < y))) (fun h1 h2 => pt_cmpR op_lt h1 h2 (nomark _)) hx hy (fun _ => rr_I0 (g := fun x y => decide (x < y))) hO
theorem et_gt : PT X (.Compare x [.Gt] [y] pos) (tEB F L p xs O (ma.bind fun u => (mb u.2).bind fun w => .ok (decide (w.1 < u.1), w.2))) := ne2t (mc := fun x y => .ok (decide (y < x))) (fun h1 h2 => pt_cmpR op_gt h1 h2 (nomark _)) hx hy (fun _ => rr_I0 (g := fun x y => decide (y < x))) hO
end
theorem ec2 [Flat α] [Flat β] {e : Expr} {b1 b2 b3 : Bool} {r : List V → Hp → VK → Prop} {ma : Res (α × ι)} {mb : ι → Res (β × ι)} {mc : α → β → Res γ} {t1 t2 : TE}
    (h : PE X e (tCB r (tCons (tE b1 F L p xs O ma) (tCons (fun σ H Q => ∃ xs', tE b2 F L p xs' O (mb xs') σ H Q) tNil))))
    (hr : ∀ xs' : ι, ∀ x y vx vy H σ Q, G F L (ow F.K F.mg p xs' :: O) σ H → rp F (rgn true F (ow F.K F.mg p xs' :: O) H) vx x → rp F (rgn true F (ow F.K F.mg p xs' :: O) H) vy y → Out F (mc x y) (KP γ b3 F L (ow F.K F.mg p xs' :: O) σ H Q) (XP F L (ow F.K F.mg p xs' :: O) σ H) → r [vx, vy] H Q) (hO : ∀ xs' : ι, List.Sublist F.O0 (ow F.K F.mg p xs' :: O)) :
    PE X e (tE b3 F L p xs O (ma.bind fun u => (mb u.2).bind fun w => (mc u.1 w.1).bind fun z => .ok (z, w.2))) := pe_imp h fun σ H Q ⟨g, q⟩ => by
  rw [out_bind] at q
  refine ⟨g, q.mono (fun u qx v1 H1 g1 s1 r1 => ?_) fun _ z => z⟩
  rw [out_bind] at qx
  refine ⟨u.2, g1, qx.mono (fun w qy v2 H2 g2 s2 r2 => ?_) fun _ z => z⟩
  rw [out_bind] at qy
  exact hr w.2 u.1 w.1 v1 v2 H2 σ Q g2 (Flat.iff.mpr (Flat.iff.mp r1)) (Flat.iff.mpr (Flat.iff.mp r2)) (qy.mono (fun z kz v H' g' s' r' => kz v H' g' ((s1.trans s2).trans (.of s')) r') fun H' ⟨a, b⟩ => a.go.sub (hO _))
/-- int(e), e an int -/
theorem e_int1 {e : Expr} {b1 b3 : Bool} {m : Res (Int × ι)} {es} (h : PE X e (tCB es (tCons (tE b1 F L p xs O m) tNil))) (er : es = fun xs H Q => (∃ i, xs = [V.int i] ∧ Q (.int i) H) ∨ ∃ k, xs = [V.bl k] ∧ Q (.int (if k then 1 else 0)) H) (hO : ∀ xs' : ι, List.Sublist F.O0 (ow F.K F.mg p xs' :: O)) : PE X e (tE b3 F L p xs O (m.bind fun u => .ok (u.1, u.2))) := ec1 (mc := fun i => .ok i) h (fun xs' x vx H σ Q g rx q => by
  subst er; cases rx; exact .inl ⟨x, rfl, kp_flat (α := Int) g q⟩) hO
theorem e_max2 {e : Expr} {b1 b2 b3 : Bool} {ma : Res (Int × ι)} {mb : ι → Res (Int × ι)} {es} (h : PE X e (tCB es (tCons (tE b1 F L p xs O ma) (tCons (fun σ H Q => ∃ xs', tE b2 F L p xs' O (mb xs') σ H Q) tNil)))) (er : es = fun xs H Q => ∃ i j, xs = [V.int i, V.int j] ∧ Q (.int (if j > i then j else i)) H) (hO : ∀ xs' : ι, List.Sublist F.O0 (ow F.K F.mg p xs' :: O)) : PE X e (tE b3 F L p xs O (ma.bind fun u => (mb u.2).bind fun w => .ok (if w.1 > u.1 then w.1 else u.1, w.2))) := ec2 (mc := fun i j => .ok (if j > i then j else i)) (t1 := tC .non) (t2 := tC .non) h (fun xs' x y vx vy H σ Q g rx ry q => by
  subst er; cases rx; cases ry; exact ⟨x, y, rfl, kp_flat (α := Int) g q⟩) hO
theorem e_min2 {e : Expr} {b1 b2 b3 : Bool} {ma : Res (Int × ι)} {mb : ι → Res (Int × ι)} {es} (h : PE X e (tCB es (tCons (tE b1 F L p xs O ma) (tCons (fun σ H Q => ∃ xs', tE b2 F L p xs' O (mb xs') σ H Q) tNil)))) (er : es = fun xs H Q => ∃ i j, xs = [V.int i, V.int j] ∧ Q (.int (if j < i then j else i)) H) (hO : ∀ xs' : ι, List.Sublist F.O0 (ow F.K F.mg p xs' :: O)) : PE X e (tE b3 F L p xs O (ma.bind fun u => (mb u.2).bind fun w => .ok (if w.1 < u.1 then w.1 else u.1, w.2))) := ec2 (mc := fun i j => .ok (if j < i then j else i)) (t1 := tC .non) (t2 := tC .non) h (fun xs' x y vx vy H σ Q g rx ry q => by
  subst er; cases rx; cases ry; exact ⟨x, y, rfl, kp_flat (α := Int) g q⟩) hO
theorem ew_and1 {x : Expr} {pos : Pos} {m : Res (Bool × ι)} (h : PT X x (tEB F L p xs O m)) : PW X (.BoolOp .And [x] pos) (tEB F L p xs O m) := pw_and1 h
theorem ew_or1 {x : Expr} {pos : Pos} {m : Res (Bool × ι)} (h : PT X x (tEB F L p xs O m)) : PW X (.BoolOp .Or [x] pos) (tEB F L p xs O m) := pw_or1 h
/-! ifs whose tests change the list -/
section
variable {D' B : Type} {Ret : D' → V → Hp → Prop} {c : Expr} {mc : Res (Bool × ι)} {body orelse rest : List Stmt} {pos : Pos} {L' : B → List (Option Asr)} {O' : B → List Own}
theorem be_if {m1 m2 : ι → Res D'} (hc : PT X c (tEB F L p xs O mc)) (hb : ∀ xs', PSs X body (tT F L (ow F.K F.mg p xs' :: O) (m1 xs') Ret)) (hr : ∀ xs', PSs X rest (tT F L (ow F.K F.mg p xs' :: O) (m2 xs') Ret)) : PSs X (.If c body [] pos :: rest) (tT F L (ow F.K F.mg p xs :: O) (mc.bind fun u => if u.1 then m1 u.2 else m2 u.2) Ret) := pss_imp (pss_cons (ps_if hc (pss_ex hb) pss_nil) (pss_ex hr)) fun D σ H ⟨g, q⟩ => by
  rw [out_bind] at q
  refine ⟨g, q.mono (fun u k H1 g1 s1 => ?_) fun _ z => z⟩
  cases hu : u.1 with
  | true => rw [hu] at k; exact ⟨u.2, g1, k⟩
  | false => rw [hu] at k; exact ⟨u.2, g1, k⟩
theorem se_if {m1 m2 : ι → Res B} (sp : Sp2 L' O') (hc : PT X c (tEB F L p xs O mc)) (hb : ∀ xs', PSs X body (tN F L (ow F.K F.mg p xs' :: O) (m1 xs') L' O')) (hr : ∀ xs', PSs X orelse (tN F L (ow F.K F.mg p xs' :: O) (m2 xs') L' O')) : PS X (.If c body orelse pos) (tN F L (ow F.K F.mg p xs :: O) (mc.bind fun u => if u.1 then m1 u.2 else m2 u.2) L' O') := ps_imp (ps_if hc (pss_ex hb) (pss_ex hr)) fun D σ H ⟨g, q⟩ => by
  rw [out_bind] at q
  refine ⟨g, q.mono (fun u k H1 g1 s1 => ?_) fun _ z => z⟩
  cases hu : u.1 with
  | true => rw [hu] at k; exact ⟨u.2, g1, k⟩
  | false => rw [hu] at k; exact ⟨u.2, g1, k⟩
theorem s_ifS {m1 m2 : Res B} {mc : Res Bool} {O : List Own} (sp : Sp2 L' O') (hc : PT X c (tB' F L O mc)) (hb : PSs X body (tN F L O m1 L' O')) (hr : PSs X orelse (tN F L O m2 L' O')) (hO : List.Sublist F.O0 O) : PS X (.If c body orelse pos) (tN F L O (mc.bind fun c => if c then m1 else m2) L' O') := s_if hc hb hr hO
end
/-! coercions -/
theorem n_sql {e : Expr} {b : Bool} {m : Res (List α)} (h : PE X e (tP b F L O m)) : PE X e (tP b F L O (m.bind fun x => .ok (Sq.l x))) := pe_imp h fun σ H Q ⟨g, q⟩ => by
  rw [out_bind] at q
  exact ⟨g, q.mono (fun a k v H1 g1 s1 r1 => k v H1 g1 s1 r1) fun _ z => z⟩
theorem n_sqt {e : Expr} {b : Bool} {m : Res (Tp α)} (h : PE X e (tP b F L O m)) : PE X e (tP b F L O (m.bind fun x => .ok (Sq.t x.xs))) := pe_imp h fun σ H Q ⟨g, q⟩ => by
  rw [out_bind] at q
  exact ⟨g, q.mono (fun a k v H1 g1 s1 r1 => k v H1 g1 s1 r1) fun _ z => z⟩
theorem n_toD [Data α] {e : Expr} {b : Bool} {m : Res α} (h : PE X e (tP b F L O m)) : PE X e (tP b F L O (m.bind fun x => .ok (toD x))) := pe_imp h fun σ H Q ⟨g, q⟩ => by
  rw [out_bind] at q
  exact ⟨g, q.mono (fun a k v H1 g1 s1 r1 => k v H1 g1 s1 (Data.dp r1)) fun _ z => z⟩
/-- a, b = e -/
theorem s_unp {x y : Str} {e : Expr} {px py pt pos : Pos} {kk : Nat} (i j : Nat) (hij : i ≠ j) [Flat α] [Flat β] (hc : X.calm = true) (hN : X.N.Nodup) (hO : List.Sublist F.O0 O) {b : Bool} {m : Res (α × β)} (he : PE X e (tP b F L O m))
    (hi : X.N[i]? = some x := by rfl) (hj : X.N[j]? = some y := by rfl) (hx : L2.Loc X.env.scope x := by first | exact .inl rfl | exact .inr rfl) (hy : L2.Loc X.env.scope y := by first | exact .inl rfl | exact .inr rfl)
    (hf : X.fn x = true ∨ X.env.scope.names.lookup x = some .local := by first | exact .inl rfl | exact .inr rfl) (hf2 : X.fn y = true ∨ X.env.scope.names.lookup y = some .local := by first | exact .inl rfl | exact .inr rfl) (hK : X.K = F.K := by rfl)
    (h1 : (assignEach [.Name x px, .Name y py] X.env).map (·.2) = assign (.Name x px) X.env :: (assignEach [.Name y py] X.env).map (·.2) := by rfl) (h2 : (assignEach [.Name y py] X.env).map (·.2) = assign (.Name y py) X.env :: (assignEach [] X.env).map (·.2) := by rfl)
    (hn : (assignEach [.Name x px, .Name y py] X.env).length = 2 := by rfl) (hst : (assignEach [.Name x px, .Name y py] X.env).findIdx? (·.1) = none := by rfl)
    (hs : swapsWithSole [.Tuple [.Name x px, .Name y py] kk pt] e pos.line X.env = pure false := by rfl) (hw : swappedStores [.Tuple [.Name x px, .Name y py] kk pt] e X.env = pure none := by rfl) (h3 : (assignEach [.Tuple [.Name x px, .Name y py] kk pt] X.env).map (·.2) = [assign (.Tuple [.Name x px, .Name y py] kk pt) X.env] := by rfl) :
    PS X (.Assign [.Tuple [.Name x px, .Name y py] kk pt] e pos) (tN F L O m (fun ab => (L.set i (vl F.K F.mg ab.1)).set j (vl F.K F.mg ab.2)) (fun _ => O)) := ps_imp (ps_asg he (pg_tup hc (pgs_cons (pg_name hN hi hx hf) (pgs_cons (pg_name hN hj hy hf2) pgs_nil h2) h1) hn hst) hs hw h3) fun D σ H ⟨g, q⟩ =>
  ⟨g, q.mono (fun ab k v H1 g1 s1 r1 => by
    obtain ⟨p, v1, v2, rfl, h2, h3, h4⟩ := r1
    rw [hK]
    exact ⟨p, _, rfl, same_t rgn_sub h2, rfl, v1, _, rfl, v2, _, rfl, rfl, k _ _ ⟨set_ok (p := vl F.K F.mg ab.2) (Flat.iff.mpr (Flat.iff.mp h4)) j (set_ok (p := vl F.K F.mg ab.1) (Flat.iff.mpr (Flat.iff.mp h3)) i g1.slots), g1.go⟩⟩) fun H' ⟨a, _⟩ => a.go.sub hO⟩
/-- x op= e -/
theorem s_aug {x : Str} {e : Expr} {op : Operator} {pos pos' : Pos} {f : Int → Int → Int} (i : Nat) {a : Int} (hN : X.N.Nodup) (hO : List.Sublist F.O0 O) (hL : L[i]? = some (vl F.K F.mg a)) {b : Bool} {m : Res Int} (hop : PIp X op (ipI f)) (he : PE X e (tP b F L O m)) (hi : X.N[i]? = some x := by rfl) (hx : L2.Loc X.env.scope x := by first | exact .inl rfl | exact .inr rfl) (hf : X.fn x = true ∨ X.env.scope.names.lookup x = some .local := by first | exact .inl rfl | exact .inr rfl) :
    PS X (.AugAssign (.Name x pos') op e pos) (tN F L O (m.bind fun c => .ok (f a c)) (fun c => L.set i (vl F.K F.mg c)) (fun _ => O)) := ps_imp (ps_aug (i := i) hN hi hx he hop hf) fun D σ H ⟨g, q⟩ => by
  rw [out_bind] at q
  obtain ⟨w, h1, h2⟩ := g.slot hL
  have h2' : w = V.int a := h2
  exact ⟨w, h1, g, q.mono (fun c k v H1 g1 s1 r1 => ⟨a, c, h2', r1, k _ _ ⟨set_ok (p := vl F.K F.mg (f a c)) rfl i g1.slots, g1.go⟩⟩) fun H' ⟨a, _⟩ => a.go.sub hO⟩
/-- x.insert(i, e) -/
theorem s_ins {ε : Type} [Rep ε] {xs : List ε} {x : Str} {ie e : Expr} {pos pos1 pos2 cpos : Pos} (i : Nat) (hL : L[i]? = some (rf p)) {b : Bool} {mi : Res Int} {m : Res ε} (hO : List.Sublist F.O0 (ow F.K F.mg p xs :: O)) (hi : PE X ie (tP b F L (ow F.K F.mg p xs :: O) mi)) (he : PE X e (tP true F L (ow F.K F.mg p xs :: O) m))
    (h : ∀ {to : TE} {t : TA} {r : V → List V → Hp → VK → Prop}, MtR X "list.insert" r → PE X (.Name x pos1) to → PA X [ie, e] t → PE X (.Call (.Attribute (.Name x pos1) "insert" pos2) [ie, e] [] cpos) (tBM X.K "list" r to t)) (hs1 : starEach [ie, e] X.env = (false, eval ie X.env) :: starEach [e] X.env := by rfl) (hs2 : starEach [e] X.env = (false, eval e X.env) :: starEach [] X.env := by rfl)
    (hN : X.N[i]? = some x := by rfl) (hv : Vis X.env.scope x := by first | exact Or.inl rfl | exact Or.inr (Or.inl rfl) | exact Or.inr (Or.inr rfl)) (hd : (x == ("__debug__" : Str)) = false := by decide) (hcd : (x == ("__classdict__" : Str)) = false := by decide)
    (hs : swapsWith (.Call (.Attribute (.Name x pos1) "insert" pos2) [ie, e] [] cpos) none pos.line X.env = pure false := by rfl) :
    PS X (.Expr (.Call (.Attribute (.Name x pos1) "insert" pos2) [ie, e] [] cpos) pos) (tN F L (ow F.K F.mg p xs :: O) (mi.bind fun j => m.bind fun a => need (xs.length < sizeLine ∧ Ps63 j) (.ok (xs.take j.toNat ++ [a] ++ xs.drop j.toNat))) (fun _ => L) (fun ys => ow F.K F.mg p ys :: O)) := ps_imp (ps_expr (h mt_insert (pe_var hN hv hd hcd) (pa_cons hi (pa_cons he pa_nil hs2) hs1)) hs) fun D σ H ⟨g, q⟩ => by
  obtain ⟨w, h4, h5⟩ := g.slot hL
  obtain ⟨vs, h6, h7⟩ := g.head
  rw [out_bind] at q
  refine ⟨w, h4, ?_, g, q.mono (fun j k vj H1 g1 s1 r1 => ?_) fun H' ⟨a, _⟩ => a.go.sub hO⟩
  · rw [show w = V.ref p from h5]
    exact .inl ⟨rfl, _, .of h6⟩
  · rw [out_bind] at k
    refine ⟨g1, k.mono (fun a k v H2 g2 s2 r2 => ?_) fun H' ⟨a, _⟩ => a.go.sub hO⟩
    rw [out_need] at k
    obtain ⟨vs', h8, h9⟩ := g2.head
    have r1' : vj = V.int j := r1
    refine ⟨p, vs', j, v, h5, by rw [r1'], h8, by rw [h9.length]; exact k.1.1, k.1.2.1, k.1.2.2, ?_⟩
    exact k.2 σ _ (g_upd g2 (reps_append (reps_append (reps_take _ h9) (.cons r2 .nil)) (reps_drop _ h9))).1
/-- x.append(e), e changing the list at p, x the list at q -/
theorem s_appE {x : Str} {e : Expr} {pos pos1 pos2 cpos : Pos} {q : Addr} {ys : List α} (i : Nat) (hL : L[i]? = some (rf q)) {m : Res (α × ι)} (hO : ∀ (xs' : ι), List.Sublist F.O0 (ow F.K F.mg p xs' :: ow F.K F.mg q ys :: O)) (he : PE X e (tE true F L p xs (ow F.K F.mg q ys :: O) m))
    (h : ∀ {to : TE} {t : TA}, PE X (.Name x pos1) to → PA X [e] t → PE X (.Call (.Attribute (.Name x pos1) "append" pos2) [e] [] cpos) (tBM X.K "list" rAppend to t)) (hs1 : starEach [e] X.env = (false, eval e X.env) :: starEach [] X.env := by rfl)
    (hN : X.N[i]? = some x := by rfl) (hv : Vis X.env.scope x := by first | exact Or.inl rfl | exact Or.inr (Or.inl rfl) | exact Or.inr (Or.inr rfl)) (hd : (x == ("__debug__" : Str)) = false := by decide) (hcd : (x == ("__classdict__" : Str)) = false := by decide)
    (hs : swapsWith (.Call (.Attribute (.Name x pos1) "append" pos2) [e] [] cpos) none pos.line X.env = pure false := by rfl) :
    PS X (.Expr (.Call (.Attribute (.Name x pos1) "append" pos2) [e] [] cpos) pos) (tN F L (ow F.K F.mg p xs :: ow F.K F.mg q ys :: O) (m.bind fun u => need (ys.length < sizeLine) (.ok (ys ++ [u.1], u.2))) (fun _ => L) (fun z => ow F.K F.mg p z.2 :: ow F.K F.mg q z.1 :: O)) := ps_imp (ps_expr (h (pe_var hN hv hd hcd) (pa_cons he pa_nil hs1)) hs) fun D σ H ⟨g, q'⟩ => by
  obtain ⟨w, h4, h5⟩ := g.slot hL
  obtain ⟨o, h6, vs0, h60, h7⟩ := g.go.objs (ow F.K F.mg q ys) (List.mem_cons_of_mem _ List.mem_cons_self)
  subst h60
  rw [out_bind] at q'
  refine ⟨w, h4, ?_, g, q'.mono (fun u k v H1 g1 s1 r1 => ?_) fun _ z => z⟩
  · rw [show w = V.ref q from h5]
    exact .inl ⟨rfl, _, .of h6⟩
  · rw [out_need] at k
    have gp : G F L (ow F.K F.mg q ys :: ow F.K F.mg p u.2 :: O) σ H1 := g1.perm (List.Perm.swap _ _ _)
    obtain ⟨vs', h8, h9⟩ := gp.head
    refine ⟨q, vs', v, h5, rfl, h8, by rw [h9.length]; exact k.1, ?_⟩
    refine k.2 σ _ ((g_upd gp (reps_append h9 (.cons (Rep.mono (fun a o z => ?_) r1) .nil))).1.perm (List.Perm.swap _ _ _))
    have z' : less H1 (addrs (ow F.K F.mg p u.2 :: ow F.K F.mg q ys :: O) ++ F.A) a = some o := z
    show less H1 (addrs (ow F.K F.mg q ys :: ow F.K F.mg p u.2 :: O) ++ F.A) a = some o
    by_cases hb : a ∈ addrs (ow F.K F.mg p u.2 :: ow F.K F.mg q ys :: O) ++ F.A
    · rw [less_in hb] at z'; cases z'
    · rw [less_out hb] at z'
      rw [less_out]
      · exact z'
      · intro y
        apply hb
        rcases List.mem_append.mp y with y | y
        · refine List.mem_append_left _ ?_
          rcases List.mem_cons.mp y with y | y
          · rw [y]; exact List.mem_cons_of_mem _ List.mem_cons_self
          · rcases List.mem_cons.mp y with y | y
            · rw [y]; exact List.mem_cons_self
            · exact List.mem_cons_of_mem _ (List.mem_cons_of_mem _ y)
        · exact List.mem_append_right _ y
/-- xs.index(a), for ints -/
def indexR (xs : List Int) (a : Int) : Res Int := match xs.findIdx? (· == a) with
  | some j => .ok (j : Nat)
  | none => .bad
theorem n_index {o e : Expr} {apos cpos : Pos} {b1 b2 b3 : Bool} {m : Res (List Int)} {m2 : Res Int} (ho : PE X o (tP b1 F L O m)) (he : PE X e (tP b2 F L O m2))
    (h : ∀ {to : TE} {t : TA}, PE X o to → PA X [e] t → PE X (.Call (.Attribute o "index" apos) [e] [] cpos) (tBM X.K "list" (rIndex X.K) to t)) (hK : X.K = F.K := by rfl) (hs1 : starEach [e] X.env = (false, eval e X.env) :: starEach [] X.env := by rfl) :
    PE X (.Call (.Attribute o "index" apos) [e] [] cpos) (tP b3 F L O (m.bind fun xs => m2.bind fun a => indexR xs a)) := pe_imp (h ho (pa_cons he pa_nil hs1)) fun σ H Q ⟨g, q⟩ => by
  rw [out_bind] at q
  refine ⟨g, q.mono (fun xs k v H1 g1 s1 r1 => ?_) fun _ z => z⟩
  obtain ⟨p, vs, rfl, h2, h3⟩ := r1
  have e := reps_flat.mp h3
  subst e
  rw [out_bind] at k
  have h2' := rgn_sub _ _ h2
  refine ⟨.inl ⟨rfl, _, .of h2'⟩, g1, k.mono (fun a k2 v2 H2 g2 s2 r2 => ?_) fun H' ⟨a, b⟩ => ⟨a, s1.trans b⟩⟩
  unfold indexR at k2
  cases e : xs.findIdx? (· == a) with
  | none => rw [e] at k2; exact k2.elim
  | some j =>
    rw [e] at k2
    obtain ⟨hj, h4, h5⟩ := List.findIdx?_eq_some_iff_getElem.mp e
    rw [hK]
    have r2' : v2 = V.int a := r2
    subst r2'
    refine ⟨p, xs.map Flat.enc, V.int a, j, V.int xs[j], rfl, rfl, .of (s2 _ _ h2'), rfl, ?_, ?_, ?_, ?_, ?_⟩
    · rw [List.all_map]
      exact List.all_eq_true.mpr fun x _ => rfl
    · rw [List.getElem?_map, List.getElem?_eq_getElem hj]; rfl
    · have : xs[j] = a := by simpa using h4
      rw [this]
      simp [eqV]
    · intro m' z' hm hz
      rw [List.getElem?_map, List.getElem?_eq_getElem (Nat.lt_trans hm hj)] at hz
      cases hz
      have := h5 m' hm
      show (xs[m'] == a) = false
      simpa using this
    · exact k2 _ H2 g2 (s1.trans s2) rfl
end
/-- a frame with fewer facts -/
inductive FLe : Fr → Fr → Prop where
  | refl (F : Fr) : FLe F F
  | add {F F' : Fr} {z : Fact} : FLe F' F → FLe F' (F.add z)
theorem FLe.go {F F' : Fr} (h : FLe F' F) : ∀ {O : List Own} {H : Hp}, GO F O H → GO F' O H := by
  induction h with
  | refl => exact fun g => g
  | add _ ih => exact fun g => ih g.unadd
theorem FLe.eqs {F F' : Fr} (h : FLe F' F) : F'.K = F.K ∧ F'.mg = F.mg ∧ F'.A = F.A ∧ F'.H0 = F.H0 := by
  induction h with
  | refl => exact ⟨rfl, rfl, rfl, rfl⟩
  | add _ ih => exact ih
theorem FLe.rg {F F' : Fr} (h : FLe F' F) (O : List Own) (H : Hp) : NF.rg F' O H = NF.rg F O H := by
  unfold NF.rg; rw [h.eqs.2.2.1]
section
variable {F F' : Fr} {α ι : Type} [Rep α] [OwR ι]
theorem rV_le (h : FLe F' F) : ∀ (b : α) (v : V) (H : Hp), rV F b v H → rV F' b v H := fun b v H ⟨g, r⟩ => ⟨h.go g, by
  show Rep.rep F'.K F'.mg (NF.rg F' [] H) v b
  rw [h.rg, h.eqs.1, h.eqs.2.1]; exact r⟩
theorem rF_le (h : FLe F' F) : ∀ (b : List α) (v : V) (H : Hp), rF F b v H → rF F' b v H := fun b v H ⟨p, vs, e, g, h1, h2, h3, h4⟩ => ⟨p, vs, e, h.go g, by rw [h.eqs.2.2.2]; exact h1, by rw [h.eqs.2.2.1]; exact h2, h3, by
  rw [h.rg, h.eqs.1, h.eqs.2.1]; exact h4⟩
theorem rI_le {p : Addr} (h : FLe F' F) : ∀ (b : α × ι) (v : V) (H : Hp), rI F p b v H → rI F' p b v H := fun b v H ⟨g, r⟩ => by
  have e1 := h.eqs.1
  have e2 := h.eqs.2.1
  have g' := h.go g
  have hr := h.rg [ow F.K F.mg p b.2] H
  refine ⟨by rw [e1, e2]; exact g', ?_⟩
  show Rep.rep F'.K F'.mg (NF.rg F' [ow F'.K F'.mg p b.2] H) v b.1
  rw [e1, e2, hr]
  exact r
end
theorem b_le {X : Cx} {F : Fr} {L : List (Option Asr)} {O : List Own} {D' : Type} {Ret Ret' : D' → V → Hp → Prop} {st : List Stmt} {m : Res D'} (i : ∀ b v H, Ret b v H → Ret' b v H) (h : PSs X st (tT F L O m Ret)) : PSs X st (tT F L O m Ret') := pss_imp h fun D σ H ⟨g, q⟩ => ⟨g, q.mono (fun b k v H' r => k v H' (i b v H' r)) fun _ z => z⟩
theorem tT_cast {X : Cx} {F : Fr} {L : List (Option Asr)} {O : List Own} {D' : Type} {Ret : D' → V → Hp → Prop} {st : List Stmt} {m m' : Res D'} (h : PSs X st (tT F L O m Ret)) (e : m = m') : PSs X st (tT F L O m' Ret) := e ▸ h
end NF

set_option Elab.async false
set_option linter.all false
set_option maxRecDepth 100000
/-! Nf12: exceptions: defs that raise, their calls, raise. -/
namespace NF
open PySem PySem.Spec PyProof.Rows L2
open Data (toD)
/-- what is raised here is let out as F wishes -/
def TkX (X : Cx) (F : Fr) (L : List (Option Asr)) (O : List Own) : Prop := ∃ W : WX, L2N.Takes X W ∧ ∀ c d σ H, F.E c d H → G F L O σ H → W c d σ H
theorem TkX.to {X : Cx} {F : Fr} {L L' : List (Option Asr)} {O O' : List Own} (t : TkX X F L' O') (h : wk L L') (ho : List.Sublist O' O) : TkX X F L O := by
  obtain ⟨W, tk, q⟩ := t
  exact ⟨W, tk, fun c d σ H e g => q c d σ H e (g.to h ho)⟩
theorem takes0N {X : Cx} : L2N.Takes X (fun _ _ _ _ => False) := fun _ _ x => by
  obtain ⟨_, _, _, _, _, _, _, _, _, _, _, _, _, _, _, _, z⟩ := x
  exact z.elim
section
variable {P : Program} {w : World} {K : PySem.W.Frag} {mg : Str → Option Value} {base : Heap} {τ ρ α : Type} [RepA τ] [Rep ρ] [Rep α]
variable {x qual : Str} {st : Stmt} {f : Addr} {fd : FuncData} {N ps : List Str} {k : Nat}
theorem def_XN {mir : τ → Res ρ} (Fu : Fun K x qual st f fd) (S : FnScope N ps (defScope st)) (L0 : τ → List (Option Asr)) (hl : ∀ (vs : List V) (R : Hp) (a : τ), RepA.rep K mg R vs a → vs.length = ps.length ∧ Paired (SlotOk R) (L0 a) (start N vs))
    (body : ∀ (cdv : Value) (A : Around) (outer : List Env) (s : Shared) (H : Hp) (Av : List Addr) (E : XK) (a : τ), Room k (A.deeper (envOfC qual (defScope st) s.heap.objs.size f cdv)) →
      (∀ L O, TkX (cxOf (L2N.CX P w) P w K mg base N qual (defScope st) f cdv A outer s H E) (F0 K mg H Av E) L O) →
      PSs (cxOf (L2N.CX P w) P w K mg base N qual (defScope st) f cdv A outer s H E) (defBody st) (tT (F0 K mg H Av E) (L0 a) [] (mir a) (rV (F0 K mg H Av E)))) :
    FnOk P w K mg base (L2N.CX P w) (k + 1) f fd ps (spX K mg mir) := by
  obtain ⟨oc, od, kV, doc, pm, an, cdv, ct, osl, rfl, lk, hcd⟩ := Fu.ex
  refine fn_of lk hcd S (fun vs H Q E ⟨a, A, _, h, _⟩ => (hl vs _ a h).1) fun A outer s H vs Q E hr ⟨a, Av, hA, h, q⟩ =>
    ⟨_, body cdv A outer s H Av E a hr fun L O => ⟨_, L2N.takes_of rfl rfl rfl rfl, fun c d σ H e _ => e⟩, ⟨(hl vs _ a h).2, go_start hA⟩, ?_⟩
  exact q.mono (fun r k v H' ⟨g, r'⟩ => k v H' (go_same g) r') fun H' g => go_same g
end
section
variable {X : Cx} {F : Fr} {L : List (Option Asr)} {O : List Own} {τ ρ α : Type} [RepA τ] [Rep ρ] [Rep α]
variable {k : Nat} {ps : List Str} {x : Str} {p1 pos : Pos} {e : Expr} {es : List Expr} {b : Bool}
theorem n_callX {mir : τ → Res ρ} {m : Res τ} (D : DefAt X.prog X.w X.K X.mg X.base (L2N.CX X.prog X.w) k x ps (spX X.K X.mg mir)) (hr : Room k X.A) (tk : TkX X F L O) (ha : PA X (e :: es) (tA b F L O m)) (hg : Gl X x := by rfl) (hK : X.K = F.K := by rfl) (hM : X.mg = F.mg := by rfl) (hd : (x == ("__debug__" : Str)) = false := by decide)
    (hs : starEach (e :: es) X.env = (false, eval e X.env) :: starEach es X.env := by rfl) (hs2 : ((backTo pos (starEach es X.env)).any fun x => x.fst) = false := by rfl) : PE X (.Call (.Name x p1) (e :: es) [] pos) (tP b F L O (m.bind mir)) := by
  obtain ⟨f, fd, h1, h2, h3, h4⟩ := D.ex
  obtain ⟨W, tk, hW⟩ := tk
  refine pe_imp (pe_callS (E := WE W) h1 hr hg h2 h3 h4 (fun σ => L2N.passAt tk σ) ha hd hs hs2) fun σ H Q ⟨g, q⟩ => ?_
  rw [out_bind] at q
  refine ⟨g, q.mono (fun a qa vs H1 g1 s1 r1 => ?_) fun _ z => z⟩
  refine ⟨a, avoid b F O, g1.go.avoided, by rw [hK, hM, ← rgn_avoid]; exact r1, ?_⟩
  rw [hK, hM]
  cases e : mir a with
  | ok r =>
    rw [e] at qa
    exact fun v H' s2 r2 => qa v H' (g1.grow s2) (s1.trans s2) (by rw [rgn_avoid]; exact r2)
  | err c fs =>
    rw [e] at qa
    exact fun C d H' h1 h2 h4 => hW _ _ _ _ (qa C d H' h1 (h2.older g1.go.live) ⟨g1.grow h4, s1.trans h4⟩) (g1.grow h4)
  | bad =>
    rw [e] at qa
    exact qa.elim
end
/-! ### raise -/
/-- the promise of an exception's __init__(self, y): self.f = y -/
def spO (C : Addr) (f : Str) : Sp := fun vs H Q _ => ∃ (a : Addr) (y : V), vs = [.ref a, y] ∧ H a = some (exo a C none) ∧ ∀ dx, H dx = none → dx ≠ a → Q .non (upd (upd H dx (exd dx [(f, y)])) a (exo a C (some dx)))
section
variable {P : Program} {w : World} {K : PySem.W.Frag} {mg : Str → Option Value} {base : Heap}
variable {qual y f sf : Str} {st : Stmt} {fI C : Addr} {fd : FuncData} {k : Nat} {p1 p2 p3 p4 : Pos}
theorem def_O (Fu : Fun K "__init__" qual st fI fd) (S : FnScope [sf, y] [sf, y] (defScope st)) (hb : defBody st = [.Assign [.Attribute (.Name sf p1) f p2] (.Name y p3) p4]) (T : OexC K C) (hno : PySem.W.findIn K (.ref C) f = some none)
    (hv1 : Vis (defScope st) sf) (hv2 : Vis (defScope st) y) (hd1 : (sf == ("__debug__" : Str)) = false) (hd2 : (y == ("__debug__" : Str)) = false) (hc1 : (sf == ("__classdict__" : Str)) = false) (hc2 : (y == ("__classdict__" : Str)) = false) :
    FnOk P w K mg base CX0 (k + 1) fI fd [sf, y] (spO C f) := by
  refine Fu.ok S (fun vs H Q E ⟨a, z, e, _⟩ => by rw [e]; rfl) fun cdv A outer s H vs Q E hr ⟨a, z, e, ha, q⟩ => ?_
  rw [hb]
  refine ⟨_, pss_one (ps_ost (pe_var (i := 0) rfl hv1 hd1 hc1) (pe_var (i := 1) rfl hv2 hd2 hc2)), ?_⟩
  subst e
  exact ⟨z, rfl, V.ref a, rfl, a, C, rfl, T, hno, .inl ⟨ha, q⟩⟩
end
end NF

set_option Elab.async false
set_option linter.all false
set_option maxRecDepth 100000
set_option maxHeartbeats 1000000
/-! Nf13: raise C(y). -/
namespace NF
open PySem PySem.Spec PyProof.Rows L2
open Data (toD)
/-- what the module says of an own error with one field -/
structure ErrAt (P : Program) (w : World) (K : Fg) (mg : MG) (base : Heap) (k : Nat) (x f : Str) : Prop where
  ex : ∃ (C fI : Addr) (fd : FuncData) (ps : List Str), mg x = some (.ref C) ∧ OexC K C ∧ PySem.W.findIn K (.ref C) "__init__" = some (some (.ref fI)) ∧ PySem.W.typeIn K (.ref fI) = some (.type "function") ∧ FnOk P w K mg base CX0 k fI fd ps (spO C f) ∧ Binds K fd ps []
section
variable {X : Cx} {e : Expr} {es : List Expr} {ta : TA} {p pos : Pos}
theorem pmkN_own {x : Str} {C fI : Addr} {k : Nat} {fd : FuncData} {ps : List Str} {sp : Sp} (T : OexC X.K C) (iC : PySem.W.findIn X.K (.ref C) "__init__" = some (some (.ref fI))) (tI : PySem.W.typeIn X.K (.ref fI) = some (.type "function"))
    (F1 : FnOk X.prog X.w X.K X.mg X.base CX0 k fI fd ps sp) (hr : Room (k + 1) X.A) (hb : Binds X.K fd ps []) (hg : Gl X x) (hm : X.mg x = some (.ref C)) (ha : PA X (e :: es) ta)
    (hdb : (x == ("__debug__" : Str)) = false := by decide) (he : starEach (e :: es) X.env = (false, eval e X.env) :: starEach es X.env := by rfl) (hpl : (backTo pos (starEach es X.env)).any (·.1) = false := by rfl) :
    L2N.PMk X (.Call (.Name x p) (e :: es) [] pos) (tMkO C sp [] ta) := by
  intro pins s σ H Q I h
  obtain ⟨_, _, _, _, bm, _, _, _, _, _, _, _, _, _, _, hC, hbm⟩ := T.cls
  refine wpAny_Call_Name_kw (ld_glob I hg hm ?_ hdb)
  refine PySem.W.callWith_K (h₀ := X.base) I.ok.mod.kin T.kC (thn (ha.run pos pins s σ H _ I h) fun us s1 ⟨vs, H1, I1, r1, hz, q1⟩ => ⟨I1.kIn, ?_⟩) he hpl
  show wpAny _ _ (call (.ref C) us) _ _ _
  obtain ⟨hp, g, dr, tk, os⟩ := s1
  generalize ea : hp.objs.size + 1 = a at *
  have hsz : hp.objs.size ≤ a := by omega
  have hq := q1 a (I1.hok.fresh hsz)
  rw [List.append_nil] at hq
  have kk : ∀ b o, hp.get? b = some o → ((hp.push (PySem.W.kdv_tup us)).push (PySem.HandSPX.excO C hp.objs.size)).get? b = some o := fun b o e => Heap.get?_push_of_some _ (Heap.get?_push_of_some _ e)
  have hget : ((hp.push (PySem.W.kdv_tup us)).push (PySem.HandSPX.excO C hp.objs.size)).get? a = some (PySem.HandSPX.excO C hp.objs.size) := by
    subst ea
    heap_get
  have I2 := I1.laid (t' := tk) (a := a) (o := exo a C none) (h' := (hp.push (PySem.W.kdv_tup us)).push (PySem.HandSPX.excO C hp.objs.size)) kk hsz (exo_ok hget)
  have r2 : Vals (V.ref a :: vs) (Value.ref a :: us) := .cons rfl r1
  have b2 := hb _ (Value.ref a :: us) I2.kIn (by rw [List.append_nil, ← F1.len _ _ _ _ hq]; exact r2.length.symm)
  rw [List.append_nil] at b2
  subst ea
  refine wpAny_call (PySem.HandSPX.call_own F.excBase_ValueError (fun Y => PySem.HandSPX.refsVE_contains Y bm hbm) (I1.kIn _ _ hC) (PySem.W.looks_findIn I1.kIn iC) (fun self => PySem.W.bind_fn I1.kIn self tI) (by rw [← Paired.length r1, sizeLine_eq]; omega)
    (codeAny_mono (F1.run _ X.stack _ _ ⟨_, []⟩ _ _ _ E0 (hr.make C us []) (I2.env0.make C us []) b2 r2 hq) fun r s' hq' => ?_))
  cases r with
  | error er => exact pass0 pins σ _ _ er s' I2 hq'
  | ok fl =>
    cases fl with
    | ret u =>
      obtain ⟨v, H2, os2, bare2, un2, hok2, rv, ev, d, fs, e1, e2, hd1, q2⟩ := hq'
      subst ev
      obtain ⟨h2, g2, d2, t2, os'⟩ := s'
      obtain ⟨t0, G, J, kG, ge, hoe, na⟩ := mk_end0 (d2 := d2) (t2 := t2) I1 hsz kk un2 hok2 os2 bare2 e1 e2 hd1
      exact ⟨rv, ⟨_, _, _, ⟨G, g2, d2, t2, os'⟩, _, .ref C, some d, rfl, J, kG, ge, hoe, ⟨rfl, rfl, fun vs hv => by cases hv; rfl⟩, rfl, rfl, na, rfl, bare2, raises_own T.exC T.tyC, q2⟩⟩
    | next => exact hq'.elim
    | brk => exact hq'.elim
    | cont => exact hq'.elim
variable {F : Fr} {L : List (Option Asr)} {O : List Own} {α D' : Type} [Rep α] [Data α] {Ret : D' → V → Hp → Prop} {k : Nat} {x f : Str} {pos2 : Pos}
/-- raise x(e) -/
theorem s_raise {m : Res α} (D : ErrAt X.prog X.w X.K X.mg X.base k x f) (hr : Room (k + 1) X.A) (hc : X.calm = true) (tk : TkX X F L O) (hO : List.Sublist F.O0 O) (he : PE X e (tP true F L O m)) (hg : Gl X x := by rfl) (hK : X.K = F.K := by rfl) (hM : X.mg = F.mg := by rfl) (hdb : (x == ("__debug__" : Str)) = false := by decide)
    (hs : starEach [e] X.env = (false, eval e X.env) :: starEach [] X.env := by rfl) (hpl : (backTo pos (starEach [] X.env)).any (·.1) = false := by rfl) :
    PS X (.Raise (some (.Call (.Name x p) [e] [] pos)) none pos2) (tT F L O (m.bind fun a => .err x [(f, toD a)]) Ret) := by
  obtain ⟨C, fI, fd, ps, hm, T, iC, tI, F1, hb⟩ := D.ex
  obtain ⟨W, tk, hW⟩ := tk
  refine ps_imp (L2N.ps_raise hc tk (pmkN_own T iC tI F1 hr hb hg hm (a_cons he a_nil hs) hdb hs hpl)) fun D σ H ⟨g, q⟩ => ?_
  rw [out_bind] at q
  refine ⟨g, ?_⟩
  rw [out_bind]
  refine q.mono (fun a k => ?_) fun H' ⟨a, _⟩ => a.go.sub hO
  show ∀ vs H', _
  intro vs H1 g1 s1 r1
  obtain ⟨v, ws, e1, r2, e2⟩ := r1
  cases e2
  subst e1
  refine ⟨by show 1 ≤ 1000; decide, fun a ha => ⟨a, v, rfl, upd_same, fun dx hdx hne => ⟨rfl, dx, [(f, v)], upd_same, ?_, ?_, ?_⟩⟩⟩
  · rw [upd_ne hne, upd_same]
  · rwa [upd_ne hne] at hdx
  · rw [upd_ne hne] at hdx
    have sm : Same H1 (upd (del (upd (upd (upd H1 a (exo a C none)) dx (exd dx [(f, v)])) a (exo a C (some dx))) a) dx (.xd [(f, v)])) := fun b o hbo => by
      have n1 : b ≠ a := fun z => by rw [z, ha] at hbo; cases hbo
      have n2 : b ≠ dx := fun z => by rw [z, hdx] at hbo; cases hbo
      rw [upd_ne n2, del_ne n1, upd_ne n1, upd_ne n2, upd_ne n1]
      exact hbo
    have g2 := g1.grow sm
    refine hW _ _ _ _ (k (C := C) (d := some dx) (H' := _) (hM ▸ hm) ⟨Decidable.byContradiction fun z => g1.go.live _ z hdx, _, upd_same, .cons ⟨rfl, ?_⟩ .nil⟩ (g2.go.sub hO)) g2
    exact Data.dp (Rep.mono sm (Rep.mono rgn_sub r2))
end
end NF

set_option Elab.async false
set_option linter.all false
set_option maxRecDepth 100000
set_option maxHeartbeats 1000000
/-! Nf14: try .. except C as e. -/
namespace NF
open PySem PySem.Spec PyProof.Rows L2
open Data (toD)
/-! flat fields -/
def encD : PyData → V
  | .int i => .int i
  | .bool b => .bl b
  | .str s => .str s
  | _ => .non
def flatD : PyData → Bool
  | .int _ => true
  | .bool _ => true
  | .str _ => true
  | .none => true
  | _ => false
theorem dp_flat {K : Fg} {H : Hp} {v : V} {d : PyData} (h : Dp K H v d) (f : flatD d = true) : v = encD d := by
  cases h with
  | non => rfl
  | bl b => rfl
  | int i => rfl
  | str x => rfl
  | lst _ _ => cases f
  | tup _ _ => cases f
theorem flat_dp {K : Fg} {H : Hp} : ∀ {d : PyData}, flatD d = true → Dp K H (encD d) d
  | .int i, _ => .int i
  | .bool b, _ => .bl b
  | .str s, _ => .str s
  | .none, _ => .non
def encF (fs : List (Str × PyData)) : List (Str × V) := fs.map fun p => (p.1, encD p.2)
theorem xd_flat {K : Fg} {H : Hp} : ∀ {vs : List (Str × V)} {fs : List (Str × PyData)}, XdOk K H vs fs → (fs.all fun p => flatD p.2) = true → vs = encF fs
  | [], [], _, _ => rfl
  | (a, v) :: vs, (b, d) :: fs, .cons h t, e => by
    obtain ⟨e1, e2⟩ := Bool.and_eq_true_iff.mp (show (flatD d && fs.all fun p => flatD p.2) = true from e)
    obtain ⟨h1, h2⟩ := h
    have h1' : a = b := h1
    subst h1'
    show (a, v) :: vs = (a, encD d) :: encF fs
    rw [show v = encD d from dp_flat h2 e1, xd_flat t e2]
def xdF (d : Option Addr) (fs : List (Str × PyData)) : Fact := ⟨fun H => match d with
  | none => fs = []
  | some d => H d = some (.xd (encF fs)), fun e h => by
  cases d with
  | none => exact h
  | some d => exact e _ _ h⟩
/-- the body, and what is done with an error of class x -/
def tryR {α : Type} (x : Str) (m : Res α) (h : List (Str × PyData) → Res α) : Res α := match m with
  | .ok a => .ok a
  | .err c fs => if c = x then need ((fs.all fun p => flatD p.2) = true) (h fs) else .bad
  | .bad => .bad
abbrev Ft (F : Fr) (E : XK) (O : List Own) : Fr := ⟨F.K, F.mg, F.H0, F.W, F.A, O, E, F.Z⟩
theorem go_ft {F : Fr} {E : XK} {O O' : List Own} {H : Hp} (g : GO F O' H) : GO (Ft F E O) O' H := ⟨g.objs, g.nd, g.own, g.keep, g.live, g.hid, g.apart, g.facts⟩
theorem go_tf {F : Fr} {E : XK} {O O' : List Own} {H : Hp} (g : GO (Ft F E O) O' H) : GO F O' H := ⟨g.objs, g.nd, g.own, g.keep, g.live, g.hid, g.apart, g.facts⟩
theorem g_ft {F : Fr} {E : XK} {L : List (Option Asr)} {O O' : List Own} {σ : L2.St} {H : Hp} (g : G F L O' σ H) : G (Ft F E O) L O' σ H := ⟨g.slots, go_ft g.go⟩
theorem g_tf {F : Fr} {E : XK} {L : List (Option Asr)} {O O' : List Own} {σ : L2.St} {H : Hp} (g : G (Ft F E O) L O' σ H) : G F L O' σ H := ⟨g.slots, go_tf g.go⟩
theorem paired_set {α β : Type} {R : α → β → Prop} {x : α} {y : β} (h : R x y) : ∀ {l : List α} {σ : List β} (i : Nat), Paired R l σ → Paired R (l.set i x) (σ.set i y)
  | _, _, _, .nil => .nil
  | _, _, 0, .cons _ t => .cons h t
  | _, _, n + 1, .cons q t => .cons q (paired_set h n t)
theorem pss_fact {X : Cx} {st : List Stmt} {p : Prop} {t : TS} (h : p → PSs X st t) : PSs X st (fun D σ H => p ∧ t D σ H) := ⟨fun pins s σ H D I ⟨b, q⟩ => (h b).run pins s σ H D I q⟩
/-- only lists are owned -/
def NoXd (O : List Own) : Prop := ∀ w ∈ O, ∀ H vs, ¬ w.P H (.xd vs)
theorem noxd_nil : NoXd [] := fun _ h => (List.not_mem_nil h).elim
theorem noxd_cons {α : Type} [Rep α] {K : Fg} {mg : MG} {p : Addr} {xs : List α} {O : List Own} (h : NoXd O) : NoXd (ow K mg p xs :: O) := fun w hw H vs z => by
  rcases List.mem_cons.mp hw with rfl | hw
  · obtain ⟨_, e, _⟩ := z
    cases e
  · exact h w hw H vs z
section
variable {X : Cx} {F : Fr} {L Lh : List (Option Asr)} {O : List Own} {B D' : Type} {Ret : D' → V → Hp → Prop} {L' : B → List (Option Asr)} {O' : B → List Own}
variable {x n : Str} {C : Addr} {body suite : List Stmt} {b₀ : Stmt} {np pos pos' : Pos}
theorem s_try {W0 : WX} {mb : Res (Sum B D')} {mh : List (Str × PyData) → Res (Sum B D')} (i : Nat) (hm : X.mg x = some (.ref C)) (hex : PySem.W.exmOne X.K (.ref C) (.ref C) = some true) (tk : L2N.Takes X W0) (hN : X.N.Nodup) (hno : NoXd O) (hO : List.Sublist F.O0 O)
    (hLi : ∀ b, (L' b).set i none = L' b)
    (hb : ∀ (E' : XK) (pn : List (Addr × Obj)) (xe : Value → Shared → Prop), TkX (X.tr pn xe) (Ft F E' O) Lh O → PSs (X.tr pn xe) body (tM (Ft F E' O) L O mb L' O' Ret))
    (hh : ∀ (a : Addr) (oe : Obj) (d : Option Addr) (pn : List (Addr × Obj)) (fs : List (Str × PyData)), L2N.Zn (.ref C) d oe → (∃ vs, oe.data = .fields vs) → PSs (X.suite a ((a, oe) :: pn)) (b₀ :: suite) (tM (F.add (xdF d fs)) (Lh.set i (rf a)) O (mh fs) L' O' Ret))
    (hi : X.N[i]? = some n := by rfl) (hln : X.env.kindOf n = some .local := by rfl) (hg : Gl X x := by rfl) (hdb : (x == ("__debug__" : Str)) = false := by decide) (hs : X.stack = X.env :: X.outer := by rfl) (hf : X.env.frame = some X.env.locals := by rfl) (hK : X.K = F.K := by rfl) (hM : X.mg = F.mg := by rfl) :
    PS X (.Try body [.ExceptHandler (some (.Name x np)) (some n) (b₀ :: suite) pos'] [] [] pos) (tM F L O (tryR x mb mh) L' O' Ret) := by
  have hc : Names X x (.ref C) := ⟨hg, hdb, .inl hm⟩
  refine ps_imp (L2N.ps_try_as (tb := fun W D σ H => tM (Ft F (fun cls d H' => ∀ σ', G F Lh O σ' H' → W cls d σ' H') O) L O mb L' O' Ret D σ H)
    (ts := fun a cls d D σ H => cls = .ref C ∧ ∃ fs, tM (F.add (xdF d fs)) (Lh.set i (rf a)) O (mh fs) L' O' Ret D σ H) (i := i) hs hf hN hi hln hc tk
    (fun W pn xe tkW _ => hb _ pn xe ⟨W, tkW, fun c d σ H e g => e σ (g_tf g)⟩)
    (fun a oe cls d pn hz hd => pss_fact fun e => pss_ex fun fs => by
      subst e
      exact hh a oe d pn fs hz hd)) fun D σ H ⟨g, q⟩ => ?_
  refine ⟨g_ft g, ?_⟩
  cases em : mb with
  | ok r =>
    rw [em] at q
    cases r with
    | inl b => exact fun σ' H' g' => q σ' H' (g_tf g')
    | inr d => exact q
  | bad =>
    rw [em] at q
    exact q
  | err c fs =>
    rw [em] at q
    unfold tryR at q
    by_cases hcx : c = x
    · subst hcx
      simp only [if_true] at q
      rw [out_need] at q
      obtain ⟨hfl, q⟩ := q
      intro C' d H' h1 h2 h4 σ' gh
      have eC : C' = C := by
        have z : F.mg c = some (.ref C') := h1
        rw [← hM, hm] at z
        cases z
        rfl
      subst eC
      refine ⟨true, hex, fun _ a na => ⟨rfl, fs, ⟨paired_set (x := rf a) (y := some (V.ref a)) rfl i gh.slots, gh.go.add _ ?_⟩, ?_⟩, fun z => by cases z⟩
      · cases d with
        | none => exact h2
        | some d =>
          obtain ⟨h5, vs, h6, h7⟩ := h2
          have e := xd_flat h7 hfl
          subst e
          show less H' (addrs O ++ F.A) d = _
          rw [less_out]
          · exact h6
          · intro z
            rcases List.mem_append.mp z with z | z
            · obtain ⟨w, hw, e⟩ := List.mem_map.mp z
              obtain ⟨o, h8, h9⟩ := gh.go.objs w hw
              rw [e, h6] at h8
              cases h8
              exact hno w hw _ _ h9
            · exact gh.go.hid d z h5
      · rw [out_add]
        refine q.mono (fun r k => ?_) fun H'' (x : GO (F.add _) F.O0 H'') => x.unadd
        cases r with
        | inl b => exact fun σ2 H2 g2 => k _ _ ⟨by have z := paired_set (x := (none : Option Asr)) (y := (none : Option V)) (R := SlotOk (rg F (O' b) H2)) trivial i g2.slots; rwa [hLi] at z, g2.go.unadd⟩
        | inr d => exact k
    · simp only [if_neg hcx] at q
      exact q.elim
end
/-! ### in the suite -/
section
variable {X : Cx} {F : Fr} {L : List (Option Asr)} {O : List Own} {b3 : Bool} {a C : Addr} {oe : Obj} {d : Option Addr} {pn : List (Addr × Obj)} {fs : List (Str × PyData)} {n f : Str} {p1 p2 pos : Pos}
def xfR (fs : List (Str × PyData)) (f : Str) : Res PyData := match fs.lookup f with
  | some x => need (flatD x = true) (.ok x)
  | none => .bad
theorem lookup_enc : ∀ {fs : List (Str × PyData)} {f : Str} {x : PyData}, fs.lookup f = some x → (encF fs).lookup f = some (encD x)
  | [], _, _, h => by cases h
  | (g, y) :: fs, f, x, h => by
    show ((g, encD y) :: encF fs).lookup f = _
    rw [lookup_put]
    by_cases e : f = g
    · subst e
      simp [List.lookup] at h
      subst h
      rw [if_pos rfl]
    · rw [if_neg e]
      have e2 : (f == g) = false := by simpa using e
      simp only [List.lookup, e2] at h
      exact lookup_enc h
/-- e.f -/
theorem n_xf (i : Nat) (T : XfC X.K C) (hno : PySem.W.findIn X.K (.ref C) f = some none) (hz : L2N.Zn (.ref C) d oe) (hd : ∃ vs, oe.data = .fields vs) (hL : L[i]? = some (rf a)) (hK : X.K = F.K := by rfl)
    (hN : X.N[i]? = some n := by rfl) (hv : Vis X.env.scope n := by first | exact Or.inl rfl | exact Or.inr (Or.inl rfl) | exact Or.inr (Or.inr rfl)) (hd1 : (n == ("__debug__" : Str)) = false := by decide) (hcd : (n == ("__classdict__" : Str)) = false := by decide)
    (hb : attributeBase (.Name n p1) f (X.suite a ((a, oe) :: pn)).env (eval (.Name n p1) (X.suite a ((a, oe) :: pn)).env) = eval (.Name n p1) (X.suite a ((a, oe) :: pn)).env := by rfl) :
    PE (X.suite a ((a, oe) :: pn)) (.Attribute (.Name n p1) f pos) (tP b3 (F.add (xdF d fs)) L O (xfR fs f)) := pe_imp (pe_xf T hno hz.zc hd (pe_var (X := X.suite a ((a, oe) :: pn)) (i := i) hN hv hd1 hcd) hb) fun σ H Q ⟨g, q⟩ => by
  obtain ⟨v, h1, h2⟩ := g.slot hL
  refine ⟨v, h1, h2, rfl, ?_⟩
  unfold xfR at q
  cases e : fs.lookup f with
  | none => rw [e] at q; exact q.elim
  | some x =>
    rw [e] at q
    dsimp only at q
    rw [out_need] at q
    have fact := g.go.fact
    cases d with
    | none =>
      have z : fs = [] := fact
      subst z
      cases e
    | some dd =>
      exact ⟨dd, encF fs, encD x, rfl, less_same _ _ fact, lookup_enc e, q.2 _ H g (Same.refl _) (flat_dp q.1)⟩
end
end NF

set_option Elab.async false
set_option linter.all false
set_option maxRecDepth 100000
set_option maxHeartbeats 1000000
/-! Nf15: isinstance of the caught error (with its dict), defs called in the suite. -/
namespace PySem.W
open PySem PySem.Spec PySem.Calls PyProof.Rows
section
variable {prog : Program} {w : World} {A : Around} {E : Value → Shared → Prop} {s : Shared} {K : Frag} {x D : Addr} {ox : Obj} {od : Option Obj}
theorem nf_find {a g : Value} (hc : (clsIn K D).isSome = true) (ha : findIn K (.ref D) "__class__" = some (some a)) (hg : specialIn K a "__get__" = some (some g)) (ht : takesIn K a = some true) : findObj K D od "__class__" = some (.bind g a) := by
  cases od with
  | none => exact findObj_dataN hc ha hg ht
  | some o => exact findObj_data hc ha hg ht
theorem nf_kitx (C : L2.ExcC K D) : KitX K (.ref x) (.ref D) (fun h => InstAt h x ox D od) where
  ty := fun _ _ _ I => I.type
  it := fun M h X _ => by
    obtain ⟨cd, hc, _⟩ := any_some C.hd
    unfold clsIn at hc
    split at hc
    · rename_i ho
      exact fun A Q E s k q => by
        unfold isType loadHead
        exact wpAny_bind (wpAny_loadPart (k _ _ (X _ _ ho)) (wpAny_pure q))
    · cases hc
  ne := (handS_kitx_exc (x := x) (ox := ox) C.hg C.hk C.hs C.hd C.ha C.hn C.ht C.hm).ne
  ca := fun {prog w A E Q s} X I h => by
    have hf : findObj K D od "__class__" = _ := nf_find (by obtain ⟨cd, hc, _⟩ := any_some C.hd; rw [hc]; rfl) C.ha C.hn C.ht
    obtain ⟨hp, g, d, t, os⟩ := s
    have L0 := I.type (M := model prog w)
    have hx2 : (Value.builtin "BaseException.__getattribute__" == Value.builtin "object.__getattribute__") = false := by decide +kernel
    unfold getAttr? getAttrBy? getAttrBy
    refine wpAny_bind (wpAny_mkText (wpAny_bind (wpAny_attempt (wpAny_holding (wpAny_bind (L0.at (wpAny_bind ((looks_findIn (M := model prog w) X C.hg).at ?_))))))))
    show wpAny _ _ (if (onTheHeap (Value.ref D) && Value.builtin "BaseException.__getattribute__" == Value.builtin "object.__getattribute__") = true then _ else _) _ _ _
    rw [show (onTheHeap (Value.ref D) && Value.builtin "BaseException.__getattribute__" == Value.builtin "object.__getattribute__") = false by rw [hx2]; rfl, if_neg Bool.false_ne_true]
    unfold getAttrByItsOwn hookBefore
    refine wpAny_bind ?_
    rw [if_pos (show onTheHeap (Value.ref D) = true from rfl)]
    refine (looks_findIn (M := model prog w) X C.hk).at (wpAny_bind (wpAny_attempt (wpAny_holding ?_)))
    unfold callGetattribute
    rw [show (false && onTheHeap (Value.builtin "BaseException.__getattribute__")) = false from rfl, if_neg Bool.false_ne_true]
    unfold boundAndCalled
    rw [PySem.F.excAttr_ValueError.ga.bind (.ref x)]
    refine wpAny_bind (wpAny_pure ?_)
    show wpAny _ _ (call (.builtin "BaseException.__getattribute__") [.ref x, .str "__class__" t]) _ _ _
    refine wpAny_call (codeAny_call_builtin PySem.F.excAttr_ValueError.ga.plain PySem.F.entry_bexc_ga ?_)
    refine @check_slot (model prog w) _ _ ⟨hp, g, d, t + 1, os⟩ "BaseException.__getattribute__" "BaseException" "__getattribute__" (.ref x) [.str "__class__" t] [] _ (by decide +kernel) (by decide +kernel) (L0.andThen (looks_subIn X C.hs)) (PySem.F.args_bexc_ga (.ref x) (.str "__class__" t)) ?_
    unfold Builtin.«object.__getattribute__»
    refine wpAny_bind (wpAny_of_eq (a := ((Value.ref x : Value), [Value.str "__class__" t])) (by first | rfl | (simp only [slotArgs]; rfl)) ?_)
    refine wpAny_bind (wpAny_pure (wpAny_bind (L0.at (wpAny_bind ((looks_find (M := model prog w) X I hf).at ?_)))))
    show wpAny _ _ (holding [Value.builtin "object.__class__"] (call (.builtin "getset_descriptor.__get__") [.builtin "object.__class__", .ref x, .ref D]) >>= ret) _ _ _
    refine wpAny_bind (wpAny_holding (wpAny_call (class_get (s := ⟨hp, g, d, t + 1, os⟩) (ox := ox) (od := od) X I C.hm ?_)))
    refine wpAny_pure ?_
    show wpAny _ _ (handedOut (.ref D)) _ _ _
    rw [handedOut_of (v := .ref D) rfl]
    first
      | exact wpAny_pure (wpAny_pure h)
      | exact wpAny_pure h
      | exact wpAny_pure (wpAny_bind (wpAny_pure (wpAny_pure h)))
end
end PySem.W
namespace NF
open PySem PySem.Spec PyProof.Rows L2
open Data (toD)
/-- isinstance(e, c) -/
def rIsD (K : Fg) (D a : Addr) (d : Option Addr) : List V → Hp → VK → Prop := fun xs H Q => ∃ (c : V) (cv : Value) (b : Bool), xs = [.ref a, c] ∧ (∀ u, RelV c u → u = cv) ∧ PySem.W.kitOne K (.ref D) cv = some b ∧ (∀ dd, d = some dd → ∃ fs, H dd = some (.xd fs)) ∧ Q (.bl b) H
theorem call_isD {X : Cx} {a D : Addr} {oe : Obj} {d : Option Addr} {pn : List (Addr × Obj)} (C : ExcC X.K D) (hz : L2N.Zn (.ref D) d oe) (hf : ∃ vs, oe.data = .fields vs) : CallR (X.suite a ((a, oe) :: pn)) (.builtin "isinstance") (rIsD X.K D a d) := by
  intro pins s σ H xs us Q I r h
  obtain ⟨c, cv, b, rfl, hcv, e, hd, q⟩ := h
  cases r with
  | cons rx rr =>
    cases rr with
    | cons rt rr =>
      cases rr
      cases rx
      have ec := hcv _ rt
      subst ec
      obtain ⟨hget, _⟩ := I.pin (a, oe) (List.mem_append.mpr (.inl List.mem_cons_self))
      obtain ⟨vs, hv⟩ := hf
      have J : ∃ od, PySem.W.InstAt s.heap a oe D od := by
        cases d with
        | none => exact ⟨none, hget, hz.1, by unfold PySem.W.notCls; rw [hv] <;> rfl, by rw [hz.2.1] <;> trivial⟩
        | some dd =>
          obtain ⟨fs, hx⟩ := hd dd rfl
          have hx : ObjOk X.prog X.w H s.heap dd (.xd fs) := I.hok dd _ hx
          obtain ⟨mA, hns, _⟩ := hx
          obtain ⟨o, ho, _⟩ := lookIn_ns hns
          exact ⟨some o, hget, hz.1, by unfold PySem.W.notCls; rw [hv] <;> rfl, by rw [hz.2.1]; exact ho⟩
      obtain ⟨od, J⟩ := J
      exact PySem.W.kia_one (PySem.W.nf_kitx C) I.kIn J e (fun z => nomatch z) fun tk => ⟨.bl b, H, I.kept (t' := tk) fun _ _ z => z, rfl, q⟩
section
variable {X : Cx} {F : Fr} {L : List (Option Asr)} {O : List Own} {b3 : Bool} {a C C2 : Addr} {oe : Obj} {d : Option Addr} {pn : List (Addr × Obj)} {fs : List (Str × PyData)} {n y : Str} {p1 p2 p3 pos : Pos}
theorem n_isE {v : Bool} (i : Nat) (T : ExcC X.K C) (hz : L2N.Zn (.ref C) d oe) (hd : ∃ vs, oe.data = .fields vs) (hL : L[i]? = some (rf a)) (hm : X.mg y = some (.ref C2)) (hk : PySem.W.kitOne X.K (.ref C) (.ref C2) = some v) (hib : X.mg "isinstance" = none)
    (hN : X.N[i]? = some n := by rfl) (hv : Vis X.env.scope n := by first | exact Or.inl rfl | exact Or.inr (Or.inl rfl) | exact Or.inr (Or.inr rfl)) (hd1 : (n == ("__debug__" : Str)) = false := by decide) (hcd : (n == ("__classdict__" : Str)) = false := by decide)
    (hg : Gl X "isinstance" := by rfl) (hgy : Gl X y := by rfl) (hd2 : (y == ("__debug__" : Str)) = false := by decide)
    (h1 : starEach [.Name n p2, .Name y p3] (X.suite a ((a, oe) :: pn)).env = (false, eval (.Name n p2) (X.suite a ((a, oe) :: pn)).env) :: starEach [.Name y p3] (X.suite a ((a, oe) :: pn)).env := by rfl) (h2 : starEach [.Name y p3] (X.suite a ((a, oe) :: pn)).env = (false, eval (.Name y p3) (X.suite a ((a, oe) :: pn)).env) :: starEach [] (X.suite a ((a, oe) :: pn)).env := by rfl)
    (hpl : (backTo pos (starEach [.Name y p3] (X.suite a ((a, oe) :: pn)).env)).any (·.1) = false := by rfl) :
    PE (X.suite a ((a, oe) :: pn)) (.Call (.Name "isinstance" p1) [.Name n p2, .Name y p3] [] pos) (tP b3 (F.add (xdF d fs)) L O (.ok v)) :=
  pe_imp (pe_callB (X := X.suite a ((a, oe) :: pn)) (call_isD T hz hd) hg hib (by decide +kernel) (pa_cons (pe_var (X := X.suite a ((a, oe) :: pn)) (i := i) hN hv hd1 hcd) (pa_cons (pe_glob (X := X.suite a ((a, oe) :: pn)) (v := .ref C2) hgy hm rfl hd2) pa_nil h2) h1) (by decide) (by decide) h1 hpl) fun σ H Q ⟨g, q⟩ => by
  obtain ⟨v1, h3, h4⟩ := g.slot hL
  have e1 : v1 = V.ref a := h4
  subst e1
  refine ⟨_, h3, .ref C2, .ref C2, v, rfl, fun u r => r, hk, fun dd e => ?_, q _ H g (Same.refl _) rfl⟩
  subst e
  exact ⟨_, less_same _ _ g.go.fact⟩
end
/-! ### defs called in the suite -/
structure DefH (P : Program) (w : World) (K : Fg) (mg : MG) (base : Heap) (k : Nat) (x : Str) (ps : List Str) (sp : Sp) : Prop where
  ex : ∃ (f : Addr) (fd : FuncData), L2H.FnH P w K mg base CX0 k f fd ps sp ∧ mg x = some (.ref f) ∧ PySem.W.keepIn K (.ref f) = true ∧ Binds K fd ps []
section
variable {P : Program} {w : World} {K : PySem.W.Frag} {mg : Str → Option Value} {base : Heap} {τ ρ : Type} [RepA τ] [Rep ρ]
variable {x qual : Str} {st : Stmt} {f : Addr} {fd : FuncData} {N ps : List Str} {k : Nat}
theorem def_PH {mir : τ → Res ρ} (Fu : Fun K x qual st f fd) (S : FnScope N ps (defScope st)) (L0 : τ → List (Option Asr)) (hl : ∀ (vs : List V) (R : Hp) (a : τ), RepA.rep K mg R vs a → vs.length = ps.length ∧ Paired (SlotOk R) (L0 a) (start N vs))
    (body : ∀ (cdv : Value) (A : Around) (outer : List Env) (s : Shared) (H : Hp) (Av : List Addr) (E : XK) (p : Addr × Obj) (a : τ), L2H.RoomH k (A.deeper (envOfC qual (defScope st) s.heap.objs.size f cdv)) →
      PSs (L2H.cxH CX0 P w K mg base N qual (defScope st) f cdv A outer s H E p).nox (defBody st) (tT (F0 K mg H Av E0) (L0 a) [] (mir a) (rV (F0 K mg H Av E0)))) :
    L2H.FnH P w K mg base CX0 (k + 1) f fd ps (spP K mg mir) := by
  obtain ⟨oc, od, kV, doc, pm, an, cdv, ct, osl, rfl, lk, hcd⟩ := Fu.ex
  refine L2H.fn_ofH lk hcd S (fun vs H Q E ⟨a, A, _, h, _⟩ => (hl vs _ a h).1) fun A outer s H vs Q E p hot hr ⟨a, Av, hA, h, q⟩ =>
    ⟨_, (body cdv A outer s H Av E p a hr).nox, ⟨(hl vs _ a h).2, go_start hA⟩, ?_⟩
  exact q.mono (fun r k v H' ⟨g, r'⟩ => k v H' (go_same g) r') fun H' g => go_same g
end
section
variable {X : Cx} {F : Fr} {L : List (Option Asr)} {O : List Own} {τ ρ : Type} [RepA τ] [Rep ρ]
variable {k : Nat} {ps : List Str} {x : Str} {p1 pos : Pos} {e : Expr} {es : List Expr} {b : Bool} {a : Addr} {oe : Obj} {pn : List (Addr × Obj)} {cls : Value} {d : Option Addr}
theorem nh_call {mir : τ → Res ρ} {m : Res τ} (D : DefH X.prog X.w X.K X.mg X.base k x ps (spP X.K X.mg mir)) (hz : L2N.Zn cls d oe) (hdt : ∃ vs, oe.data = .fields vs) (hr : Room k X.A) (ha : PA (X.suite a ((a, oe) :: pn)) (e :: es) (tA b F L O m)) (hg : Gl X x := by rfl) (hE : F.E = E0 := by rfl) (hK : X.K = F.K := by rfl) (hM : X.mg = F.mg := by rfl) (hd : (x == ("__debug__" : Str)) = false := by decide)
    (hs : starEach (e :: es) (X.suite a ((a, oe) :: pn)).env = (false, eval e (X.suite a ((a, oe) :: pn)).env) :: starEach es (X.suite a ((a, oe) :: pn)).env := by rfl) (hs2 : ((backTo pos (starEach es (X.suite a ((a, oe) :: pn)).env)).any fun x => x.fst) = false := by rfl) :
    PE (X.suite a ((a, oe) :: pn)) (.Call (.Name x p1) (e :: es) [] pos) (tP b F L O (m.bind mir)) := by
  obtain ⟨f, fd, h1, h2, h3, h4⟩ := D.ex
  obtain ⟨vs, hv⟩ := hdt
  refine call_core (sp := spP X.K X.mg mir) hE (fun vs H Q q => by rw [← hK, ← hM] at q; exact q) (pe_imp (L2H.pe_callH (X := X.suite a ((a, oe) :: pn)) (E := fun _ => E0) h1 (L2H.roomH_mark hr _) ⟨(a, oe), ⟨rfl, vs, hv, hz.2.2 vs hv⟩, List.mem_cons_self⟩ hg h2 h3 h4 (fun σ pins H s e s' I c => pass0 pins σ H s e s' I c) ha hd hs hs2) fun σ H Q q => ?_)
  show tA b F L O m σ H (fun vs H1 => spP X.K X.mg mir vs H1 Q E0)
  have q' : tA b F L O m σ H (fun vs H1 => spP X.K X.mg mir (vs ++ []) H1 Q E0) := q
  simp only [List.append_nil] at q'
  exact q'
end
end NF

set_option Elab.async false
set_option linter.all false
set_option maxRecDepth 100000
set_option maxHeartbeats 1000000
/-! Nf16: quiet calls, stores of comprehensions, repr, the script. -/
namespace NF
open PySem PySem.Spec PyProof.Rows L2
open Data (toD)
section
variable {X : Cx} {F : Fr} {L : List (Option Asr)} {O : List Own} {τ ρ α β : Type} [RepA τ] [Rep ρ] [Rep α] [Rep β]
variable {k : Nat} {ps : List Str} {x y : Str} {p1 pos : Pos} {e : Expr} {es : List Expr} {b : Bool}
/-- a call of a def that lets nothing out, where something may be let out -/
theorem nq_call {mir : τ → Res ρ} {m : Res τ} (D : DefAt X.prog X.w X.K X.mg X.base CX0 k x ps (spP X.K X.mg mir)) (hr : Room k X.A) (ha : PA X (e :: es) (tA b F L O m)) (hg : Gl X x := by rfl) (hK : X.K = F.K := by rfl) (hM : X.mg = F.mg := by rfl) (hd : (x == ("__debug__" : Str)) = false := by decide)
    (hs : starEach (e :: es) X.env = (false, eval e X.env) :: starEach es X.env := by rfl) (hs2 : ((backTo pos (starEach es X.env)).any fun x => x.fst) = false := by rfl) : PE X (.Call (.Name x p1) (e :: es) [] pos) (tP b F L O (m.bind fun a => (mir a).quiet)) := by
  obtain ⟨f, fd, h1, h2, h3, h4⟩ := D.ex
  refine pe_imp (pe_call h1 hr hg h2 h3 h4 .nil pass0 ha hd hs hs2) fun σ H Q ⟨g, q⟩ => ?_
  rw [out_bind] at q
  refine ⟨g, q.mono (fun a qa vs H1 g1 s1 r1 => ?_) fun _ z => z⟩
  show spP X.K X.mg mir (vs ++ []) H1 Q E0
  rw [List.append_nil]
  refine ⟨a, avoid b F O, g1.go.avoided, by rw [hK, hM, ← rgn_avoid]; exact r1, ?_⟩
  rw [hK, hM]
  cases e : mir a with
  | ok r =>
    rw [e] at qa
    exact fun v H' s2 r2 => qa v H' (g1.grow s2) (s1.trans s2) (by rw [rgn_avoid]; exact r2)
  | err c fs =>
    rw [e] at qa
    exact qa.elim
  | bad =>
    rw [e] at qa
    exact qa.elim
theorem fq_call {mir : τ → Res (List α)} {m : Res τ} (D : DefAt X.prog X.w X.K X.mg X.base CX0 k x ps (spF X.K X.mg mir)) (hr : Room k X.A) (ha : PA X (e :: es) (tA b F L O m)) (hg : Gl X x := by rfl) (hK : X.K = F.K := by rfl) (hM : X.mg = F.mg := by rfl) (hd : (x == ("__debug__" : Str)) = false := by decide)
    (hs : starEach (e :: es) X.env = (false, eval e X.env) :: starEach es X.env := by rfl) (hs2 : ((backTo pos (starEach es X.env)).any fun x => x.fst) = false := by rfl) : PE X (.Call (.Name x p1) (e :: es) [] pos) (tF b F L O (m.bind fun a => (mir a).quiet)) := by
  obtain ⟨f, fd, h1, h2, h3, h4⟩ := D.ex
  refine pe_imp (pe_call h1 hr hg h2 h3 h4 .nil pass0 ha hd hs hs2) fun σ H Q ⟨g, q⟩ => ?_
  rw [out_bind] at q
  refine ⟨g, q.mono (fun a qa vs H1 g1 s1 r1 => ?_) fun _ z => z⟩
  show spF X.K X.mg mir (vs ++ []) H1 Q E0
  rw [List.append_nil]
  refine ⟨a, avoid b F O, g1.go.avoided, by rw [hK, hM, ← rgn_avoid]; exact r1, ?_⟩
  rw [hK, hM]
  cases e : mir a with
  | ok r =>
    rw [e] at qa
    exact fun p ws H' s2 h1 h2 r2 => qa p ws H' (g1.grow s2) (s1.trans s2) (s1.free h1) h2 (by rw [rgn_avoid]; exact r2)
  | err c fs =>
    rw [e] at qa
    exact qa.elim
  | bad =>
    rw [e] at qa
    exact qa.elim
/-! x = [..] -/
inductive SpN : Nat → Prop
  | mk {i : Nat} : SpN i
section
variable {tg iter elt : Expr} {ifs : List Expr} {scope : Scope} {own : List (Str × Nat)} {p2 pos2 : Pos} {g : TG} {bd : α → List (Option Asr) → List (Option Asr)} {m : Res (List α)} {p : α → Res Bool} {f : α → Res β}
/-- a value -/
theorem s_setLc (i : Nat) (hc : X.calm = true) (hN : X.N.Nodup) (hO : List.Sublist F.O0 O) (hi : PI X tg iter (tI b F L O m)) (hfl : b = true ∨ FlatP α) (hb : BlkOk X.N X.env.scope scope own)
    (hok : TgOk F.K F.mg g (own.map (·.2)) bd) (ht : ∀ (s : Shared) (H : Hp) (C : Addr) (cl : List (Str × Addr)) (fp : List Addr), Tg (X.blk s H scope (compEnvC scope cl C X.env) fp) F.K F.mg tg g (own.map (·.2)) bd)
    (hp : ∀ (s : Shared) (H : Hp) (C : Addr) (cl : List (Str × Addr)) (fp : List Addr) (a : α) (D : Addr) (ds : List β), PTs (X.blk s H scope (compEnvC scope cl C X.env) fp) ifs (tB' F.nox (bd a (wipeL L (own.map (·.2)))) (ow F.K F.mg D ds :: O) (p a)))
    (he : ∀ (s : Shared) (H : Hp) (C : Addr) (cl : List (Str × Addr)) (fp : List Addr) (a : α) (D : Addr) (ds : List β), PE (X.blk s H scope (compEnvC scope cl C X.env) fp) elt (tP true F.nox (bd a (wipeL L (own.map (·.2)))) (ow F.K F.mg D ds :: O) (f a)))
    (hy : X.N[i]? = some y := by rfl) (hyl : X.env.scope.names.lookup y = some .local := by rfl) (hk : X.env.scope.kind = .function := by rfl) (hl : (p1.line == pos.line) = true := by rfl) (ha : (scope.names.any fun (n, k) => n == y && (k == .local || k == .cell)) = false := by rfl) (hpl : pos2.line = pos.line := by rfl)
    (hf : ∀ x, foldedSetIterable iter X.env x = pure x := by intro _; rfl) :
    PS X (.Assign [.Name y p1] (.ListComp elt [{ target := tg, iter := iter, ifs := ifs, is_async := 0 }] scope pos) pos2) (tN F L O (m.bind fun as => need (as.length ≤ sizeLine) (filtR (fun a => (p a).quiet) (fun a => (f a).quiet) as)) (fun as => L.set i (vl F.K F.mg as)) (fun _ => O)) := by
  refine ps_imp (ps_setLc hc hN hy hyl (sw_true hk hyl hl ha) hi hb (fun s H C cl fp => (ht s H C cl fp).pg) (fun s H C cl fp => pts_ex fun a => pts_ex fun D => pts_ex fun ds => hp s H C cl fp a D ds) (fun s H C cl fp => pe_ex fun a => pe_ex fun D => pe_ex fun ds => he s H C cl fp a D ds) hf) fun D σ H ⟨g0, q⟩ => ?_
  refine comp_core _ _ rfl hfl hok rfl rfl σ H (fun x H1 => gName i x σ H1 D.nx) ⟨g0, q.mono (fun as k p vs H1 g1 s1 h1 h2 r1 => ?_) fun H' ⟨a, _⟩ => a.go.sub hO⟩
  refine k _ _ ⟨set_ok (p := vl F.K F.mg as) ?_ i g1.slots, g1.go⟩
  refine ⟨p, vs, rfl, ?_, r1.mono less_same⟩
  show less H1 (addrs O ++ F.A) p = some (.lst vs)
  rw [less_out (g0.go.out h1)]
  exact h2
/-- an owned list -/
theorem s_ownLc (i : Nat) (hc : X.calm = true) (hN : X.N.Nodup) (hO : List.Sublist F.O0 O) (hi : PI X tg iter (tI b F L O m)) (hfl : b = true ∨ FlatP α) (hb : BlkOk X.N X.env.scope scope own)
    (hok : TgOk F.K F.mg g (own.map (·.2)) bd) (ht : ∀ (s : Shared) (H : Hp) (C : Addr) (cl : List (Str × Addr)) (fp : List Addr), Tg (X.blk s H scope (compEnvC scope cl C X.env) fp) F.K F.mg tg g (own.map (·.2)) bd)
    (hp : ∀ (s : Shared) (H : Hp) (C : Addr) (cl : List (Str × Addr)) (fp : List Addr) (a : α) (D : Addr) (ds : List β), PTs (X.blk s H scope (compEnvC scope cl C X.env) fp) ifs (tB' F.nox (bd a (wipeL L (own.map (·.2)))) (ow F.K F.mg D ds :: O) (p a)))
    (he : ∀ (s : Shared) (H : Hp) (C : Addr) (cl : List (Str × Addr)) (fp : List Addr) (a : α) (D : Addr) (ds : List β), PE (X.blk s H scope (compEnvC scope cl C X.env) fp) elt (tP true F.nox (bd a (wipeL L (own.map (·.2)))) (ow F.K F.mg D ds :: O) (f a)))
    (hy : X.N[i]? = some y := by rfl) (hyl : X.env.scope.names.lookup y = some .local := by rfl) (hk : X.env.scope.kind = .function := by rfl) (hl : (p1.line == pos.line) = true := by rfl) (ha : (scope.names.any fun (n, k) => n == y && (k == .local || k == .cell)) = false := by rfl) (hpl : pos2.line = pos.line := by rfl)
    (hf : ∀ x, foldedSetIterable iter X.env x = pure x := by intro _; rfl) :
    PS X (.Assign [.Name y p1] (.ListComp elt [{ target := tg, iter := iter, ifs := ifs, is_async := 0 }] scope pos) pos2) (tNp F L O (m.bind fun as => need (as.length ≤ sizeLine) (filtR (fun a => (p a).quiet) (fun a => (f a).quiet) as)) (fun p _ => L.set i (rf p)) (fun p as => ow F.K F.mg p as :: O)) := by
  refine ps_imp (ps_setLc hc hN hy hyl (sw_true hk hyl hl ha) hi hb (fun s H C cl fp => (ht s H C cl fp).pg) (fun s H C cl fp => pts_ex fun a => pts_ex fun D => pts_ex fun ds => hp s H C cl fp a D ds) (fun s H C cl fp => pe_ex fun a => pe_ex fun D => pe_ex fun ds => he s H C cl fp a D ds) hf) fun D σ H ⟨g0, q⟩ => ?_
  refine comp_core _ _ rfl hfl hok rfl rfl σ H (fun x H1 => gName i x σ H1 D.nx) ⟨g0, q.mono (fun as k p vs H1 g1 s1 h1 h2 r1 => ?_) fun H' ⟨a, _⟩ => a.go.sub hO⟩
  exact k p _ _ ⟨set_ok (p := rf p) rfl i (L2.Paired.mapP g0.slots fun _ _ z => z.mono (rg_new rfl s1 h1)), go_new g0 g1.go s1 h1 h2 r1⟩
end
/-! repr of an int -/
theorem n_repr {b1 b3 : Bool} {m : Res Int} {t : TA} (h : PE X e (tCB (fun xs H Q => ∃ i, xs = [.int i] ∧ i.natAbs.log2 < 1920 ∧ Q (.str (PySem.Str.ofString (toString i))) H) t)) (ht : t = tCons (tP b1 F L O m) tNil) : PE X e (tP b3 F L O (m.bind fun i => need (i.natAbs.log2 < 1920) (.ok (PySem.Str.ofString (toString i))))) := pe_imp h fun σ H Q ⟨g, q⟩ => by
  subst ht
  rw [out_bind] at q
  refine ⟨g, q.mono (fun i k v H1 g1 s1 r1 => ?_) fun _ z => z⟩
  rw [out_need] at k
  exact ⟨i, by cases r1; rfl, k.1, k.2 _ H1 g1 s1 rfl⟩
end
/-! the script -/
structure Scr where
  ns : List Int
instance : Rep Scr := ⟨fun K _ H v a => ∃ p, v = .ref p ∧ SqL K H p (a.ns.map V.int), fun e ⟨p, h1, h2⟩ => ⟨p, h1, e.seq h2⟩⟩
theorem reps_ints {K : Fg} {mg : MG} {H : Hp} (ns : List Int) : Reps K mg H (ns.map V.int) ns := reps_flat.mpr rfl
instance : Lk Scr Int := ⟨Scr.ns, fun ⟨p, h1, h2⟩ => ⟨p, _, h1, .inl h2, reps_ints _⟩⟩
section
variable {X : Cx} {F : Fr} {L : List (Option Asr)} {O : List Own}
theorem f_sliceS {x : Expr} {b : Bool} {ma : Res Scr} {lo hi : Option Expr} {ml mh : Res (Option Int)} {p1 p2 : Pos} (hx : PE X x (tP b F L O ma)) (hl : PO X lo (tO F L O ml)) (hh : PO X hi (tO F L O mh)) (hK : X.K = F.K := by rfl) :
    PE X (.Subscript x (.Slice lo hi none p2) p1) (tF b F L O (ma.bind fun x => ml.bind fun l => mh.bind fun h => .ok (cut x.ns l h))) := pe_imp (pe_slice sl_list hx hl hh) fun σ H Q ⟨g, q⟩ => by
  rw [out_bind] at q
  refine ⟨g, q.mono (fun x qx v1 H1 g1 s1 r1 => ?_) fun _ z => z⟩
  rw [out_bind] at qx
  refine ⟨g1, qx.mono (fun l ql H2 g2 s2 => ?_) fun H' ⟨a, b⟩ => ⟨a, s1.trans b⟩⟩
  rw [out_bind] at ql
  refine ⟨g2, ql.mono (fun h qh H3 g3 s3 => ?_) fun H' ⟨a, b⟩ => ⟨a, (s1.trans s2).trans b⟩⟩
  obtain ⟨p, rfl, h2⟩ := r1
  refine ⟨p, x.ns.map V.int, rfl, ?_, kf_new g3 (KF.mono ((s1.trans s2).trans s3) qh) ?_⟩
  · rw [hK]
    exact (s2.trans s3).seq (rgn_sub.seq h2)
  · unfold cutV cut
    rw [List.length_map]
    exact reps_take _ (reps_drop _ (reps_ints _))
end
theorem FnOk.weaker {P : Program} {w : World} {K : Fg} {mg : MG} {base : Heap} {CX : CXT} {k : Nat} {f : Addr} {fd : FuncData} {ps : List Str} {sp sp' : Sp} (F : FnOk P w K mg base CX k f fd ps sp) (i : ∀ vs H Q E, sp' vs H Q E → sp vs H Q E) : FnOk P w K mg base CX k f fd ps sp' :=
  ⟨fun vs H Q E h => F.len _ _ _ _ (i _ _ _ _ h), fun A outer s H args us vs Q E h1 h2 h3 h4 h => F.run A outer s H args us vs Q E h1 h2 h3 h4 (i _ _ _ _ h)⟩
/-- a law over a list of ints -/
def spLaw (K : Fg) (n : Nat) : Sp := fun vs H Q _ => ∃ (a : Addr) (ns : List Int), vs = [.ref a] ∧ SqL K H a (ns.map V.int) ∧ ns.length ≤ n ∧ ∀ H', Q (.bl true) H'
theorem law_of {P : Program} {w : World} {K : Fg} {mg : MG} {base : Heap} {k n : Nat} {f : Addr} {fd : FuncData} {ps : List Str} {mir : Ar Scr Unit → Res Bool} (F : FnOk P w K mg base CX0 k f fd ps (spP K mg mir)) (math : ∀ ns : List Int, ns.length ≤ n → mir ⟨⟨ns⟩, ()⟩ = .ok true) :
    FnOk P w K mg base CX0 k f fd ps (spLaw K n) := FnOk.weaker F fun vs H Q E ⟨a, ns, e, h, hl, q⟩ => by
  refine ⟨⟨⟨ns⟩, ()⟩, [], fun _ z => (List.not_mem_nil z).elim, ?_, ?_⟩
  · subst e
    refine ⟨_, _, rfl, ⟨a, rfl, ?_⟩, rfl⟩
    have : Same H (less H []) := fun b o z => by rw [less_out List.not_mem_nil]; exact z
    exact this.seq h
  · rw [math ns hl]
    intro v H' _ r
    have r' : v = .bl true := r
    rw [r']
    exact q H'
end NF

set_option Elab.async false
set_option linter.all false
set_option maxRecDepth 100000
/-! Nf17: module constants, chains of comparisons, ranges with a step, backward slices, calls that may raise and give a new list, defs that give nothing, errors without fields. -/
namespace NF
open PySem PySem.Spec PyProof.Rows L2
open Data (toD)
/-! ### module constants -/
structure GlobV (mg : MG) (x : Str) (v : V) : Prop where
  ex : ∃ u, mg x = some u ∧ RelV v u
section
variable {X : Cx} {F : Fr} {L : List (Option Asr)} {O : List Own} {α β γ s ι : Type} [Rep α] [Rep β] [Rep γ] [Rep s] [Rep ι]
theorem n_glob [Flat α] {x : Str} {pos : Pos} {b : Bool} {a : α} (h : GlobV X.mg x (Flat.enc a)) (hg : Gl X x := by rfl) (hd : (x == ("__debug__" : Str)) = false := by decide) : PE X (.Name x pos) (tP b F L O (.ok a)) := by
  obtain ⟨u, h1, h2⟩ := h.ex
  exact n_c (pe_glob hg h1 h2 hd)
/-! ### a < b < c -/
theorem nf_chain {e : Expr} {b1 b2 b4 b3 : Bool} {ma mb mc : Res Int} (f g : Int → Int → Bool) (h : PE X e (tChain (rI0 fun i j => .bl (f i j)) (rI0 fun i j => .bl (g i j)) (tP b1 F L O ma) (tP b2 F L O mb) (tP b4 F L O mc))) :
    PE X e (tP b3 F L O (ma.bind fun x => mb.bind fun y => if f x y then mc.bind fun z => .ok (g y z) else .ok false)) := pe_imp h fun σ H Q ⟨g0, q⟩ => by
  rw [out_bind] at q
  refine ⟨g0, q.mono (fun x qx v1 H1 g1 s1 r1 => ?_) fun _ z => z⟩
  rw [out_bind] at qx
  refine ⟨g1, qx.mono (fun y qy v2 H2 g2 s2 r2 => ?_) fun H' ⟨a, b⟩ => ⟨a, s1.trans b⟩⟩
  refine ⟨x, y, r1, r2, f x y, rfl, ?_⟩
  cases hf : f x y with
  | false =>
    rw [hf] at qy
    exact qy (.bl false) H2 g2 (s1.trans s2) rfl
  | true =>
    rw [hf] at qy
    simp only [if_true] at qy ⊢
    rw [out_bind] at qy
    exact ⟨g2, qy.mono (fun z kz v3 H3 g3 s3 r3 => ⟨y, z, r2, r3, kz (.bl (g y z)) H3 g3 ((s1.trans s2).trans s3) rfl⟩) fun H' ⟨a, b⟩ => ⟨a, (s1.trans s2).trans b⟩⟩
theorem nf_chainT {e : Expr} {b1 b2 b4 : Bool} {ma mb mc : Res Int} (f g : Int → Int → Bool) (h : PT X e (tTest (tChain (rI0 fun i j => .bl (f i j)) (rI0 fun i j => .bl (g i j)) (tP b1 F L O ma) (tP b2 F L O mb) (tP b4 F L O mc)))) :
    PT X e (tB' F L O (ma.bind fun x => mb.bind fun y => if f x y then mc.bind fun z => .ok (g y z) else .ok false)) := pt_imp h fun σ H Q ⟨g0, q⟩ => by
  rw [out_bind] at q
  refine ⟨g0, q.mono (fun x qx v1 H1 g1 s1 r1 => ?_) fun _ z => z⟩
  rw [out_bind] at qx
  refine ⟨g1, qx.mono (fun y qy v2 H2 g2 s2 r2 => ?_) fun H' ⟨a, b⟩ => ⟨a, s1.trans b⟩⟩
  refine ⟨x, y, r1, r2, f x y, rfl, ?_⟩
  cases hf : f x y with
  | false =>
    rw [hf] at qy
    exact ⟨false, rfl, qy H2 g2 (s1.trans s2)⟩
  | true =>
    rw [hf] at qy
    simp only [if_true] at qy ⊢
    rw [out_bind] at qy
    exact ⟨g2, qy.mono (fun z kz v3 H3 g3 s3 r3 => ⟨y, z, r2, r3, g y z, rfl, kz H3 g3 ((s1.trans s2).trans s3)⟩) fun H' ⟨a, b⟩ => ⟨a, (s1.trans s2).trans b⟩⟩
/-! ### wide operators -/
@[irreducible] def decCDivW : ∀ i j, Decidable (CDivW i j) := fun i j => by unfold CDivW; infer_instance
instance : ∀ i j, Decidable (CDivW i j) := decCDivW
theorem n_fdivW {x y : Expr} {b1 b2 b3 : Bool} {ma mb : Res Int} {pos : Pos} (hx : PE X x (tP b1 F L O ma)) (hy : PE X y (tP b2 F L O mb)) : PE X (.BinOp x .FloorDiv y pos) (tP b3 F L O (ma.bind fun x => mb.bind fun y => need (CDivW x y) (.ok (x / y)))) := nf2 (pe_op op_fdivW hx hy) (rr_I (g := fun x y => x / y))
/-! ### statements -/
/-- e, for nothing but what it may raise -/
theorem s_expr {e : Expr} {pos : Pos} {b : Bool} {m : Res α} (he : PE X e (tP b F L O m)) (hO : List.Sublist F.O0 O) (hs : swapsWith e none pos.line X.env = pure false := by rfl) :
    PS X (.Expr e pos) (tN F L O (m.bind fun _ => .ok ()) (fun _ => L) (fun _ => O)) := ps_imp (ps_expr he hs) fun D σ H ⟨g, q⟩ => by
  rw [out_bind] at q
  exact ⟨g, q.mono (fun a k v H1 g1 s1 r1 => k _ _ g1) fun H' ⟨a, _⟩ => a.go.sub hO⟩
/-- goes on or hands back, then goes on or hands back -/
def goOnM {B B' D' : Type} (m : Res (Sum B D')) (f : B → Res (Sum B' D')) : Res (Sum B' D') := m.bind fun r => match r with
  | .inl b => f b
  | .inr d => .ok (.inr d)
theorem m_M {B B' D' : Type} {st : Stmt} {rest : List Stmt} {m1 : Res (Sum B D')} {m2 : B → Res (Sum B' D')} {L' : B → List (Option Asr)} {O' : B → List Own} {L2' : B' → List (Option Asr)} {O2' : B' → List Own} {Ret : D' → V → Hp → Prop} (h1 : PS X st (tM F L O m1 L' O' Ret)) (h2 : ∀ b, PSs X rest (tM F (L' b) (O' b) (m2 b) L2' O2' Ret)) :
    PSs X (st :: rest) (tM F L O (goOnM m1 m2) L2' O2' Ret) := pss_imp (pss_cons h1 (pss_ex h2)) fun D σ H ⟨g, q⟩ => by
  unfold goOnM at q
  rw [out_bind] at q
  refine ⟨g, q.mono (fun r k => ?_) fun _ z => z⟩
  cases r with
  | inl b => exact fun σ' H' g' => ⟨b, g', k⟩
  | inr d => exact k
/-! ### xs[::-1], range(a, b, c) -/
theorem f_rev {e : Expr} {b : Bool} {m : Res (List α)} {k : Nat} {p1 p2 p3 pos : Pos} (he : PE X e (tP b F L O m)) (hK : X.K = F.K := by rfl) : PE X (.Subscript e (.Slice none none (some (.UnaryOp .USub (.Constant (.int 1) k p1) p2)) p3) pos) (tF b F L O (m.bind fun xs => .ok xs.reverse)) := pe_imp (pe_revL he) fun σ H Q ⟨g, q⟩ => by
  rw [out_bind] at q
  refine ⟨g, q.mono (fun xs k v H1 g1 s1 r1 => ?_) fun _ z => z⟩
  obtain ⟨p, vs, rfl, h2, h3⟩ := r1
  rw [hK]
  exact ⟨p, vs, rfl, .of (rgn_sub _ _ h2), kf_new g1 (KF.mono s1 k) (reps_reverse h3)⟩
where
  reps_reverse {K : Fg} {mg : MG} {H : Hp} : ∀ {vs : List V} {as : List α}, Reps K mg H vs as → Reps K mg H vs.reverse as.reverse
  | _, _, .nil => .nil
  | _, _, .cons r t => by
    rw [List.reverse_cons, List.reverse_cons]
    exact reps_append (reps_reverse t) (.cons r .nil)
def irange3 (lo hi c : Int) : List Int := (List.range (Builtin.Range.rangeSize lo hi c).toNat).map fun i : Nat => lo + (i : Int) * c
def srcR3 {K : Fg} {mg : MG} {lo hi c : Int} : Src K mg (Itc lo c (Builtin.Range.rangeSize lo hi c).toNat) (irange3 lo hi c) where
  src H := True
  mono e h := h
  Y := YFn fun i => .int (lo + (i : Nat) * c)
  walk := by
    have e : (irange3 lo hi c).length = (Builtin.Range.rangeSize lo hi c).toNat := by unfold irange3; simp
    rw [e]
    exact walk_rangeC
  ylds i H x H' y := by
    obtain ⟨rfl, y⟩ := y
    refine ⟨Same.refl _, fun Av _ h a ha => ?_⟩
    subst y
    unfold irange3 at ha
    rw [List.getElem?_map] at ha
    cases e : (List.range (Builtin.Range.rangeSize lo hi c).toNat)[i]? with
    | none => rw [e] at ha; cases ha
    | some j =>
      rw [e] at ha
      have : j = i := by
        have := List.getElem?_eq_some_iff.mp e
        obtain ⟨h1, h2⟩ := this
        rw [List.getElem_range] at h2
        exact h2.symm
      subst this
      cases ha
      rfl
theorem i_range3 {tg e e2 e3 : Expr} {b b1 b2 b' : Bool} {m m2 m3 : Res Int} {p pos : Pos} (h : PE X e (tP b F L O m)) (h2 : PE X e2 (tP b1 F L O m2)) (h3 : PE X e3 (tP b2 F L O m3)) (hm : X.mg "range" = none) (hg : Gl X "range" := by rfl)
    (hs1 : starEach [e, e2, e3] X.env = (false, eval e X.env) :: starEach [e2, e3] X.env := by rfl) (hs2 : starEach [e2, e3] X.env = (false, eval e2 X.env) :: starEach [e3] X.env := by rfl) (hs3 : starEach [e3] X.env = (false, eval e3 X.env) :: starEach [] X.env := by rfl) (hpl : (backTo pos (starEach [e2, e3] X.env)).any (·.1) = false := by rfl) :
    PI X tg (.Call (.Name "range" p) [e, e2, e3] [] pos) (tI b' F L O (m.bind fun lo => m2.bind fun hi => m3.bind fun c => need (c ≠ 0 ∧ c.natAbs < 1073741824 ∧ Builtin.Range.small lo hi c = true) (.ok (irange3 lo hi c)))) := pi_imp (pi_range3 hg hm (pa_cons h (pa_cons h2 (pa_cons h3 pa_nil hs3) hs2) hs1) hs1 hpl) fun σ H R ⟨g, q⟩ => by
  rw [out_bind] at q
  refine ⟨g, q.mono (fun n k v H1 g1 s1 r1 => ?_) fun _ z => z⟩
  rw [out_bind] at k
  refine ⟨g1, k.mono (fun n2 k v H2 g2 s2 r2 => ?_) fun H' ⟨a, b⟩ => ⟨a, s1.trans b⟩⟩
  rw [out_bind] at k
  refine ⟨g2, k.mono (fun n3 k v H3 g3 s3 r3 => ?_) fun H' ⟨a, b⟩ => ⟨a, (s1.trans s2).trans b⟩⟩
  rw [out_need] at k
  cases r1
  cases r2
  cases r3
  exact ⟨n, n2, n3, _, rfl, ⟨k.1.1, k.1.2.1, k.1.2.2, rangeSize_toNat n n2 n3⟩, k.2 _ H3 srcR3 g3 ((s1.trans s2).trans s3) trivial⟩
end
/-! ### defs that may raise: the three kinds of what they give -/
section
variable (K : Fg) (mg : MG) {τ ρ α : Type} [RepA τ] [Rep ρ] [Rep α]
/-- a new list, or raises -/
def spXF (mir : τ → Res (List α)) : Sp := fun vs H Q E => ∃ (a : τ) (A : List Addr), (∀ x ∈ A, H x ≠ none) ∧ RepA.rep K mg (less H A) vs a ∧
  Out (F0 K mg H A E) (mir a) (fun as => ∀ p ws H', Same H H' → H p = none → H' p = some (.lst ws) → Reps K mg (less (less H' A) [p]) ws as → Q (.ref p) H') (fun H' => Same H H')
end
section
variable {P : Program} {w : World} {K : PySem.W.Frag} {mg : Str → Option Value} {base : Heap} {τ ρ α : Type} [RepA τ] [Rep ρ] [Rep α]
variable {x qual : Str} {st : Stmt} {f : Addr} {fd : FuncData} {N ps : List Str} {k : Nat}
theorem def_XF {mir : τ → Res (List α)} (Fu : Fun K x qual st f fd) (S : FnScope N ps (defScope st)) (L0 : τ → List (Option Asr)) (hl : ∀ (vs : List V) (R : Hp) (a : τ), RepA.rep K mg R vs a → vs.length = ps.length ∧ Paired (SlotOk R) (L0 a) (start N vs))
    (body : ∀ (cdv : Value) (A : Around) (outer : List Env) (s : Shared) (H : Hp) (Av : List Addr) (E : XK) (a : τ), Room k (A.deeper (envOfC qual (defScope st) s.heap.objs.size f cdv)) →
      (∀ L O, TkX (cxOf (L2N.CX P w) P w K mg base N qual (defScope st) f cdv A outer s H E) (F0 K mg H Av E) L O) →
      PSs (cxOf (L2N.CX P w) P w K mg base N qual (defScope st) f cdv A outer s H E) (defBody st) (tT (F0 K mg H Av E) (L0 a) [] (mir a) (rF (F0 K mg H Av E)))) :
    FnOk P w K mg base (L2N.CX P w) (k + 1) f fd ps (spXF K mg mir) := by
  obtain ⟨oc, od, kV, doc, pm, an, cdv, ct, osl, rfl, lk, hcd⟩ := Fu.ex
  refine fn_of lk hcd S (fun vs H Q E ⟨a, A, _, h, _⟩ => (hl vs _ a h).1) fun A outer s H vs Q E hr ⟨a, Av, hA, h, q⟩ =>
    ⟨_, body cdv A outer s H Av E a hr fun L O => ⟨_, L2N.takes_of rfl rfl rfl rfl, fun c d σ H e _ => e⟩, ⟨(hl vs _ a h).2, go_start hA⟩, ?_⟩
  exact q.mono (fun r k v H' ⟨p, ws, e, g, h1, h2, h3, h4⟩ => by subst e; exact k p ws H' (go_same g) h1 h3 h4) fun H' g => go_same g
/-- nothing (None), or raises -/
theorem def_XU {mir : τ → Res (Sum Unit Unit)} (Fu : Fun K x qual st f fd) (S : FnScope N ps (defScope st)) (L0 : τ → List (Option Asr)) (Le : List (Option Asr)) (hl : ∀ (vs : List V) (R : Hp) (a : τ), RepA.rep K mg R vs a → vs.length = ps.length ∧ Paired (SlotOk R) (L0 a) (start N vs))
    (body : ∀ (cdv : Value) (A : Around) (outer : List Env) (s : Shared) (H : Hp) (Av : List Addr) (E : XK) (a : τ), Room k (A.deeper (envOfC qual (defScope st) s.heap.objs.size f cdv)) →
      (∀ L O, TkX (cxOf (L2N.CX P w) P w K mg base N qual (defScope st) f cdv A outer s H E) (F0 K mg H Av E) L O) →
      PSs (cxOf (L2N.CX P w) P w K mg base N qual (defScope st) f cdv A outer s H E) (defBody st) (tM (F0 K mg H Av E) (L0 a) [] (mir a) (fun _ : Unit => Le) (fun _ : Unit => []) (rV (F0 K mg H Av E)))) :
    FnOk P w K mg base (L2N.CX P w) (k + 1) f fd ps (spX K mg fun a => goOn (mir a) fun _ => .ok ()) := by
  obtain ⟨oc, od, kV, doc, pm, an, cdv, ct, osl, rfl, lk, hcd⟩ := Fu.ex
  refine fn_of lk hcd S (fun vs H Q E ⟨a, A, _, h, _⟩ => (hl vs _ a h).1) fun A outer s H vs Q E hr ⟨a, Av, hA, h, q⟩ =>
    ⟨_, body cdv A outer s H Av E a hr fun L O => ⟨_, L2N.takes_of rfl rfl rfl rfl, fun c d σ H e _ => e⟩, ⟨(hl vs _ a h).2, go_start hA⟩, ?_⟩
  unfold goOn at q
  rw [out_bind] at q
  refine q.mono (fun r k => ?_) fun H' g => go_same g
  cases r with
  | inl u => exact fun σ' H' g => k .non H' (go_same g.go) rfl
  | inr d => exact fun v H' ⟨g, r'⟩ => k v H' (go_same g) r'
end
section
variable {X : Cx} {F : Fr} {L : List (Option Asr)} {O : List Own} {τ ρ α : Type} [RepA τ] [Rep ρ] [Rep α]
variable {k : Nat} {ps : List Str} {x : Str} {p1 pos : Pos} {e : Expr} {es : List Expr} {b : Bool}
theorem f_callX {mir : τ → Res (List α)} {m : Res τ} (D : DefAt X.prog X.w X.K X.mg X.base (L2N.CX X.prog X.w) k x ps (spXF X.K X.mg mir)) (hr : Room k X.A) (tk : TkX X F L O) (ha : PA X (e :: es) (tA b F L O m)) (hg : Gl X x := by rfl) (hK : X.K = F.K := by rfl) (hM : X.mg = F.mg := by rfl) (hd : (x == ("__debug__" : Str)) = false := by decide)
    (hs : starEach (e :: es) X.env = (false, eval e X.env) :: starEach es X.env := by rfl) (hs2 : ((backTo pos (starEach es X.env)).any fun x => x.fst) = false := by rfl) : PE X (.Call (.Name x p1) (e :: es) [] pos) (tF b F L O (m.bind mir)) := by
  obtain ⟨f, fd, h1, h2, h3, h4⟩ := D.ex
  obtain ⟨W, tk, hW⟩ := tk
  refine pe_imp (pe_callS (E := WE W) h1 hr hg h2 h3 h4 (fun σ => L2N.passAt tk σ) ha hd hs hs2) fun σ H Q ⟨g, q⟩ => ?_
  rw [out_bind] at q
  refine ⟨g, q.mono (fun a qa vs H1 g1 s1 r1 => ?_) fun _ z => z⟩
  refine ⟨a, avoid b F O, g1.go.avoided, by rw [hK, hM, ← rgn_avoid]; exact r1, ?_⟩
  rw [hK, hM]
  cases e : mir a with
  | ok r =>
    rw [e] at qa
    exact fun p ws H' s2 h1 h2 r2 => qa p ws H' (g1.grow s2) (s1.trans s2) (s1.free h1) h2 (by rw [rgn_avoid]; exact r2)
  | err c fs =>
    rw [e] at qa
    exact fun C d H' h1 h2 h4 => hW _ _ _ _ (qa C d H' h1 (h2.older g1.go.live) ⟨g1.grow h4, s1.trans h4⟩) (g1.grow h4)
  | bad =>
    rw [e] at qa
    exact qa.elim
/-- a call that may raise, where it does not -/
theorem n_callXq {mir : τ → Res ρ} {m : Res τ} (D : DefAt X.prog X.w X.K X.mg X.base (L2N.CX X.prog X.w) k x ps (spX X.K X.mg mir)) (hr : Room k X.A) (ha : PA X (e :: es) (tA b F L O m)) (hg : Gl X x := by rfl) (hK : X.K = F.K := by rfl) (hM : X.mg = F.mg := by rfl) (hd : (x == ("__debug__" : Str)) = false := by decide)
    (hs : starEach (e :: es) X.env = (false, eval e X.env) :: starEach es X.env := by rfl) (hs2 : ((backTo pos (starEach es X.env)).any fun x => x.fst) = false := by rfl) : PE X (.Call (.Name x p1) (e :: es) [] pos) (tP b F L O (m.bind fun a => (mir a).quiet)) := by
  obtain ⟨f, fd, h1, h2, h3, h4⟩ := D.ex
  refine pe_imp (pe_callS (E := WE (fun _ _ _ _ => False)) h1 hr hg h2 h3 h4 (fun σ => L2N.passAt takes0N σ) ha hd hs hs2) fun σ H Q ⟨g, q⟩ => ?_
  rw [out_bind] at q
  refine ⟨g, q.mono (fun a qa vs H1 g1 s1 r1 => ?_) fun _ z => z⟩
  refine ⟨a, avoid b F O, g1.go.avoided, by rw [hK, hM, ← rgn_avoid]; exact r1, ?_⟩
  rw [hK, hM]
  cases e : mir a with
  | ok r =>
    rw [e] at qa
    exact fun v H' s2 r2 => qa v H' (g1.grow s2) (s1.trans s2) (by rw [rgn_avoid]; exact r2)
  | err c fs =>
    rw [e] at qa
    exact qa.elim
  | bad =>
    rw [e] at qa
    exact qa.elim
theorem f_callXq {mir : τ → Res (List α)} {m : Res τ} (D : DefAt X.prog X.w X.K X.mg X.base (L2N.CX X.prog X.w) k x ps (spXF X.K X.mg mir)) (hr : Room k X.A) (ha : PA X (e :: es) (tA b F L O m)) (hg : Gl X x := by rfl) (hK : X.K = F.K := by rfl) (hM : X.mg = F.mg := by rfl) (hd : (x == ("__debug__" : Str)) = false := by decide)
    (hs : starEach (e :: es) X.env = (false, eval e X.env) :: starEach es X.env := by rfl) (hs2 : ((backTo pos (starEach es X.env)).any fun x => x.fst) = false := by rfl) : PE X (.Call (.Name x p1) (e :: es) [] pos) (tF b F L O (m.bind fun a => (mir a).quiet)) := by
  obtain ⟨f, fd, h1, h2, h3, h4⟩ := D.ex
  refine pe_imp (pe_callS (E := WE (fun _ _ _ _ => False)) h1 hr hg h2 h3 h4 (fun σ => L2N.passAt takes0N σ) ha hd hs hs2) fun σ H Q ⟨g, q⟩ => ?_
  rw [out_bind] at q
  refine ⟨g, q.mono (fun a qa vs H1 g1 s1 r1 => ?_) fun _ z => z⟩
  refine ⟨a, avoid b F O, g1.go.avoided, by rw [hK, hM, ← rgn_avoid]; exact r1, ?_⟩
  rw [hK, hM]
  cases e : mir a with
  | ok r =>
    rw [e] at qa
    exact fun p ws H' s2 h1 h2 r2 => qa p ws H' (g1.grow s2) (s1.trans s2) (s1.free h1) h2 (by rw [rgn_avoid]; exact r2)
  | err c fs =>
    rw [e] at qa
    exact qa.elim
  | bad =>
    rw [e] at qa
    exact qa.elim
end
/-! ### raise C(), C an own error without __init__ -/
/-- the class x, an own error (over ValueError in the end) without an __init__ of its own -/
structure Err0 (K : Fg) (mg : MG) (x : Str) : Prop where
  ex : ∃ C, mg x = some (.ref C) ∧ PySem.W.excIn K C [.type "ValueError", .type "Exception", .type "BaseException", .type "object"] "ValueError.__new__" = true ∧ PySem.W.keepIn K (.ref C) = true ∧ PySem.W.subIn K (.ref C) (.type "BaseException") = some true ∧ PySem.W.typeIn K (.ref C) = some (.type "type")
section
variable {X : Cx} {p pos pos2 : Pos} {x : Str}
theorem pmkN_own0 {C : Addr} {bmB : List Value} {B newId initId : String} (F : ExcBaseFacts B newId initId bmB) (q : PySem.W.excIn X.K C bmB newId = true) (gC : X.mg x = some (.ref C)) (kC : PySem.W.keepIn X.K (.ref C) = true) (r : Raises X (.ref C)) (hg : Gl X x)
    (hdb : (x == ("__debug__" : Str)) = false := by decide) : L2N.PMk X (.Call (.Name x p) [] [] pos) (fun _ H Q => Q (.ref C) none H) := by
  intro pins s σ H Q I h
  refine wpAny_Call_Name_kw (ld_glob I hg gC ?_ hdb)
  refine PySem.W.callWith_K0 I.kIn kC ?_
  show wpAny _ _ (call (.ref C) []) _ _ _
  obtain ⟨bm, N, nm, qn, bs, hdct, sn, sub, ab, col, dd, k0, k1, k2, k3, k5, mN, hC, hN, hni, T⟩ := exc_obj I.kIn q
  refine wpAny_call_exc_subT F T hC hN hni (fun h' e hm => ?_) (Nat.zero_le _)
  exact L2N.mk_of I hm r h (I.hok.gone hm.new)
variable {F : Fr} {L : List (Option Asr)} {O : List Own} {D' : Type} {Ret : D' → V → Hp → Prop}
/-- raise x() -/
theorem s_raise0 (D : Err0 X.K X.mg x) (hc : X.calm = true) (tk : TkX X F L O) (hO : List.Sublist F.O0 O) (hg : Gl X x := by rfl) (hM : X.mg = F.mg := by rfl) (hdb : (x == ("__debug__" : Str)) = false := by decide) :
    PS X (.Raise (some (.Call (.Name x p) [] [] pos)) none pos2) (tT F L O (.err x []) Ret) := by
  obtain ⟨C, hm, h1, h2, h3, h4⟩ := D.ex
  obtain ⟨W, tk, hW⟩ := tk
  refine ps_imp (L2N.ps_raise hc tk (pmkN_own0 PySem.F.excBase_ValueError h1 hm h2 (raises_own h3 h4) hg hdb)) fun D σ H ⟨g, q⟩ => ?_
  exact hW _ _ _ _ (q C none H (hM ▸ hm) rfl (g.go.sub hO)) g
end
end NF

set_option Elab.async false
set_option linter.all false
set_option maxRecDepth 100000
/-! Nf18: what changes the owned list: further operators, comparisons as values, places, displays, walks; a try that gives a new list. -/
namespace NF
open PySem PySem.Spec PyProof.Rows L2
open Data (toD)
section
variable {X : Cx} {F : Fr} {L : List (Option Asr)} {p : Addr} {O : List Own} {α β γ s ι : Type} [Rep α] [Rep β] [Rep γ] [Rep s] [OwR ι] {xs : ι}
section
variable {x y : Expr} {pos : Pos} {b1 b2 b3 : Bool} {ma : Res (Int × ι)} {mb : ι → Res (Int × ι)}
variable (hx : PE X x (tE b1 F L p xs O ma)) (hy : ∀ xs', PE X y (tE b2 F L p xs' O (mb xs'))) (hO : ∀ xs' : ι, List.Sublist F.O0 (ow F.K F.mg p xs' :: O))
include hx hy hO
theorem e_shl : PE X (.BinOp x .LShift y pos) (tE b3 F L p xs O (ma.bind fun u => (mb u.2).bind fun w => (need (CPow u.1 w.1) (.ok (u.1 * 2 ^ w.1.toNat))).bind fun z => .ok (z, w.2))) := ne2 (pe_op op_shl) hx hy (fun _ => rr_I (g := fun x y => x * 2 ^ y.toNat)) hO
theorem e_shr : PE X (.BinOp x .RShift y pos) (tE b3 F L p xs O (ma.bind fun u => (mb u.2).bind fun w => (need (0 ≤ w.1) (.ok (u.1 / 2 ^ w.1.toNat))).bind fun z => .ok (z, w.2))) := ne2 (pe_op op_shr) hx hy (fun _ => rr_I (C := fun _ y => 0 ≤ y) (g := fun x y => x / 2 ^ y.toNat)) hO
theorem e_pow : PE X (.BinOp x .Pow y pos) (tE b3 F L p xs O (ma.bind fun u => (mb u.2).bind fun w => (need (CPow u.1 w.1) (.ok (u.1 ^ w.1.toNat))).bind fun z => .ok (z, w.2))) := ne2 (pe_op op_pow) hx hy (fun _ => rr_I (g := fun x y => x ^ y.toNat)) hO
theorem e_bxor : PE X (.BinOp x .BitXor y pos) (tE b3 F L p xs O (ma.bind fun u => (mb u.2).bind fun w => .ok (Builtin.bitXor u.1 w.1, w.2))) := ne2 (pe_op op_xor) hx hy (fun _ => rr_I0 (g := fun x y => Builtin.bitXor x y)) hO
theorem e_band : PE X (.BinOp x .BitAnd y pos) (tE b3 F L p xs O (ma.bind fun u => (mb u.2).bind fun w => .ok (Builtin.bitAnd u.1 w.1, w.2))) := ne2 (pe_op op_and) hx hy (fun _ => rr_I0 (g := fun x y => Builtin.bitAnd x y)) hO
theorem e_bor : PE X (.BinOp x .BitOr y pos) (tE b3 F L p xs O (ma.bind fun u => (mb u.2).bind fun w => .ok (Builtin.bitOr u.1 w.1, w.2))) := ne2 (pe_op op_or) hx hy (fun _ => rr_I0 (g := fun x y => Builtin.bitOr x y)) hO
theorem et_le : PT X (.Compare x [.LtE] [y] pos) (tEB F L p xs O (ma.bind fun u => (mb u.2).bind fun w => .ok (decide (u.1 ≤ w.1), w.2))) := ne2t (mc := fun x y => .ok (decide (x ≤ y))) (fun h1 h2 => pt_cmpR op_le h1 h2 (nomark _)) hx hy (fun _ => rr_I0 (g := fun x y => decide (x ≤ y))) hO
theorem et_ge : PT X (.Compare x [.GtE] [y] pos) (tEB F L p xs O (ma.bind fun u => (mb u.2).bind fun w => .ok (decide (w.1 ≤ u.1), w.2))) := ne2t (mc := fun x y => .ok (decide (y ≤ x))) (fun h1 h2 => pt_cmpR op_ge h1 h2 (nomark _)) hx hy (fun _ => rr_I0 (g := fun x y => decide (y ≤ x))) hO
theorem en_lt : PE X (.Compare x [.Lt] [y] pos) (tE b3 F L p xs O (ma.bind fun u => (mb u.2).bind fun w => .ok (decide (u.1 < w.1), w.2))) := ne2 (mc := fun x y => .ok (decide (x < y))) (fun h1 h2 => pe_cmpR op_lt h1 h2 (nomark _)) hx hy (fun _ => rr_I0 (g := fun x y => decide (x < y))) hO
theorem en_le : PE X (.Compare x [.LtE] [y] pos) (tE b3 F L p xs O (ma.bind fun u => (mb u.2).bind fun w => .ok (decide (u.1 ≤ w.1), w.2))) := ne2 (mc := fun x y => .ok (decide (x ≤ y))) (fun h1 h2 => pe_cmpR op_le h1 h2 (nomark _)) hx hy (fun _ => rr_I0 (g := fun x y => decide (x ≤ y))) hO
theorem en_gt : PE X (.Compare x [.Gt] [y] pos) (tE b3 F L p xs O (ma.bind fun u => (mb u.2).bind fun w => .ok (decide (w.1 < u.1), w.2))) := ne2 (mc := fun x y => .ok (decide (y < x))) (fun h1 h2 => pe_cmpR op_gt h1 h2 (nomark _)) hx hy (fun _ => rr_I0 (g := fun x y => decide (y < x))) hO
theorem en_ge : PE X (.Compare x [.GtE] [y] pos) (tE b3 F L p xs O (ma.bind fun u => (mb u.2).bind fun w => .ok (decide (w.1 ≤ u.1), w.2))) := ne2 (mc := fun x y => .ok (decide (y ≤ x))) (fun h1 h2 => pe_cmpR op_ge h1 h2 (nomark _)) hx hy (fun _ => rr_I0 (g := fun x y => decide (y ≤ x))) hO
theorem en_eq : PE X (.Compare x [.Eq] [y] pos) (tE b3 F L p xs O (ma.bind fun u => (mb u.2).bind fun w => .ok (decide (u.1 = w.1), w.2))) := ne2 (mc := fun x y => .ok (decide (x = y))) (fun h1 h2 => pe_cmpR op_eq h1 h2 (nomark _)) hx hy (fun _ x y vx vy H σ Q g rx ry q => by
  cases rx; cases ry
  exact ⟨rfl, by rw [show decide (V.int x = V.int y) = decide (x = y) by simp]; exact kp_flat g q⟩) hO
theorem en_ne : PE X (.Compare x [.NotEq] [y] pos) (tE b3 F L p xs O (ma.bind fun u => (mb u.2).bind fun w => .ok (!decide (u.1 = w.1), w.2))) := ne2 (mc := fun x y => .ok (!decide (x = y))) (fun h1 h2 => pe_cmpR op_ne h1 h2 (nomark _)) hx hy (fun _ x y vx vy H σ Q g rx ry q => by
  cases rx; cases ry
  exact ⟨rfl, by rw [show decide (V.int x = V.int y) = decide (x = y) by simp]; exact kp_flat g q⟩) hO
end
/-- what stands outside the list stays -/
theorem kb_rg {xs' ys : ι} {H1 H2 : Hp} (s2 : KeepBut p H1 H2) : Same (rg F (ow F.K F.mg p xs' :: O) H1) (rg F (ow F.K F.mg p ys :: O) H2) := fun a o z => by
  have hb : a ∉ addrs (ow F.K F.mg p xs' :: O) ++ F.A := fun y => by unfold rg at z; rw [less_in y] at z; cases z
  unfold rg at z ⊢
  rw [less_out hb] at z
  rw [less_out (show a ∉ addrs (ow F.K F.mg p ys :: O) ++ F.A from hb)]
  exact s2 _ _ z (fun y => hb (by rw [y]; exact List.mem_append_left _ List.mem_cons_self))
theorem ne2s {x y e : Expr} {r : R2} {ma : Res (α × ι)} {mb : ι → Res (β × ι)} {mc : α → β → Res γ} (c : ∀ {ta tb : TE}, PE X x ta → PE X y tb → PE X e (tOp r ta tb))
    (hx : PE X x (tE true F L p xs O ma)) (hy : ∀ xs', PE X y (tE true F L p xs' O (mb xs'))) (hr : ∀ xs' : ι, RR F L (ow F.K F.mg p xs' :: O) true true true r mc) (hO : ∀ xs' : ι, List.Sublist F.O0 (ow F.K F.mg p xs' :: O)) :
    PE X e (tE true F L p xs O (ma.bind fun u => (mb u.2).bind fun w => (mc u.1 w.1).bind fun z => .ok (z, w.2))) := pe_imp (c hx (pe_ex hy)) fun σ H Q ⟨g, q⟩ => by
  rw [out_bind] at q
  refine ⟨g, q.mono (fun u qx v1 H1 g1 s1 r1 => ?_) fun _ z => z⟩
  rw [out_bind] at qx
  refine ⟨u.2, g1, qx.mono (fun w qy v2 H2 g2 s2 r2 => ?_) fun _ z => z⟩
  rw [out_bind] at qy
  exact hr w.2 u.1 w.1 v1 v2 H2 σ Q g2 (Rep.mono (kb_rg s2) r1) r2 (qy.mono (fun z kz v H' g' s' r' => kz v H' g' ((s1.trans s2).trans (.of s')) r') fun H' ⟨a, b⟩ => a.go.sub (hO _))
theorem rr_idx [Lk s α] {b1 b2 : Bool} (hK : X.K = F.K) : RR F L O b1 b2 b1 (fun x y H Q => rIxL X.K x y H Q ∨ rIxT X.K x y H Q) fun (x : s) (y : Int) => idx (Lk.its x) y := fun x y vx vy H σ Q g rx ry q => by
  unfold idx at q
  dsimp only at q
  cases e : atI (Lk.its x) y with
  | none => rw [e] at q; exact q.elim
  | some a =>
    rw [e] at q
    obtain ⟨p, vs, h1, h2, h3⟩ := Lk.get rx
    obtain ⟨v, h4, h5⟩ := at_get h3 e
    subst h1
    cases ry
    rw [hK]
    rcases h2 with h2 | h2
    · exact .inl ⟨p, vs, y, v, rfl, rfl, rgn_sub.seq h2, h4, q v H g (Same.refl _) h5⟩
    · exact .inr ⟨p, vs, y, v, rfl, rfl, same_t rgn_sub h2, h4, q v H g (Same.refl _) h5⟩
theorem e_idx [Lk s α] {x y : Expr} {pos : Pos} {ma : Res (s × ι)} {mb : ι → Res (Int × ι)} (hx : PE X x (tE true F L p xs O ma)) (hy : ∀ xs', PE X y (tE true F L p xs' O (mb xs'))) (hO : ∀ xs' : ι, List.Sublist F.O0 (ow F.K F.mg p xs' :: O)) (hp : PlainIx y := by exact fun _ _ => rfl) (hK : X.K = F.K := by rfl) :
    PE X (.Subscript x y pos) (tE true F L p xs O (ma.bind fun u => (mb u.2).bind fun w => (idx (Lk.its u.1) w.1).bind fun z => .ok (z, w.2))) := ne2s (fun h1 h2 => pe_ix (ix_or ix_list ix_tup) h1 h2 hp) hx hy (fun _ => rr_idx hK) hO
/-! ### displays -/
def tEL (F : Fr) (L : List (Option Asr)) (p : Addr) (xs : ι) (O : List Own) (m : Res (List α × ι)) : TA := fun σ H Q =>
  G F L (ow F.K F.mg p xs :: O) σ H ∧ Out F m (fun r => ∀ vs H', G F L (ow F.K F.mg p r.2 :: O) σ H' → KeepBut p H H' → Reps F.K F.mg (rg F (ow F.K F.mg p r.2 :: O) H') vs r.1 → Q vs H') (XPS F)
theorem el_p {es : List Expr} {m : Res (List α)} (hO : List.Sublist F.O0 (ow F.K F.mg p xs :: O)) (h : PA X es (tL true F L (ow F.K F.mg p xs :: O) m)) : PA X es (tEL F L p xs O (m.bind fun a => .ok (a, xs))) := pa_imp h fun σ H Q ⟨g, q⟩ => by
  rw [out_bind] at q
  exact ⟨g, q.mono (fun a k vs H' g' s r => k vs H' g' (.of s) r) fun H' ⟨a, _⟩ => a.go.sub hO⟩
theorem el_cons {e : Expr} {es : List Expr} {ma : Res (α × ι)} {mr : ι → Res (List α × ι)} (he : PE X e (tE true F L p xs O ma)) (hr : ∀ xs', PA X es (tEL F L p xs' O (mr xs'))) (hs : starEach (e :: es) X.env = (false, eval e X.env) :: starEach es X.env := by rfl) :
    PA X (e :: es) (tEL F L p xs O (ma.bind fun u => (mr u.2).bind fun w => .ok (u.1 :: w.1, w.2))) := pa_imp (pa_cons he (pa_ex hr) hs) fun σ H Q ⟨g, q⟩ => by
  rw [out_bind] at q
  refine ⟨g, q.mono (fun u qx v1 H1 g1 s1 r1 => ?_) fun _ z => z⟩
  rw [out_bind] at qx
  refine ⟨u.2, g1, qx.mono (fun w qy v2 H2 g2 s2 r2 => ?_) fun _ z => z⟩
  exact qy _ H2 g2 (s1.trans s2) (.cons (Rep.mono (kb_rg s2) r1) r2)
theorem e_lst {es : List Expr} {m : Res (List α × ι)} {pos : Pos} (h : PA X es (tEL F L p xs O m)) : PE X (.List es pos) (tE true F L p xs O (m.bind fun r => need (r.1.length ≤ sizeLine) (.ok (r.1, r.2)))) := pe_imp (pe_lst h) fun σ H Q ⟨g, q⟩ => by
  rw [out_bind] at q
  refine ⟨g, q.mono (fun r qx vs H1 g1 s1 r1 => ?_) fun _ z => z⟩
  rw [out_need] at qx
  refine ⟨by rw [r1.length]; exact qx.1, fun p' hp => qx.2 _ _ (g1.grow (same_upd hp)) (s1.trans (.of (same_upd hp))) ?_⟩
  exact ⟨p', vs, rfl, rgn_new (b := true) g1 (same_upd hp) hp upd_same, r1.mono (rgn_grow (b := true) (same_upd hp))⟩
/-! ### walks -/
def tIE (F : Fr) (L : List (Option Asr)) (p : Addr) (xs : ι) (O : List Own) (m : Res (List α × ι)) : TI := fun σ H R =>
  G F L (ow F.K F.mg p xs :: O) σ H ∧ Out F m (fun r => ∀ J H' (S : Src F.K F.mg J r.1), G F L (ow F.K F.mg p r.2 :: O) σ H' → KeepBut p H H' → S.src (rg F (ow F.K F.mg p r.2 :: O) H') → R J H') (XPS F)
theorem i_lkE [Lk s α] {tg e : Expr} {m : Res (s × ι)} (h : PE X e (tE true F L p xs O m)) (hK : X.K = F.K := by rfl) : PI X tg e (tIE F L p xs O (m.bind fun r => .ok (Lk.its r.1, r.2))) := pi_imp (pi_seq h) fun σ H R ⟨g, q⟩ => by
  rw [out_bind] at q
  refine ⟨g, q.mono (fun x k v H1 g1 s1 r1 => ?_) fun _ z => z⟩
  obtain ⟨p, vs, h1, h2, h3⟩ := Lk.get r1
  refine ⟨p, vs, h1, ?_⟩
  rw [hK]
  rcases h2 with h2 | h2
  · exact .inl ⟨less_same.seq h2, k _ H1 (srcL h3.length) g1 s1 ⟨h2, h3⟩⟩
  · exact .inr ⟨same_t less_same h2, k _ H1 (srcT h3.length) g1 s1 ⟨h2, h3⟩⟩
theorem i_range1E {tg e : Expr} {b : Bool} {m : Res (Int × ι)} {p1 pos : Pos} (h : PE X e (tE b F L p xs O m)) (hm : X.mg "range" = none) (hg : Gl X "range" := by rfl) (h1 : starEach [e] X.env = (false, eval e X.env) :: starEach [] X.env := by rfl) (hs : starEach [e] X.env = [(false, eval e X.env)] := by rfl) :
    PI X tg (.Call (.Name "range" p1) [e] [] pos) (tIE F L p xs O (m.bind fun r => need (Rg62 r.1) (.ok (irange 0 r.1, r.2)))) := pi_imp (pi_range1 hg hm (pa_cons h pa_nil h1) hs) fun σ H R ⟨g, q⟩ => by
  rw [out_bind] at q
  refine ⟨g, q.mono (fun n k v H1 g1 s1 r1 => ?_) fun _ z => z⟩
  rw [out_need] at k
  obtain ⟨n, xs1⟩ := n
  have r1' : v = V.int n := r1
  subst r1'
  refine ⟨n, rfl, k.1.1, k.1.2, ?_⟩
  have e : (n - 0).toNat = n.toNat := by rw [Int.sub_zero]
  have kk := k.2 (Itr 0 (n - 0).toNat) H1 srcR g1 s1 trivial
  rw [e] at kk
  exact kk
theorem s_forE {B : Type} {tg iter : Expr} {g : TG} {vs : List Nat} {bd : α → List (Option Asr) → List (Option Asr)} {m : Res (List α × ι)} {f : α → B → Res B} {body : List Stmt} {pos : Pos} {L' : B → List (Option Asr)} {O' : B → List Own} {b0 : ι → B} (sp : ∀ xs', Sp3 L' O' (b0 xs'))
    (hp : PassesOwn (model X.prog X.w) X.A X.env X.xe) (hc : X.calm = true) (hi : PI X tg iter (tIE F L p xs O m)) (ht : Tg X F.K F.mg tg g vs bd) (hO : ∀ xs' : ι, List.Sublist F.O0 (ow F.K F.mg p xs' :: O)) (hw : ∀ xs' : ι, wk L (L' (b0 xs'))) (ho : ∀ xs' : ι, List.Sublist (O' (b0 xs')) (ow F.K F.mg p xs' :: O))
    (hb : ∀ z a b, PSs X body (tN (F.add z) (bd a (L' b)) (O' b) (f a b) L' O')) (hs : ∀ x, foldedSetIterable iter X.env x = pure x := by intro _; rfl) : PS X (.For tg iter body [] pos) (tN F L (ow F.K F.mg p xs :: O) (m.bind fun r => foldR f r.1 (b0 r.2)) L' O') := by
  have hb' : PSs X body (fun D σ H => ∃ z a b, tN (F.add z) (bd a (L' b)) (O' b) (f a b) L' O' D σ H) := pss_ex fun z => pss_ex fun a => pss_ex fun b => hb z a b
  have hg : PG X tg g := ht.pg
  refine ps_imp (ps_for hp hc hi hg hb' hs) fun D σ H ⟨g0, q⟩ => ?_
  rw [out_bind] at q
  refine ⟨g0, q.mono (fun r k J H1 S g1 s1 hS => ?_) fun _ z => z⟩
  obtain ⟨as, xs1⟩ := r
  have zf : ∃ z : Fact, z = ⟨S.src, fun e h => S.mono e h⟩ := ⟨_, rfl⟩
  obtain ⟨z, hz⟩ := zf
  refine for_it S.walk (g := g) (tb := fun D σ H => ∃ z a b, tN (F.add z) (bd a (L' b)) (O' b) (f a b) L' O' D σ H) (D := D) (σ := σ) (H := H1) (fun i σ H => ∃ b, G (F.add z) (L' b) (O' b) σ H ∧ Out F (foldR f (as.drop i) b) (fun b => ∀ σ' H', G F (L' b) (O' b) σ' H' → D.nx σ' H') (XPS F)) ⟨b0 xs1, ?_, k⟩ ?_ ?_ ?_
  · have g2 := g1.to (hw xs1) (ho xs1)
    refine ⟨g2.slots, g2.go.add z ?_⟩
    subst hz
    exact S.mono (rg_sub (ho xs1)) hS
  · rintro i σ H _ ⟨b, g2, _⟩
    have h := g2.go.fact
    subst hz
    exact S.mono less_same h
  · rintro i x σ H H' hi ⟨b, g2, q2⟩ y
    have ha : as[i]? = some as[i] := List.getElem?_eq_getElem hi
    rw [List.drop_eq_getElem_cons hi] at q2
    rw [show foldR f (as[i] :: List.drop (i + 1) as) b = (f as[i] b).bind fun b => foldR f (List.drop (i + 1) as) b from rfl, out_bind] at q2
    obtain ⟨s2, yy⟩ := S.ylds i H x H' y
    have hsrc : S.src (rg F (O' b) H) := by
      have h := g2.go.fact
      subst hz
      exact h
    have r2 : rp (F.add z) (rg F (O' b) H') x as[i] := yy _ (fun a ha z => g2.go.out z ha) hsrc _ ha
    have g3 := g2.grow s2
    refine ht.ok x as[i] σ H' (rg F (O' b) H') (L' b) _ less_same r2 g3.slots fun σ2 _ hs2 => ?_
    exact ⟨z, as[i], b, ⟨hs2, g3.go⟩, out_add.mpr (q2.mono (fun b' kb σ' H'' g' => ⟨b', g', kb⟩) fun H'' (x : GO (F.add z) F.O0 H'') => x.unadd)⟩
  · rintro σ H ⟨b, g2, q2⟩
    rw [List.drop_length] at q2
    exact q2 σ H ⟨g2.slots, g2.go.unadd⟩
theorem s_forME {B D' : Type} {tg iter : Expr} {g : TG} {vs : List Nat} {bd : α → List (Option Asr) → List (Option Asr)} {m : Res (List α × ι)} {f : α → B → Res (Sum B D')} {body : List Stmt} {pos : Pos} {Ret : D' → V → Hp → Prop} {L' : B → List (Option Asr)} {O' : B → List Own} {b0 : ι → B} (sp : ∀ xs', Sp3 L' O' (b0 xs'))
    (hp : PassesOwn (model X.prog X.w) X.A X.env X.xe) (hc : X.calm = true) (hi : PI X tg iter (tIE F L p xs O m)) (ht : Tg X F.K F.mg tg g vs bd) (hO : ∀ xs' : ι, List.Sublist F.O0 (ow F.K F.mg p xs' :: O)) (hw : ∀ xs' : ι, wk L (L' (b0 xs'))) (ho : ∀ xs' : ι, List.Sublist (O' (b0 xs')) (ow F.K F.mg p xs' :: O))
    (hb : ∀ z a b, PSs X body (tM (F.add z) (bd a (L' b)) (O' b) (f a b) L' O' Ret)) (hs : ∀ x, foldedSetIterable iter X.env x = pure x := by intro _; rfl) : PS X (.For tg iter body [] pos) (tM F L (ow F.K F.mg p xs :: O) (m.bind fun r => foldM f r.1 (b0 r.2)) L' O' Ret) := by
  have hb' : PSs X body (fun D σ H => ∃ z a b, tM (F.add z) (bd a (L' b)) (O' b) (f a b) L' O' Ret D σ H) := pss_ex fun z => pss_ex fun a => pss_ex fun b => hb z a b
  have hg : PG X tg g := ht.pg
  refine ps_imp (ps_for hp hc hi hg hb' hs) fun D σ H ⟨g0, q⟩ => ?_
  rw [out_bind] at q
  refine ⟨g0, q.mono (fun r k J H1 S g1 s1 hS => ?_) fun _ z => z⟩
  obtain ⟨as, xs1⟩ := r
  have zf : ∃ z : Fact, z = ⟨S.src, fun e h => S.mono e h⟩ := ⟨_, rfl⟩
  obtain ⟨z, hz⟩ := zf
  refine for_it S.walk (g := g) (tb := fun D σ H => ∃ z a b, tM (F.add z) (bd a (L' b)) (O' b) (f a b) L' O' Ret D σ H) (D := D) (σ := σ) (H := H1) (fun i σ H => ∃ b, G (F.add z) (L' b) (O' b) σ H ∧ Out F (foldM f (as.drop i) b) (fun r => match r with
    | .inl b => ∀ σ' H', G F (L' b) (O' b) σ' H' → D.nx σ' H'
    | .inr d => ∀ v H', Ret d v H' → D.rt v H') (XPS F)) ⟨b0 xs1, ?_, k⟩ ?_ ?_ ?_
  · have g2 := g1.to (hw xs1) (ho xs1)
    refine ⟨g2.slots, g2.go.add z ?_⟩
    subst hz
    exact S.mono (rg_sub (ho xs1)) hS
  · rintro i σ H _ ⟨b, g2, _⟩
    have h := g2.go.fact
    subst hz
    exact S.mono less_same h
  · rintro i x σ H H' hi ⟨b, g2, q2⟩ y
    have ha : as[i]? = some as[i] := List.getElem?_eq_getElem hi
    rw [List.drop_eq_getElem_cons hi] at q2
    rw [show foldM f (as[i] :: List.drop (i + 1) as) b = (f as[i] b).bind fun r => match r with
      | .inl b => foldM f (List.drop (i + 1) as) b
      | .inr d => .ok (.inr d) from rfl, out_bind] at q2
    obtain ⟨s2, yy⟩ := S.ylds i H x H' y
    have hsrc : S.src (rg F (O' b) H) := by
      have h := g2.go.fact
      subst hz
      exact h
    have r2 : rp (F.add z) (rg F (O' b) H') x as[i] := yy _ (fun a ha z => g2.go.out z ha) hsrc _ ha
    have g3 := g2.grow s2
    refine ht.ok x as[i] σ H' (rg F (O' b) H') (L' b) _ less_same r2 g3.slots fun σ2 _ hs2 => ?_
    refine ⟨z, as[i], b, ⟨hs2, g3.go⟩, out_add.mpr (q2.mono (fun r kb => ?_) fun H'' (x : GO (F.add z) F.O0 H'') => x.unadd)⟩
    cases r with
    | inl b' => exact fun σ' H'' g' => ⟨b', g', kb⟩
    | inr d => exact fun v H'' hr => kb v H'' hr
  · rintro σ H ⟨b, g2, q2⟩
    rw [List.drop_length] at q2
    exact q2 σ H ⟨g2.slots, g2.go.unadd⟩
end
end NF

set_option Elab.async false
set_option linter.all false
set_option maxRecDepth 100000
set_option maxHeartbeats 1000000
/-! Nf19: a try whose body gives a new list; a comprehension of two clauses. -/
namespace NF
open PySem PySem.Spec PyProof.Rows L2
open Data (toD)
/-- goes on with a new owned object, or hands back -/
def tMp {β δ : Type} (F : Fr) (L : List (Option Asr)) (O : List Own) (m : Res (Sum β δ)) (L' : Addr → β → List (Option Asr)) (O' : Addr → β → List Own) (Ret : δ → V → Hp → Prop) : TS := fun D σ H =>
  G F L O σ H ∧ Out F m (fun r => match r with
    | .inl b => ∀ p σ' H', G F (L' p b) (O' p b) σ' H' → D.nx σ' H'
    | .inr d => ∀ v H', Ret d v H' → D.rt v H') (XPS F)
section
variable {X : Cx} {F : Fr} {L Lh : List (Option Asr)} {O : List Own} {B D' : Type} {Ret : D' → V → Hp → Prop} {L' : Addr → B → List (Option Asr)} {O' : Addr → B → List Own}
theorem mp_own {st : Stmt} {m1 : Res B} (h : PS X st (tNp F L O m1 L' O')) : PSs X [st] (tMp F L O (m1.bind fun b => .ok (.inl b)) L' O' Ret) := pss_one (ps_imp h fun D σ H ⟨g, q⟩ => by
  rw [out_bind] at q
  exact ⟨g, q⟩)
theorem mp_T {m : Res D'} {st : List Stmt} (h : PSs X st (tT F L O m Ret)) : PSs X st (tMp F L O (m.bind fun d => .ok (.inr d)) L' O' Ret) := pss_imp h fun D σ H ⟨g, q⟩ => by
  rw [out_bind] at q
  exact ⟨g, q⟩
theorem b_Mp {st : Stmt} {rest : List Stmt} {m1 : Res (Sum B D')} {m2 : B → Res D'} (h1 : PS X st (tMp F L O m1 L' O' Ret)) (h2 : ∀ b p, PSs X rest (tT F (L' p b) (O' p b) (m2 b) Ret)) :
    PSs X (st :: rest) (tT F L O (goOn m1 m2) Ret) := pss_imp (pss_cons h1 (pss_ex fun b => pss_ex (h2 b))) fun D σ H ⟨g, q⟩ => by
  unfold goOn at q
  rw [out_bind] at q
  refine ⟨g, q.mono (fun r k => ?_) fun _ z => z⟩
  cases r with
  | inl b => exact fun p σ' H' g' => ⟨b, p, g', k⟩
  | inr d => exact k
variable {x n : Str} {C : Addr} {body suite : List Stmt} {b₀ : Stmt} {np pos pos' : Pos}
theorem s_tryO {W0 : WX} {mb : Res (Sum B D')} {mh : List (Str × PyData) → Res (Sum B D')} (i : Nat) (hm : X.mg x = some (.ref C)) (hex : PySem.W.exmOne X.K (.ref C) (.ref C) = some true) (tk : L2N.Takes X W0) (hN : X.N.Nodup) (hno : NoXd O) (hO : List.Sublist F.O0 O)
    (hLi : ∀ p b, (L' p b).set i none = L' p b)
    (hb : ∀ (E' : XK) (pn : List (Addr × Obj)) (xe : Value → Shared → Prop), TkX (X.tr pn xe) (Ft F E' O) Lh O → PSs (X.tr pn xe) body (tMp (Ft F E' O) L O mb L' O' Ret))
    (hh : ∀ (a : Addr) (oe : Obj) (d : Option Addr) (pn : List (Addr × Obj)) (fs : List (Str × PyData)), L2N.Zn (.ref C) d oe → (∃ vs, oe.data = .fields vs) → PSs (X.suite a ((a, oe) :: pn)) (b₀ :: suite) (tMp (F.add (xdF d fs)) (Lh.set i (rf a)) O (mh fs) L' O' Ret))
    (hi : X.N[i]? = some n := by rfl) (hln : X.env.kindOf n = some .local := by rfl) (hg : Gl X x := by rfl) (hdb : (x == ("__debug__" : Str)) = false := by decide) (hs : X.stack = X.env :: X.outer := by rfl) (hf : X.env.frame = some X.env.locals := by rfl) (hK : X.K = F.K := by rfl) (hM : X.mg = F.mg := by rfl) :
    PS X (.Try body [.ExceptHandler (some (.Name x np)) (some n) (b₀ :: suite) pos'] [] [] pos) (tMp F L O (tryR x mb mh) L' O' Ret) := by
  have hc : Names X x (.ref C) := ⟨hg, hdb, .inl hm⟩
  refine ps_imp (L2N.ps_try_as (tb := fun W D σ H => tMp (Ft F (fun cls d H' => ∀ σ', G F Lh O σ' H' → W cls d σ' H') O) L O mb L' O' Ret D σ H)
    (ts := fun a cls d D σ H => cls = .ref C ∧ ∃ fs, tMp (F.add (xdF d fs)) (Lh.set i (rf a)) O (mh fs) L' O' Ret D σ H) (i := i) hs hf hN hi hln hc tk
    (fun W pn xe tkW _ => hb _ pn xe ⟨W, tkW, fun c d σ H e g => e σ (g_tf g)⟩)
    (fun a oe cls d pn hz hd => pss_fact fun e => pss_ex fun fs => by
      subst e
      exact hh a oe d pn fs hz hd)) fun D σ H ⟨g, q⟩ => ?_
  refine ⟨g_ft g, ?_⟩
  cases em : mb with
  | ok r =>
    rw [em] at q
    cases r with
    | inl b => exact fun p σ' H' g' => q p σ' H' (g_tf g')
    | inr d => exact q
  | bad =>
    rw [em] at q
    exact q
  | err c fs =>
    rw [em] at q
    unfold tryR at q
    by_cases hcx : c = x
    · subst hcx
      simp only [if_true] at q
      rw [out_need] at q
      obtain ⟨hfl, q⟩ := q
      intro C' d H' h1 h2 h4 σ' gh
      have eC : C' = C := by
        have z : F.mg c = some (.ref C') := h1
        rw [← hM, hm] at z
        cases z
        rfl
      subst eC
      refine ⟨true, hex, fun _ a na => ⟨rfl, fs, ⟨paired_set (x := rf a) (y := some (V.ref a)) rfl i gh.slots, gh.go.add _ ?_⟩, ?_⟩, fun z => by cases z⟩
      · cases d with
        | none => exact h2
        | some d =>
          obtain ⟨h5, vs, h6, h7⟩ := h2
          have e := xd_flat h7 hfl
          subst e
          show less H' (addrs O ++ F.A) d = _
          rw [less_out]
          · exact h6
          · intro z
            rcases List.mem_append.mp z with z | z
            · obtain ⟨w, hw, e⟩ := List.mem_map.mp z
              obtain ⟨o, h8, h9⟩ := gh.go.objs w hw
              rw [e, h6] at h8
              cases h8
              exact hno w hw _ _ h9
            · exact gh.go.hid d z h5
      · rw [out_add]
        refine q.mono (fun r k => ?_) fun H'' (x : GO (F.add _) F.O0 H'') => x.unadd
        cases r with
        | inl b => exact fun p σ2 H2 g2 => k _ _ _ ⟨by have z := paired_set (x := (none : Option Asr)) (y := (none : Option V)) (R := SlotOk (rg F (O' p b) H2)) trivial i g2.slots; rwa [hLi] at z, g2.go.unadd⟩
        | inr d => exact k
    · simp only [if_neg hcx] at q
      exact q.elim
end
/-! ### [e for a in xs for b in ys] -/
def comp2R {α β γ : Type} (p : α → Res Bool) (it : α → Res (List β)) (p1 : α → β → Res Bool) (f : α → β → Res γ) : Nat → List α → Res (List γ)
  | _, [] => .ok []
  | n, a :: as => (p a).bind fun c => if c then (it a).bind fun bs => need (n + bs.length ≤ sizeLine) ((filtR (p1 a) (f a) bs).bind fun ys => (comp2R p it p1 f (n + bs.length) as).bind fun zs => .ok (ys ++ zs)) else comp2R p it p1 f n as
section
variable {J : It} {n : Nat} {G0 : Hp → Prop} {Y : Nat → Hp → V → Hp → Prop}
theorem lc_out (w : Walk J n G0 Y) {g : TG} {vs : List Nat} {σ : L2.St} {H0 : Hp} {Qd : Hp → Prop} (Body : L2.St → Hp → (Hp → Prop) → Prop) (Pv : Nat → Hp → Prop) (h0 : Pv 0 H0) (hG : ∀ j H, j ≤ n → Pv j H → G0 H)
    (hs : ∀ j x H H', j < n → Pv j H → Y j H x H' → g x (wipe σ vs) H' fun σ3 H5 => wipe σ3 vs = wipe σ vs ∧ Body σ3 H5 (Pv (j + 1))) (hd : ∀ H, Pv n H → Qd H) :
    ∃ W1 : Nat → Nat → Hp → Prop, (∃ m, W1 0 m H0) ∧ ∀ j k H, W1 j k H →
      (J.stop j H ∧ Qd H) ∨ (J.go j H ∧ ∃ Nx1 : Hp → Prop, (∀ H', Nx1 H' → ∃ k', k' < k ∧ W1 (j + 1) k' H') ∧ ∀ x H', J.yld j H x H' → g x (wipe σ vs) H' fun σ3 H5 => wipe σ3 vs = wipe σ vs ∧ Body σ3 H5 Nx1) := by
  refine ⟨fun j k H => k = n - j ∧ j ≤ n ∧ Pv j H, ⟨n, by simp, Nat.zero_le _, h0⟩, ?_⟩
  rintro j k H ⟨rfl, hj, p⟩
  have q := hG j H hj p
  by_cases hlt : j < n
  · exact .inr ⟨w.goes j H hlt q, Pv (j + 1), fun H' p' => ⟨n - (j + 1), by omega, rfl, hlt, p'⟩, fun x H' y => hs j x H H' hlt p (w.yields j H x H' hlt q y)⟩
  · have e : j = n := by omega
    subst e
    exact .inl ⟨w.stops H q, hd H p⟩
end
section
variable {X : Cx} {F : Fr} {L : List (Option Asr)} {O : List Own} {α β γ s : Type} [Rep α] [Rep β] [Rep γ] [Rep s]
theorem rsame {D : Addr} {ds ds' : List γ} {H4 H : Hp} (h : Same (less H4 [D]) (less H [D])) : Same (rg F (ow F.K F.mg D ds :: O) H4) (rg F (ow F.K F.mg D ds' :: O) H) := fun a o z => by
  unfold rg at z ⊢
  by_cases hb : a ∈ addrs (ow F.K F.mg D ds :: O) ++ F.A
  · rw [less_in hb] at z; cases z
  · rw [less_out hb] at z
    rw [less_out (show a ∉ addrs (ow F.K F.mg D ds' :: O) ++ F.A from hb)]
    have hne : a ∉ [D] := fun y => hb (by rw [List.mem_singleton.mp y]; exact List.mem_append_left _ List.mem_cons_self)
    have z1 := h a o (by rw [less_out hne]; exact z)
    rw [less_out hne] at z1
    exact z1
theorem comp2_core {bO : Bool} {g g1 : TG} {vs vs1 : List Nat} {bd : α → List (Option Asr) → List (Option Asr)} {bd1 : β → List (Option Asr) → List (Option Asr)} {m : Res (List α)} {p : α → Res Bool} {it : α → Res (List β)} {p1 : α → β → Res Bool} {f : α → β → Res γ} {wi wi1 : TI} (tt tt1 : TT) (te : TE)
    (hi : wi = tI bO F L O m) (hfl : bO = true ∨ FlatP α) (ht : TgOk F.K F.mg g vs bd) (htt : tt = fun σ H Q => ∃ a D ds, tB' F.nox (bd a (wipeL L vs)) (ow (s := List γ) F.K F.mg D ds :: O) (p a) σ H Q)
    (hi1 : wi1 = fun σ H R => ∃ a D ds, tI true F.nox (bd a (wipeL L vs)) (ow (s := List γ) F.K F.mg D ds :: O) (it a) σ H R) (ht1 : TgOk F.K F.mg g1 vs1 bd1)
    (htt1 : tt1 = fun σ H Q => ∃ a b D ds, tB' F.nox (bd1 b (wipeL (bd a (wipeL L vs)) vs1)) (ow (s := List γ) F.K F.mg D ds :: O) (p1 a b) σ H Q)
    (hte : te = fun σ H Q => ∃ a b D ds, tP true F.nox (bd1 b (wipeL (bd a (wipeL L vs)) vs1)) (ow (s := List γ) F.K F.mg D ds :: O) (f a b) σ H Q) (σ : L2.St) (H : Hp) (Q : VK)
    (h : tF true F L O (m.bind fun as => comp2R (fun a => (p a).quiet) (fun a => (it a).quiet) (fun a b => (p1 a b).quiet) (fun a b => (f a b).quiet) 0 as) σ H Q) : tLc2 wi g tt wi1 g1 tt1 te vs vs1 σ H Q := by
  subst hi
  obtain ⟨g0, q⟩ := h
  rw [out_bind] at q
  refine ⟨g0, q.mono (fun as k J H1 S gg s1 hS => ?_) fun _ z => z⟩
  intro D hD
  refine lc_out S.walk (g := g) (vs := vs) (σ := σ) (H0 := upd H1 D (.lst [])) (Qd := fun H => Q (.ref D) H)
    (fun σ2 H2 Nx => tt σ2 H2 fun b H3 =>
      if b = true then wi1 σ2 H3 fun J1 H4 => ∃ W1 : Nat → Nat → Hp → Prop, (∃ m, W1 0 m H4) ∧ ∀ j k H, W1 j k H →
        (J1.stop j H ∧ Nx H) ∨ (J1.go j H ∧ ∃ Nx1 : Hp → Prop, (∀ H', Nx1 H' → ∃ k', k' < k ∧ W1 (j + 1) k' H') ∧ ∀ x H', J1.yld j H x H' → g1 x (wipe σ2 vs1) H' fun σ3 H5 => wipe σ3 vs1 = wipe σ2 vs1 ∧ tt1 σ3 H5 fun b H6 =>
          if b = true then te σ3 H6 fun y H7 => ∃ acc, H7 D = some (.lst acc) ∧ acc.length < sizeLine ∧ Nx1 (upd H7 D (.lst (acc ++ [y]))) else Nx1 H6)
      else Nx H3)
    (fun i H => ∃ (n : Nat) (ds : List γ) (vd : List V), H D = some (.lst vd) ∧ ds.length ≤ n ∧ Reps F.K F.mg (less (rg F O H) [D]) vd ds ∧ Same H1 (less H [D]) ∧ Out F (comp2R (fun a => (p a).quiet) (fun a => (it a).quiet) (fun a b => (p1 a b).quiet) (fun a b => (f a b).quiet) n (as.drop i)) (fun rest => KF γ true F L O σ H1 Q (ds ++ rest)) (fun _ => False))
    ⟨0, [], [], upd_same, Nat.le_refl _, .nil, ?_, ?_⟩ ?_ ?_ ?_
  · intro a o ha
    have hne : a ≠ D := ne_of_none ha hD
    rw [less_out (fun z => hne (List.mem_singleton.mp z)), upd_ne hne]
    exact ha
  · exact k.mono (fun ds kk => (KF.mono s1 kk)) fun _ z => z.elim
  · rintro i H _ ⟨n, ds, vd, h1, _, h2, h3, _⟩
    exact S.mono (h3.trans less_same) (S.mono rgn_sub hS)
  · rintro i x H H' hi ⟨n, ds, vd, h1, hl, h2, h3, q2⟩ y
    have ha : as[i]? = some as[i] := List.getElem?_eq_getElem hi
    have sH : Same H1 H := h3.trans less_same
    have gH : G F L O σ H := gg.grow sH
    have go2 : GO F (ow F.K F.mg D ds :: O) H := go_new gg gH.go sH hD h1 h2
    obtain ⟨s2, yy⟩ := S.ylds i H x H' y
    have g2 : G F L (ow F.K F.mg D ds :: O) σ H := ⟨L2.Paired.mapP gg.slots fun _ _ z => z.mono (rg_new rfl sH hD), go2⟩
    have g3 : G F L (ow F.K F.mg D ds :: O) σ H' := g2.grow s2
    have rx : rp F (rg F (ow F.K F.mg D ds :: O) H') x as[i] := by
      rcases hfl with e | e
      · subst e
        exact yy _ (fun a ha z => go2.out z ha) (S.mono (rg_new rfl sH hD) hS) _ ha
      · exact e (yy [] (fun _ z => (List.not_mem_nil z).elim) (S.mono (sH.trans (fun a o z => by rw [less_out List.not_mem_nil]; exact z)) (S.mono rgn_sub hS)) _ ha)
    have gn : G F.nox (wipeL L vs) (ow F.K F.mg D ds :: O) (wipe σ vs) H' := ⟨wipe_ok g3.slots vs, g3.go.nox⟩
    refine ht x as[i] (wipe σ vs) H' (rg F (ow F.K F.mg D ds :: O) H') (wipeL L vs) _ less_same rx gn.slots fun σ2 e2 hs2 => ?_
    refine ⟨e2.trans (wipe_wipe σ vs), ?_⟩
    rw [List.drop_eq_getElem_cons hi] at q2
    rw [comp2R, out_bind] at q2
    have gb : G F.nox (bd as[i] (wipeL L vs)) (ow F.K F.mg D ds :: O) σ2 H' := ⟨hs2, gn.go⟩
    have lss : ∀ {H'' : Hp}, Same H' H'' → Same H1 (less H'' [D]) := fun {H''} e a o z => by
      have z1 := h3 a o z
      by_cases hb : a ∈ [D]
      · rw [less_in hb] at z1; cases z1
      · rw [less_out hb] at z1 ⊢
        exact e _ _ (s2 _ _ z1)
    have regD : ∀ {H'' : Hp} {ds' : List γ}, Same (rg F (ow F.K F.mg D ds' :: O) H'') (less (rg F O H'') [D]) := fun {H'' ds'} a o z => by
      unfold rg at z ⊢
      by_cases hb : a ∈ addrs (ow F.K F.mg D ds' :: O) ++ F.A
      · rw [less_in hb] at z; cases z
      · rw [less_out hb] at z
        rw [less_out (fun y => hb (by rw [List.mem_singleton.mp y]; exact List.mem_append_left _ List.mem_cons_self)), less_out (A := addrs O ++ F.A) (fun y => hb (List.mem_cons_of_mem _ y))]
        exact z
    have keepR : ∀ {H'' : Hp}, Same H' H'' → Reps F.K F.mg (less (rg F O H'') [D]) vd ds := fun {H''} e => h2.mono (less_mono fun a o _ z => rg_grow (s2.trans e) a o z)
    subst htt
    refine ⟨as[i], D, ds, gb, out_quiet (q2.mono (fun c qc H3 g4 s3 => ?_) fun _ z => z)⟩
    cases c with
    | false =>
      refine ⟨n, ds, vd, ?_, hl, keepR s3, lss s3, qc⟩
      exact s3 _ _ (s2 _ _ h1)
    | true =>
      simp only [if_true] at qc ⊢
      rw [out_bind] at qc
      subst hi1
      refine ⟨as[i], D, ds, g4, out_quiet (qc.mono (fun bs qb J1 H4 S1 g5 s4 hS1 => ?_) fun _ z => z)⟩
      rw [out_need] at qb
      obtain ⟨hsz, qb⟩ := qb
      rw [out_bind] at qb
      have s34 : Same H' H4 := s3.trans s4
      have e4 : H4 D = some (.lst vd) := s34 _ _ (s2 _ _ h1)
      refine lc_out S1.walk (g := g1) (vs := vs1) (σ := σ2) (H0 := H4)
        (fun σ3 H5 Nx1 => tt1 σ3 H5 fun b H6 =>
          if b = true then te σ3 H6 fun y H7 => ∃ acc, H7 D = some (.lst acc) ∧ acc.length < sizeLine ∧ Nx1 (upd H7 D (.lst (acc ++ [y]))) else Nx1 H6)
        (fun j H => ∃ (ds' : List γ) (vd' : List V), H D = some (.lst vd') ∧ ds'.length + (bs.length - j) ≤ n + bs.length ∧ Reps F.K F.mg (less (rg F O H) [D]) vd' ds' ∧ Same (less H4 [D]) (less H [D]) ∧
          Out F (filtR (fun b => (p1 as[i] b).quiet) (fun b => (f as[i] b).quiet) (bs.drop j)) (fun ys => Out F (comp2R (fun a => (p a).quiet) (fun a => (it a).quiet) (fun a b => (p1 a b).quiet) (fun a b => (f a b).quiet) (n + bs.length) (as.drop (i + 1))) (fun zs => KF γ true F L O σ H1 Q (ds' ++ (ys ++ zs))) (fun _ => False)) (fun _ => False))
        ⟨ds, vd, e4, by omega, keepR s34, Same.refl _, qb.mono (fun ys kk => by rw [out_bind] at kk; exact kk) fun _ z => z⟩ ?_ ?_ ?_
      · rintro j H _ ⟨ds', vd', h1', _, h2', h3', _⟩
        exact S1.mono ((rsame (ds := ds) (ds' := ds') h3').trans less_same) hS1
      · rintro j x' H5 H5' hj ⟨ds', vd', h1', hl', h2', h3', q2'⟩ y'
        have hb : bs[j]? = some bs[j] := List.getElem?_eq_getElem hj
        have sH5 : Same H1 H5 := ((lss s34).trans h3').trans less_same
        have gH5 : G F L O σ H5 := gg.grow sH5
        have go5 : GO F (ow F.K F.mg D ds' :: O) H5 := go_new gg gH5.go sH5 hD h1' h2'
        obtain ⟨s5, yy'⟩ := S1.ylds j H5 x' H5' y'
        have sl5 : Paired (SlotOk (rg F (ow F.K F.mg D ds' :: O) H5')) (bd as[i] (wipeL L vs)) σ2 := L2.Paired.mapP g5.slots fun _ _ z => (z.mono (rsame (ds' := ds') h3')).mono (rg_grow s5)
        have go5' : GO F (ow F.K F.mg D ds' :: O) H5' := go5.grow s5
        have rx' : rp F (rg F (ow F.K F.mg D ds' :: O) H5') x' bs[j] := yy' _ (fun a ha z => go5.out z ha) (S1.mono (rsame (ds := ds) (ds' := ds') h3') hS1) _ hb
        have gn5 : G F.nox (wipeL (bd as[i] (wipeL L vs)) vs1) (ow F.K F.mg D ds' :: O) (wipe σ2 vs1) H5' := ⟨wipe_ok sl5 vs1, go5'.nox⟩
        refine ht1 x' bs[j] (wipe σ2 vs1) H5' (rg F (ow F.K F.mg D ds' :: O) H5') (wipeL (bd as[i] (wipeL L vs)) vs1) _ less_same rx' gn5.slots fun σ3 e3 hs3 => ?_
        refine ⟨e3.trans (wipe_wipe σ2 vs1), ?_⟩
        rw [List.drop_eq_getElem_cons hj] at q2'
        rw [show filtR (fun b => (p1 as[i] b).quiet) (fun b => (f as[i] b).quiet) (bs[j] :: List.drop (j + 1) bs) = ((p1 as[i] bs[j]).quiet).bind fun c => if c then ((f as[i] bs[j]).quiet).bind fun y => (filtR (fun b => (p1 as[i] b).quiet) (fun b => (f as[i] b).quiet) (List.drop (j + 1) bs)).bind fun ys => .ok (y :: ys) else filtR (fun b => (p1 as[i] b).quiet) (fun b => (f as[i] b).quiet) (List.drop (j + 1) bs) from rfl, out_bind] at q2'
        have gb5 : G F.nox (bd1 bs[j] (wipeL (bd as[i] (wipeL L vs)) vs1)) (ow F.K F.mg D ds' :: O) σ3 H5' := ⟨hs3, gn5.go⟩
        have l5 : ∀ {H'' : Hp}, Same H5' H'' → Same (less H4 [D]) (less H'' [D]) := fun {H''} e => h3'.trans (less_mono fun b o _ q => e _ _ (s5 _ _ q))
        have keep5 : ∀ {H'' : Hp}, Same H5' H'' → Reps F.K F.mg (less (rg F O H'') [D]) vd' ds' := fun {H''} e => h2'.mono (less_mono fun a o _ z => rg_grow (s5.trans e) a o z)
        subst htt1
        refine ⟨as[i], bs[j], D, ds', gb5, out_quiet (q2'.mono (fun c qc' H6 g6 s6 => ?_) fun _ z => z)⟩
        cases c with
        | false =>
          refine ⟨ds', vd', s6 _ _ (s5 _ _ h1'), by omega, keep5 s6, l5 s6, qc'⟩
        | true =>
          simp only [if_true] at qc' ⊢
          rw [out_bind] at qc'
          subst hte
          refine ⟨as[i], bs[j], D, ds', g6, out_quiet (qc'.mono (fun y qy v H7 g7 s7 r7 => ?_) fun _ z => z)⟩
          have s67 : Same H5' H7 := s6.trans s7
          have e7 : H7 D = some (.lst vd') := s67 _ _ (s5 _ _ h1')
          have lenv : vd'.length = ds'.length := h2'.length
          refine ⟨vd', e7, by rw [lenv]; omega, ds' ++ [y], vd' ++ [v], upd_same, ?_, ?_, ?_, ?_⟩
          · rw [List.length_append, List.length_singleton]; omega
          · have eqr : ∀ {a o}, less (rg F O H7) [D] a = some o → less (rg F O (upd H7 D (.lst (vd' ++ [v])))) [D] a = some o := fun {a o} z => by
              by_cases hb : a ∈ [D]
              · rw [less_in hb] at z; cases z
              · have hne : a ≠ D := fun y => hb (List.mem_singleton.mpr y)
                rw [less_out hb] at z ⊢
                unfold rg at z ⊢
                by_cases hc : a ∈ addrs O ++ F.A
                · rw [less_in hc] at z; cases z
                · rw [less_out hc] at z ⊢
                  rw [upd_ne hne]
                  exact z
            exact (reps_append (keep5 s67) (.cons (Rep.mono regD r7) .nil)).mono fun a o z => eqr z
          · intro a o z
            have z1 := l5 s67 a o z
            by_cases hb : a ∈ [D]
            · rw [less_in hb] at z1; cases z1
            · rw [less_out hb] at z1 ⊢
              rw [upd_ne (fun y => hb (List.mem_singleton.mpr y))]
              exact z1
          · rw [out_bind] at qy
            exact qy.mono (fun ys kk => Out.mono (show Out F (comp2R (fun a => (p a).quiet) (fun a => (it a).quiet) (fun a b => (p1 a b).quiet) (fun a b => (f a b).quiet) (n + bs.length) (List.drop (i + 1) as)) (fun zs => KF γ true F L O σ H1 Q (ds' ++ (y :: ys ++ zs))) (fun _ => False) from kk) (fun zs kz => by rw [List.append_assoc]; exact kz) fun _ z => z) fun _ z => z
      · rintro H5 ⟨ds', vd', h1', hl', h2', h3', q2'⟩
        rw [List.drop_length] at q2'
        refine ⟨n + bs.length, ds', vd', h1', by omega, h2', (lss s34).trans h3', ?_⟩
        exact Out.mono (F := F) q2' (fun zs kz => kz) fun _ z => z
  · rintro H ⟨n, ds, vd, h1, hl, h2, h3, q2⟩
    rw [List.drop_length] at q2
    have q3 : KF γ true F L O σ H1 Q (ds ++ []) := q2
    rw [List.append_nil] at q3
    exact q3 D vd H (gg.grow (h3.trans less_same)) (h3.trans less_same) hD h1 h2
theorem pi_ex {ι : Type} {tg e : Expr} {t : ι → TI} (h : ∀ b, PI X tg e (t b)) : PI X tg e (fun σ H Q => ∃ b, t b σ H Q) := ⟨fun pins s σ H Q I ⟨b, q⟩ => (h b).run pins s σ H Q I q⟩
/-- [elt for tg in iter if .. for tg1 in iter1 if ..] -/
theorem f_lc2 {tg iter tg1 iter1 elt : Expr} {ifs ifs1 : List Expr} {scope : Scope} {own : List (Str × Nat)} {vs1 : List Nat} {pos : Pos} {b : Bool} {g g1 : TG} {bd : α → List (Option Asr) → List (Option Asr)} {bd1 : β → List (Option Asr) → List (Option Asr)} {m : Res (List α)} {p : α → Res Bool} {it : α → Res (List β)} {p1 : α → β → Res Bool} {f : α → β → Res γ}
    (hc : X.calm = true) (hN : X.N.Nodup) (hi : PI X tg iter (tI b F L O m)) (hfl : b = true ∨ FlatP α) (hb : BlkOk X.N X.env.scope scope own) (hv : ∀ i ∈ vs1, i ∈ own.map (·.2))
    (hok : TgOk F.K F.mg g (own.map (·.2)) bd) (hok1 : TgOk F.K F.mg g1 vs1 bd1) (ht : ∀ (s : Shared) (H : Hp) (C : Addr) (cl : List (Str × Addr)) (fp : List Addr), Tg (X.blk s H scope (compEnvC scope cl C X.env) fp) F.K F.mg tg g (own.map (·.2)) bd)
    (hp : ∀ (s : Shared) (H : Hp) (C : Addr) (cl : List (Str × Addr)) (fp : List Addr) (a : α) (D : Addr) (ds : List γ), PTs (X.blk s H scope (compEnvC scope cl C X.env) fp) ifs (tB' F.nox (bd a (wipeL L (own.map (·.2)))) (ow F.K F.mg D ds :: O) (p a)))
    (hi1 : ∀ (s : Shared) (H : Hp) (C : Addr) (cl : List (Str × Addr)) (fp : List Addr) (a : α) (D : Addr) (ds : List γ), PI (X.blk s H scope (compEnvC scope cl C X.env) fp) tg1 iter1 (tI true F.nox (bd a (wipeL L (own.map (·.2)))) (ow F.K F.mg D ds :: O) (it a)))
    (ht1 : ∀ (s : Shared) (H : Hp) (C : Addr) (cl : List (Str × Addr)) (fp : List Addr), Tg (X.blk s H scope (compEnvC scope cl C X.env) fp) F.K F.mg tg1 g1 vs1 bd1)
    (hp1 : ∀ (s : Shared) (H : Hp) (C : Addr) (cl : List (Str × Addr)) (fp : List Addr) (a : α) (a1 : β) (D : Addr) (ds : List γ), PTs (X.blk s H scope (compEnvC scope cl C X.env) fp) ifs1 (tB' F.nox (bd1 a1 (wipeL (bd a (wipeL L (own.map (·.2)))) vs1)) (ow F.K F.mg D ds :: O) (p1 a a1)))
    (he : ∀ (s : Shared) (H : Hp) (C : Addr) (cl : List (Str × Addr)) (fp : List Addr) (a : α) (a1 : β) (D : Addr) (ds : List γ), PE (X.blk s H scope (compEnvC scope cl C X.env) fp) elt (tP true F.nox (bd1 a1 (wipeL (bd a (wipeL L (own.map (·.2)))) vs1)) (ow F.K F.mg D ds :: O) (f a a1)))
    (hf : ∀ x, foldedSetIterable iter X.env x = pure x := by intro _; rfl) (hf1 : ∀ env x, foldedSetIterable iter1 env x = pure x := by intro _ _; rfl) :
    PE X (.ListComp elt [⟨tg, iter, ifs, 0⟩, ⟨tg1, iter1, ifs1, 0⟩] scope pos) (tF true F L O (m.bind fun as => comp2R (fun a => (p a).quiet) (fun a => (it a).quiet) (fun a b => (p1 a b).quiet) (fun a b => (f a b).quiet) 0 as)) := by
  refine pe_imp (pe_lc2 hc hN hi hb hv (fun s H C cl fp => (ht s H C cl fp).pg) (fun s H C cl fp => pts_ex fun a => pts_ex fun D => pts_ex fun ds => hp s H C cl fp a D ds) (fun s H C cl fp => pi_ex fun a => pi_ex fun D => pi_ex fun ds => hi1 s H C cl fp a D ds) (fun s H C cl fp => (ht1 s H C cl fp).pg)
    (fun s H C cl fp => pts_ex fun a => pts_ex fun a1 => pts_ex fun D => pts_ex fun ds => hp1 s H C cl fp a a1 D ds) (fun s H C cl fp => pe_ex fun a => pe_ex fun a1 => pe_ex fun D => pe_ex fun ds => he s H C cl fp a a1 D ds) hf hf1) fun σ H Q h => ?_
  exact comp2_core _ _ _ rfl hfl hok rfl rfl hok1 rfl rfl σ H Q h
end
end NF

set_option Elab.async false
set_option linter.all false
set_option maxRecDepth 100000
/-! Nf20: small things: targets with more wiped slots, tests that change the list, casts. -/
namespace NF
open PySem PySem.Spec PyProof.Rows L2
open Data (toD)
section
variable {X : Cx} {F : Fr} {L : List (Option Asr)} {p : Addr} {O : List Own} {α β γ ι : Type} [Rep α] [Rep β] [Rep γ] [OwR ι] {xs : ι}
theorem tM_cast {B D' : Type} {st : List Stmt} {L' : B → List (Option Asr)} {O' : B → List Own} {Ret : D' → V → Hp → Prop} {m m' : Res (Sum B D')} (h : PSs X st (tM F L O m L' O' Ret)) (e : m = m') : PSs X st (tM F L O m' L' O' Ret) := e ▸ h
theorem wipe_up {σ σ' : L2.St} {vs vs' : List Nat} (h : wipe σ' vs = wipe σ vs) (hs : ∀ i ∈ vs, i ∈ vs') : wipe σ' vs' = wipe σ vs' := by
  apply List.ext_getElem?
  intro k
  rw [wipe_get, wipe_get]
  have e : (wipe σ' vs)[k]? = (wipe σ vs)[k]? := by rw [h]
  rw [wipe_get, wipe_get] at e
  by_cases h1 : k ∈ vs'
  · rw [if_pos h1, if_pos h1]
    by_cases h2 : k ∈ vs
    · rw [if_pos h2, if_pos h2] at e; exact e
    · rw [if_neg h2, if_neg h2] at e; rw [e]
  · have h2 : k ∉ vs := fun z => h1 (hs k z)
    rw [if_neg h2, if_neg h2] at e
    rw [if_neg h1, if_neg h1]; exact e
theorem TgOk.up {K : Fg} {mg : MG} {g : TG} {vs vs' : List Nat} {bd : α → List (Option Asr) → List (Option Asr)} (h : TgOk K mg g vs bd) (hs : ∀ i ∈ vs, i ∈ vs') : TgOk K mg g vs' bd := fun v a σ H R L Q s r sl k => h v a σ H R L Q s r sl fun σ' e => k σ' (wipe_up e hs)
theorem Tg.up {K : Fg} {mg : MG} {tg : Expr} {g : TG} {vs vs' : List Nat} {bd : α → List (Option Asr) → List (Option Asr)} (h : Tg X K mg tg g vs bd) (hs : ∀ i ∈ vs, i ∈ vs') : Tg X K mg tg g vs' bd := ⟨h.pg, h.ok.up hs⟩
/-- tests that change the list -/
theorem et_not {x : Expr} {pos : Pos} {m : Res (Bool × ι)} (hx : PT X x (tEB F L p xs O m)) : PT X (.UnaryOp .Not x pos) (tEB F L p xs O (m.bind fun u => .ok (!u.1, u.2))) := pt_imp (pt_not hx) fun σ H Q ⟨g, q⟩ => by
  rw [out_bind] at q
  exact ⟨g, q.mono (fun c qc H1 g1 s1 => qc H1 g1 s1) fun _ z => z⟩
theorem et_val {x : Expr} {b : Bool} {m : Res (Bool × ι)} (hx : PE X x (tE b F L p xs O m)) (he : ∀ whole, isTrue x X.env whole = (do let v ← whole; standAt x.pos; holding [v] (truthy v)) := by intro _; rfl) : PT X x (tEB F L p xs O m) := pt_imp (pt_val hx he) fun σ H Q ⟨g, q⟩ =>
  ⟨g, q.mono (fun c qc v1 H1 g1 s1 r1 => ⟨c.1, r1, qc H1 g1 s1⟩) fun _ z => z⟩
theorem ew_p {e : Expr} {m : Res Bool} (hO : List.Sublist F.O0 (ow F.K F.mg p xs :: O)) (h : PW X e (tB' F L (ow F.K F.mg p xs :: O) m)) : PW X e (tEB F L p xs O (m.bind fun a => .ok (a, xs))) := pw_imp h fun σ H Q ⟨g, q⟩ => by
  rw [out_bind] at q
  exact ⟨g, q.mono (fun a k H' g' s => k H' g' (.of s)) fun H' ⟨a, _⟩ => a.go.sub hO⟩
/-- an if whose test changes the list, in a block that goes on or hands back -/
theorem me_if {D' B : Type} {Ret : D' → V → Hp → Prop} {c : Expr} {mc : Res (Bool × ι)} {body rest : List Stmt} {pos : Pos} {L' : B → List (Option Asr)} {O' : B → List Own} {m1 : ι → Res D'} {m2 : ι → Res (Sum B D')} (hc : PT X c (tEB F L p xs O mc)) (hb : ∀ xs', PSs X body (tT F L (ow F.K F.mg p xs' :: O) (m1 xs') Ret)) (hr : ∀ xs', PSs X rest (tM F L (ow F.K F.mg p xs' :: O) (m2 xs') L' O' Ret)) :
    PSs X (.If c body [] pos :: rest) (tM F L (ow F.K F.mg p xs :: O) (mc.bind fun u => if u.1 then ((m1 u.2).bind fun d => .ok (.inr d)) else m2 u.2) L' O' Ret) := pss_imp (pss_cons (ps_if hc (pss_ex hb) pss_nil) (pss_ex hr)) fun D σ H ⟨g, q⟩ => by
  rw [out_bind] at q
  refine ⟨g, q.mono (fun u k H1 g1 s1 => ?_) fun _ z => z⟩
  cases hu : u.1 with
  | true =>
    rw [hu] at k
    simp only [if_true] at k
    rw [out_bind] at k
    exact ⟨u.2, g1, k⟩
  | false => rw [hu] at k; exact ⟨u.2, g1, k⟩
theorem TkX.add {z : Fact} (t : TkX X F L O) : TkX X (F.add z) L O := by
  obtain ⟨W, tk, q⟩ := t
  exact ⟨W, tk, fun c d σ H e g => q c d σ H e ⟨g.slots, g.go.unadd⟩⟩
end
end NF

set_option Elab.async false
set_option linter.all false
set_option maxRecDepth 100000
/-! Nf21: instances of own classes: their fields, read and stored; owned instances; making one; methods. -/
namespace NF
open PySem PySem.Spec PyProof.Rows L2
open Data (toD)
abbrev FA := List (Str × Asr)
def FldsOk (H : Hp) (fl : FA) (vs : List (Str × V)) : Prop := Paired (fun (f : Str × Asr) (w : Str × V) => f.1 = w.1 ∧ f.2.P H w.2) fl vs
theorem FldsOk.mono {H H' : Hp} {fl : FA} {vs : List (Str × V)} (h : FldsOk H fl vs) (e : Same H H') : FldsOk H' fl vs := L2.Paired.mapP h fun f _ q => ⟨q.1, f.2.mono e q.2⟩
theorem FldsOk.get {H : Hp} {f : Str} {A : Asr} : ∀ {fl : FA} {vs : List (Str × V)}, FldsOk H fl vs → fl.lookup f = some A → ∃ w, vs.lookup f = some w ∧ A.P H w
  | [], [], _, e => by cases e
  | (g, B) :: fl, (g', w) :: vs, .cons q t, e => by
    obtain ⟨q1, q2⟩ := q
    have q1' : g = g' := q1
    subst q1'
    by_cases h : f = g
    · subst h
      simp [List.lookup] at e
      subst e
      exact ⟨w, by simp [List.lookup], q2⟩
    · have hb : (f == g) = false := by simpa using h
      simp only [List.lookup, hb] at e ⊢
      exact FldsOk.get t e
theorem FldsOk.miss {H : Hp} {f : Str} : ∀ {fl : FA} {vs : List (Str × V)}, FldsOk H fl vs → fl.lookup f = none → vs.lookup f = none
  | [], [], _, _ => rfl
  | (g, B) :: fl, (g', w) :: vs, .cons q t, e => by
    obtain ⟨q1, q2⟩ := q
    have q1' : g = g' := q1
    subst q1'
    by_cases h : f = g
    · subst h
      simp [List.lookup] at e
    · have hb : (f == g) = false := by simpa using h
      simp only [List.lookup, hb] at e ⊢
      exact FldsOk.miss t e
theorem FldsOk.len {H : Hp} {fl : FA} {vs : List (Str × V)} (h : FldsOk H fl vs) : fl.length = vs.length := PySem.Paired.length h
def putA (f : Str) (A : Asr) : FA → FA
  | [] => [(f, A)]
  | (g, x) :: r => if g = f then (g, A) :: r else (g, x) :: putA f A r
theorem FldsOk.put {H : Hp} {f : Str} {A : Asr} {y : V} (hy : A.P H y) : ∀ {fl : FA} {vs : List (Str × V)}, FldsOk H fl vs → FldsOk H (putA f A fl) (putF f y vs)
  | [], [], _ => .cons ⟨rfl, hy⟩ .nil
  | (g, B) :: fl, (g', w) :: vs, .cons q t => by
    obtain ⟨q1, q2⟩ := q
    have q1' : g = g' := q1
    subst q1'
    unfold putA putF
    by_cases h : g = f
    · rw [if_pos h, if_pos h]
      exact .cons ⟨rfl, hy⟩ t
    · rw [if_neg h, if_neg h]
      exact .cons ⟨rfl, q2⟩ (FldsOk.put hy t)
def va {α : Type} [Rep α] (K : Fg) (mg : MG) (a : α) : Asr := ⟨fun H v => Rep.rep K mg H v a, fun e h => Rep.mono e h⟩
/-- a record that stands for an instance of the class of this name -/
class Obj (α : Type) where
  cls : Str
  fa : Fg → MG → α → FA
instance (priority := 50) {α : Type} [Obj α] : Rep α := ⟨fun K mg H v a => ∃ p C dx vs, v = .ref p ∧ mg (Obj.cls α) = some (.ref C) ∧ H p = some (.ins C dx vs) ∧ FldsOk H (Obj.fa K mg a) vs, fun e ⟨p, C, dx, vs, h1, h2, h3, h4⟩ => ⟨p, C, dx, vs, h1, h2, e _ _ h3, h4.mono e⟩⟩
/-- an owned instance -/
def owF (mg : MG) (x : Str) (p : Addr) (fl : FA) : Own := ⟨p, fun H o => ∃ C dx vs, o = .ins C dx vs ∧ mg x = some (.ref C) ∧ FldsOk H fl vs, fun e ⟨C, dx, vs, h1, h2, h3⟩ => ⟨C, dx, vs, h1, h2, h3.mono e⟩⟩
/-- what the module says of an own class -/
structure ClsAt (K : Fg) (mg : MG) (x : Str) : Prop where
  ex : ∃ C, mg x = some (.ref C) ∧ Cls K C
theorem ClsAt.of {K : Fg} {mg : MG} {x : Str} {C : Addr} (c : ClsAt K mg x) (h : mg x = some (.ref C)) : Cls K C := by
  obtain ⟨D, h1, h2⟩ := c.ex
  rw [h] at h1
  cases h1
  exact h2
structure NoAt (K : Fg) (mg : MG) (x f : Str) : Prop where
  no : ∀ C, mg x = some (.ref C) → NoAttr K C f
section
variable {X : Cx} {F : Fr} {L : List (Option Asr)} {O : List Own} {p : Addr} {α β γ τ ρ : Type} [Rep β] [Rep γ] [RepA τ] [Rep ρ]
/-! ### reading -/
/-- e.f -/
theorem n_attr [Obj α] {e : Expr} {f : Str} {pos : Pos} {b : Bool} {m : Res α} (g : α → β) (c : ClsAt X.K X.mg (Obj.cls α)) (n : NoAt X.K X.mg (Obj.cls α) f) (h : PE X e (tP b F L O m)) (hf : ∀ a : α, (Obj.fa F.K F.mg a).lookup f = some (va F.K F.mg (g a)) := by intro _; rfl) (hM : X.mg = F.mg := by rfl)
    (hb : attributeBase e f X.env (eval e X.env) = eval e X.env := by rfl) : PE X (.Attribute e f pos) (tP b F L O (m.bind fun a => .ok (g a))) := pe_imp (pe_fld h hb) fun σ H Q ⟨g0, q⟩ => by
  rw [out_bind] at q
  refine ⟨g0, q.mono (fun a k v H1 g1 s1 r1 => ?_) fun _ z => z⟩
  obtain ⟨p, C, dx, vs, rfl, hm, hp, hfl⟩ := r1
  obtain ⟨w, hw, pw⟩ := hfl.get (hf a)
  rw [← hM] at hm
  exact ⟨p, C, dx, vs, w, rfl, rgn_sub _ _ hp, c.of hm, n.no C hm, hw, k w H1 g1 s1 pw⟩
theorem rgn_of {b : Bool} {H : Hp} : Same (rg F O H) (rgn b F O H) := by
  cases b
  · exact less_same
  · exact Same.refl _
/-- x.f, x an owned instance -/
theorem n_attrO {x y f : Str} {fl : FA} {a : β} {pos pos' : Pos} {b : Bool} (i : Nat) (c : ClsAt X.K X.mg x) (n : NoAt X.K X.mg x f) (hL : L[i]? = some (rf p)) (hO : owF F.mg x p fl ∈ O) (hf : fl.lookup f = some (va F.K F.mg a)) (hM : X.mg = F.mg := by rfl)
    (hN : X.N[i]? = some y := by rfl) (hv : Vis X.env.scope y := by first | exact Or.inl rfl | exact Or.inr (Or.inl rfl) | exact Or.inr (Or.inr rfl)) (hd : (y == ("__debug__" : Str)) = false := by decide) (hcd : (y == ("__classdict__" : Str)) = false := by decide)
    (hb : attributeBase (.Name y pos') f X.env (eval (.Name y pos') X.env) = eval (.Name y pos') X.env := by rfl) : PE X (.Attribute (.Name y pos') f pos) (tP b F L O (.ok a)) := pe_imp (pe_fld (pe_var hN hv hd hcd) hb) fun σ H Q ⟨g, q⟩ => by
  obtain ⟨v, h1, h2⟩ := g.slot hL
  obtain ⟨o, h3, C, dx, vs, h4, h5, h6⟩ := g.go.objs _ hO
  subst h4
  have h2' : v = V.ref p := h2
  subst h2'
  obtain ⟨w, hw, pw⟩ := h6.get hf
  rw [← hM] at h5
  exact ⟨_, h1, p, C, dx, vs, w, rfl, h3, c.of h5, n.no C h5, hw, q w H g (Same.refl _) (Rep.mono rgn_of pw)⟩
/-- x, an owned instance, as a value -/
theorem n_ownO [Obj α] {y : Str} {pos : Pos} {a : α} (i : Nat) (hL : L[i]? = some (rf p)) (hO : owF F.mg (Obj.cls α) p (Obj.fa F.K F.mg a) ∈ O) (hN : X.N[i]? = some y := by rfl) (hv : Vis X.env.scope y := by first | exact Or.inl rfl | exact Or.inr (Or.inl rfl) | exact Or.inr (Or.inr rfl)) (hd : (y == ("__debug__" : Str)) = false := by decide)
    (hcd : (y == ("__classdict__" : Str)) = false := by decide) : PE X (.Name y pos) (tP false F L O (.ok a)) := pe_imp (pe_var hN hv hd hcd) fun σ H Q ⟨g, q⟩ => by
  obtain ⟨v, h1, h2⟩ := g.slot hL
  obtain ⟨o, h3, C, dx, vs, h4, h5, h6⟩ := g.go.objs _ hO
  subst h4
  exact ⟨v, h1, q v H g (Same.refl _) ⟨p, C, dx, vs, h2, h5, h3, h6.mono less_same⟩⟩
/-! ### storing -/
/-- the object at p becomes another one -/
theorem g_updW {w w' : Own} {o' : HO} {σ : L2.St} {H : Hp} (ha : w'.a = w.a) (g : G F L (w :: O) σ H) (r : w'.P (rg F (w :: O) H) o') : G F L (w' :: O) σ (upd H w.a o') ∧ KeepBut w.a H (upd H w.a o') := by
  have hp : w.a ∈ addrs (w :: O) ++ F.A := List.mem_append_left _ List.mem_cons_self
  have ea : addrs (w' :: O) = addrs (w :: O) := by show w'.a :: _ = w.a :: _; rw [ha]
  have er : Same (rg F (w :: O) H) (rg F (w' :: O) (upd H w.a o')) := fun a o z => by
    unfold rg at z ⊢
    rw [ea]
    by_cases hb : a ∈ addrs (w :: O) ++ F.A
    · rw [less_in hb] at z; cases z
    · rw [less_out hb] at z
      rw [less_out hb, upd_ne (fun y => hb (by rw [y]; exact hp))]
      exact z
  have nd := List.nodup_cons.mp (show (w.a :: addrs O).Nodup from g.go.nd)
  refine ⟨⟨L2.Paired.mapP g.slots fun _ _ q => q.mono er, ?_⟩, fun x o h hx => by rw [upd_ne hx]; exact h⟩
  exact {
    objs := fun u hu => by
      rcases List.mem_cons.mp hu with rfl | hu
      · exact ⟨o', by rw [ha, upd_same], Own.mono _ er r⟩
      · obtain ⟨o, ho, q⟩ := g.go.objs u (List.mem_cons_of_mem _ hu)
        have hne : u.a ≠ w.a := fun y => nd.1 (by rw [← y]; exact List.mem_map.mpr ⟨u, hu, rfl⟩)
        exact ⟨o, by rw [upd_ne hne]; exact ho, u.mono er q⟩
    nd := by rw [ea]; exact g.go.nd
    own := fun u hu => by
      rcases List.mem_cons.mp hu with rfl | hu
      · rw [ha]; exact g.go.own w List.mem_cons_self
      · exact g.go.own u (List.mem_cons_of_mem _ hu)
    keep := fun a o h hw => by
      have hne : a ≠ w.a := fun y => by
        subst y
        rcases g.go.own _ List.mem_cons_self with z | z
        · exact hw z
        · rw [z] at h; cases h
      rw [upd_ne hne]
      exact g.go.keep a o h hw
    live := fun a h => by
      by_cases hne : a = w.a
      · subst hne; rw [upd_same]; simp
      · rw [upd_ne hne]; exact g.go.live a h
    hid := g.go.hid
    apart := fun u hu => by
      rcases List.mem_cons.mp hu with rfl | hu
      · rw [ha]; exact g.go.apart w List.mem_cons_self
      · exact g.go.apart u (List.mem_cons_of_mem _ hu)
    facts := fun z hz => z.mono er (g.go.facts z hz) }
theorem G.headF {x : Str} {fl : FA} {σ : L2.St} {H : Hp} (g : G F L (owF F.mg x p fl :: O) σ H) : ∃ C dx vs, H p = some (.ins C dx vs) ∧ F.mg x = some (.ref C) ∧ FldsOk (rg F (owF F.mg x p fl :: O) H) fl vs := by
  obtain ⟨o, h3, C, dx, vs, h4, h5, h6⟩ := g.go.objs _ List.mem_cons_self
  subst h4
  exact ⟨C, dx, vs, h3, h5, h6⟩
/-- x.f = e, x an owned instance -/
theorem s_fld {x y f : Str} {fl : FA} {e : Expr} {pos pos1 pos2 : Pos} {m : Res β} (i : Nat) (c : ClsAt X.K X.mg x) (n : NoAt X.K X.mg x f) (hL : L[i]? = some (rf p)) (hfew : fl.length < 1000) (hO : List.Sublist F.O0 (owF F.mg x p fl :: O)) (he : PE X e (tP true F L (owF F.mg x p fl :: O) m)) (hM : X.mg = F.mg := by rfl)
    (hN : X.N[i]? = some y := by rfl) (hv : Vis X.env.scope y := by first | exact Or.inl rfl | exact Or.inr (Or.inl rfl) | exact Or.inr (Or.inr rfl)) (hd : (y == ("__debug__" : Str)) = false := by decide) (hcd : (y == ("__classdict__" : Str)) = false := by decide)
    (hs : swapsWith e (some (.Attribute (.Name y pos2) f pos1)) pos.line X.env = pure false := by rfl) :
    PS X (.Assign [.Attribute (.Name y pos2) f pos1] e pos) (tN F L (owF F.mg x p fl :: O) m (fun _ => L) (fun a => owF F.mg x p (putA f (va F.K F.mg a) fl) :: O)) := ps_imp (ps_fld (pe_var hN hv hd hcd) he hs) fun D σ H ⟨g, q⟩ =>
  ⟨g, q.mono (fun a k v H1 g1 s1 r1 => by
    obtain ⟨w, h1, h2⟩ := g1.slot hL
    have h2' : w = V.ref p := h2
    subst h2'
    obtain ⟨C, dx, vs, h3, h4, h5⟩ := g1.headF
    rw [← hM] at h4
    have z := (g_updW (w := owF F.mg x p fl) (w' := owF F.mg x p (putA f (va F.K F.mg a) fl)) (o' := .ins C dx (putF f v vs)) rfl g1 ⟨C, dx, _, rfl, by rw [← hM]; exact h4, h5.put r1⟩).1
    exact ⟨_, h1, p, C, dx, vs, rfl, h3, c.of h4, n.no C h4, by rw [← h5.len]; exact hfew, k σ _ z⟩) fun H' ⟨a, _⟩ => a.go.sub hO⟩
end
end NF

set_option Elab.async false
set_option linter.all false
set_option maxRecDepth 100000
/-! Nf22: an own class's __init__, its instances made, its methods called. -/
namespace NF
open PySem PySem.Spec PyProof.Rows L2
open Data (toD)
/-- the promise of an own class's __init__ -/
def spC {τ α : Type} [RepA τ] [Obj α] (K : Fg) (mg : MG) (mir : τ → Res α) : Sp := fun vs H Q _ => ∃ (p : Addr) (us : List V) (a : τ) (A : List Addr) (C dx : Addr), (∀ x ∈ A, H x ≠ none) ∧ p ∉ A ∧ vs = .ref p :: us ∧ mg (Obj.cls α) = some (.ref C) ∧ H p = some (.ins C dx []) ∧ RepA.rep K mg (less H (p :: A)) us a ∧
  Out (F2 K mg H A E0 p) (mir a) (fun r => ∀ (H' : Hp) (C' dx' : Addr) (vs' : List (Str × V)), KeepBut p H H' → H' p = some (.ins C' dx' vs') → mg (Obj.cls α) = some (.ref C') → FldsOk (less H' (p :: A)) (Obj.fa K mg r) vs' → Q .non H') (fun H' => GO (F2 K mg H A E0 p) [] H')
theorem go_startW {K : Fg} {mg : MG} {H : Hp} {A : List Addr} {E : XK} {w : Own} {o : HO} (hA : ∀ x ∈ A, H x ≠ none) (hp : w.a ∉ A) (h : H w.a = some o) (r : w.P (less H (w.a :: A)) o) : GO (F2 K mg H A E w.a) [w] H where
  objs := fun u hu => by
    rw [List.mem_singleton.mp hu]
    exact ⟨_, h, r⟩
  nd := by simp
  own := fun u hu => by rw [List.mem_singleton.mp hu]; exact .inl List.mem_cons_self
  keep := fun _ _ h _ => h
  live := fun _ h => h
  hid := hA
  apart := fun u hu => by rw [List.mem_singleton.mp hu]; exact hp
  facts := fun _ h => (List.not_mem_nil h).elim
section
variable {P : Program} {w : World} {K : PySem.W.Frag} {mg : Str → Option Value} {base : Heap} {τ α : Type} [RepA τ] [Obj α]
variable {x qual : Str} {st : Stmt} {f : Addr} {fd : FuncData} {N ps : List Str} {k : Nat}
theorem def_C {mir : τ → Res α} (Fu : Fun K x qual st f fd) (S : FnScope N ps (defScope st)) (L0 : Addr → τ → List (Option Asr)) (Le : Addr → List (Option Asr)) (hl : ∀ (vs : List V) (R : Hp) (p : Addr) (a : τ), RepA.rep K mg R vs a → (V.ref p :: vs).length = ps.length ∧ Paired (SlotOk R) (L0 p a) (start N (V.ref p :: vs)))
    (body : ∀ (cdv : Value) (A : Around) (outer : List Env) (s : Shared) (H : Hp) (Av : List Addr) (E : XK) (p : Addr) (a : τ), Room k (A.deeper (envOfC qual (defScope st) s.heap.objs.size f cdv)) →
      PSs (cxOf CX0 P w K mg base N qual (defScope st) f cdv A outer s H E).nox (defBody st) (tN (F2 K mg H Av E0 p) (L0 p a) [owF mg (Obj.cls α) p []] (mir a) (fun _ => Le p) (fun r => [owF mg (Obj.cls α) p (Obj.fa K mg r)]))) :
    FnOk P w K mg base CX0 (k + 1) f fd ps (spC K mg mir) := by
  refine Fu.ok S (fun vs H Q E ⟨p, us, a, A, C, dx, _, _, e, _, _, h, _⟩ => by rw [e]; exact (hl us _ p a h).1) (fun cdv A outer s H vs Q E hr ⟨p, us, a, Av, C, dx, hA, hp, e, hm, h1, h, q⟩ => ⟨_, body cdv A outer s H Av E p a hr, ⟨?_, go_startW (w := owF mg (Obj.cls α) p []) hA hp h1 ⟨C, dx, [], rfl, hm, .nil⟩⟩, ?_⟩)
  · rw [e]
    exact (hl us _ p a h).2
  · refine q.mono (fun r k σ' H' g => ?_) fun H' g => g
    obtain ⟨o, h5, C', dx', vs', h6, h7, h8⟩ := g.go.objs _ List.mem_cons_self
    subst h6
    exact k H' C' dx' vs' (fun x o h hx => g.go.keep x o h (fun z => hx (List.mem_singleton.mp z))) h5 h7 h8
end
/-- what the module says of a class whose instances are made -/
structure MkAt {τ α : Type} [RepA τ] [Obj α] (P : Program) (w : World) (K : Fg) (mg : MG) (base : Heap) (k : Nat) (x : Str) (ps : List Str) (mir : τ → Res α) : Prop where
  nm : x = Obj.cls α
  ex : ∃ (C f : Addr) (fd : FuncData), mg x = some (.ref C) ∧ Mk K C f ∧ FnOk P w K mg base CX0 k f fd ps (spC K mg mir) ∧ Binds K fd ps []
/-- .. of a method that changes nothing; sp: its promise -/
structure MethAt (P : Program) (w : World) (K : Fg) (mg : MG) (base : Heap) (k : Nat) (x m : Str) (ps : List Str) (sp : Sp) : Prop where
  ex : ∃ (C f : Addr) (fd : FuncData), mg x = some (.ref C) ∧ Cls K C ∧ Meth K C m f ∧ FnOk P w K mg base CX0 k f fd ps sp ∧ Binds K fd ps []
section
variable {X : Cx} {F : Fr} {L : List (Option Asr)} {O : List Own} {α β τ ρ : Type} [Obj α] [Rep β] [RepA τ] [Rep ρ]
/-- an expression whose value is a new instance -/
def tFO (b : Bool) (F : Fr) (L : List (Option Asr)) (O : List Own) (m : Res α) : TE := fun σ H Q =>
  G F L O σ H ∧ Out F m (fun r => ∀ p C dx vs H', G F L O σ H' → Same H H' → H p = none → H' p = some (.ins C dx vs) → F.mg (Obj.cls α) = some (.ref C) → FldsOk (less (rgn b F O H') [p]) (Obj.fa F.K F.mg r) vs → Q (.ref p) H') (XP F L O σ H)
theorem fo_val {e : Expr} {b : Bool} {m : Res α} (h : PE X e (tFO b F L O m)) : PE X e (tP b F L O m) := pe_imp h fun σ H Q ⟨g, q⟩ =>
  ⟨g, q.mono (fun r k p C dx vs H' g' s h1 h2 h3 h4 => k _ H' g' s ⟨p, C, dx, vs, rfl, h3, rgn_new g s h1 h2, h4.mono less_same⟩) fun _ z => z⟩
variable {k : Nat} {ps : List Str} {x m : Str} {p1 pos apos : Pos} {e o : Expr} {es : List Expr} {b : Bool}
theorem make_core {mir : τ → Res α} {ma : Res τ} {e : Expr} {C : Addr} (hx : X.mg (Obj.cls α) = some (.ref C)) (hE : F.E = E0) (hO0 : F.O0 = [] ∨ True) (hK : X.K = F.K) (hM : X.mg = F.mg) (h : PE X e (tMake C (spC X.K X.mg mir) [] E0 (tA b F L O ma))) : PE X e (tFO b F L O (ma.bind mir)) := pe_imp h fun σ H Q ⟨g, q⟩ => by
  rw [out_bind] at q
  refine ⟨g, q.mono (fun a qa vs H1 g1 s1 r1 => ?_) fun _ z => z⟩
  intro y dx hy hdx hne
  rw [List.append_nil]
  have av := g1.go.avoided (b := b)
  have hyA : y ∉ avoid b F O := fun z => av y z hy
  have up : ∀ c o, H1 c = some o → upd (upd H1 dx (.own y)) y (.ins C dx []) c = some o := fun c o hc => by
    rw [upd_ne (ne_of_none hc hy), upd_ne (ne_of_none hc hdx)]
    exact hc
  have sm : Same H1 (upd (upd H1 dx (.own y)) y (.ins C dx [])) := fun c o hc => up c o hc
  show spC X.K X.mg mir _ _ _ _
  rw [hK, hM]
  refine ⟨y, vs, a, avoid b F O, C, dx, fun c hc z => ?_, hyA, rfl, by rw [← hM]; exact hx, upd_same, ?_, ?_⟩
  · cases e1 : H1 c with
    | none => exact av c hc e1
    | some o => rw [up c o e1] at z; cases z
  · refine RepA.mono (fun c o hc => ?_) r1
    rw [rgn_avoid] at hc
    by_cases hcA : c ∈ avoid b F O
    · rw [less_in hcA] at hc; cases hc
    · rw [less_out hcA] at hc
      rw [less_out (fun z => by
        rcases List.mem_cons.mp z with z | z
        · rw [z, hy] at hc; cases hc
        · exact hcA z)]
      exact up c o hc
  · cases e1 : mir a with
    | ok r =>
      rw [e1] at qa
      intro H' C' dx' vs' kb h1 h2 h3
      have s2 : Same H1 H' := fun c o hc => kb c o (up c o hc) (ne_of_none hc hy)
      refine ⟨rfl, qa y C' dx' vs' H' (g1.grow s2) (s1.trans s2) (s1.free hy) h1 h2 ?_⟩
      rw [rgn_avoid]
      refine h3.mono fun c o hc => ?_
      by_cases hcA : c ∈ y :: avoid b F O
      · rw [less_in hcA] at hc; cases hc
      · rw [less_out hcA] at hc
        rw [less_out (fun z => hcA (by rw [List.mem_singleton.mp z]; exact List.mem_cons_self)), less_out (fun z => hcA (List.mem_cons_of_mem _ z))]
        exact hc
    | err c fs =>
      rw [e1] at qa
      rw [← hE]
      intro D d H' h1 h2 h4
      have hz : F.E (.ref D) d H' := by
        rw [hE]
        refine False.elim ?_
        have z : F.E (.ref D) d H' := qa D d H' h1 (h2.older fun c hc z => ?_) ⟨g1.grow fun c o hc => h4.keep c o (up c o hc) (fun z => ne_of_none hc hy (List.mem_singleton.mp z)), s1.trans fun c o hc => h4.keep c o (up c o hc) (fun z => ne_of_none hc hy (List.mem_singleton.mp z))⟩
        · rw [hE] at z; exact z
        · have := g1.go.live c hc
          cases e2 : H1 c with
          | none => exact this e2
          | some o =>
            have z' : upd (upd H1 dx (.own y)) y (.ins C dx []) c = none := z
            rw [up c o e2] at z'; cases z'
      exact hz
    | bad =>
      rw [e1] at qa
      exact qa.elim
/-- x(e, ..), an own class -/
theorem fo_make {mir : τ → Res α} {ma : Res τ} (D : MkAt X.prog X.w X.K X.mg X.base k x ps mir) (hr : Room (k + 1) X.A) (ha : PA X (e :: es) (tA b F L O ma)) (hg : Gl X x := by rfl) (hE : F.E = E0 := by rfl) (hK : X.K = F.K := by rfl) (hM : X.mg = F.mg := by rfl) (hd : (x == ("__debug__" : Str)) = false := by decide)
    (hs : starEach (e :: es) X.env = (false, eval e X.env) :: starEach es X.env := by rfl) (hs2 : (backTo pos (starEach es X.env)).any (·.1) = false := by rfl) : PE X (.Call (.Name x p1) (e :: es) [] pos) (tFO b F L O (ma.bind mir)) := by
  obtain ⟨C, f, fd, h1, h2, h3, h4⟩ := D.ex
  exact make_core (C := C) (by rw [← D.nm]; exact h1) hE (.inr trivial) hK hM (pe_make h2 h3 hr hg h1 h4 .nil pass0 ha hd hs hs2)
theorem pe_tNil {e : Expr} {C : Addr} {sp : Sp} (h : PE X e (tMake C sp [] E0 tNil)) : PE X e (tMake C sp [] E0 (tA (τ := Unit) b F L O (.ok ()))) := pe_imp h fun σ H Q ⟨g, q⟩ => q [] H g (Same.refl _) rfl
theorem fo_make0 {mir : Unit → Res α} (D : MkAt X.prog X.w X.K X.mg X.base k x ps mir) (hr : Room (k + 1) X.A) (hg : Gl X x := by rfl) (hE : F.E = E0 := by rfl) (hK : X.K = F.K := by rfl) (hM : X.mg = F.mg := by rfl) (hd : (x == ("__debug__" : Str)) = false := by decide) : PE X (.Call (.Name x p1) [] [] pos) (tFO b F L O (mir ())) := by
  obtain ⟨C, f, fd, h1, h2, h3, h4⟩ := D.ex
  exact make_core (ma := .ok ()) (C := C) (by rw [← D.nm]; exact h1) hE (.inr trivial) hK hM (pe_tNil (pe_make0 h2 h3 hr hg h1 h4 .nil pass0 hd))
/-! ### methods -/
/-- an object, then arguments, as the arguments of its method -/
theorem meth_args {ta : TE} {t : TA} {sp : Sp} {C : Addr} {mo : Res α} {ma : Res τ} {E : XK} {e : Expr} (hx : X.mg (Obj.cls α) = some (.ref C)) (hM : X.mg = F.mg) (hf : ∀ a : α, (Obj.fa F.K F.mg a).lookup m = none) (h : PE X e (tMeth C m sp [] E (tP b F L O mo) (tA b F L O ma))) : PE X e (tCall sp [] E (tA b F L O (mo.bind fun x => ma.bind fun r => .ok (Ar.mk x r)))) := pe_imp h fun σ H Q ⟨g, q⟩ => by
  rw [out_bind] at q
  refine ⟨g, q.mono (fun s qs v1 H1 g1 s1 r1 => ?_) fun _ z => z⟩
  have r1' := r1
  obtain ⟨p, D, dx, vs, e1, h2, h3, h4⟩ := r1
  subst e1
  rw [out_bind] at qs
  have hD : D = C := by
    rw [← hM, hx] at h2
    cases h2
    rfl
  subst hD
  refine ⟨p, dx, vs, rfl, rgn_sub _ _ h3, h4.miss (hf s), g1, qs.mono (fun a qa vs' H2 g2 s2 r2 => ?_) fun H' ⟨a, b⟩ => ⟨a, s1.trans b⟩⟩
  have z := qa (V.ref p :: vs') H2 g2 (s1.trans s2) ⟨V.ref p, vs', rfl, Rep.mono (rgn_grow s2) r1', r2⟩
  exact z
/-- o.m(e, ..) -/
theorem n_meth {mir : Ar α τ → Res ρ} {mo : Res α} {ma : Res τ} {pl : Sem Bool} (D : MethAt X.prog X.w X.K X.mg X.base k (Obj.cls α) m ps (spP X.K X.mg mir)) (hr : Room k X.A) (ho : PE X o (tP b F L O mo)) (ha : PA X (e :: es) (tA b F L O ma)) (hf : ∀ a : α, (Obj.fa F.K F.mg a).lookup m = none := by intro _; rfl) (hE : F.E = E0 := by rfl) (hK : X.K = F.K := by rfl) (hM : X.mg = F.mg := by rfl)
    (hs : starEach (e :: es) X.env = (false, eval e X.env) :: starEach es X.env := by rfl) (hs2 : (backTo pos (starEach es X.env)).any (·.1) = false := by rfl)
    (ht : eval (.Call (.Attribute o m apos) (e :: es) [] pos) X.env = (do
      let ov ← eval o X.env
      standAt apos.atName
      let (f, first) ← holding [ov] (getMethod ov m pl)
      callWith pos f first (backTo pos (starEach (e :: es) X.env)) (backToKw pos (keywordEach [] X.env))) := by rfl) : PE X (.Call (.Attribute o m apos) (e :: es) [] pos) (tP b F L O ((mo.bind fun x => ma.bind fun r => .ok (Ar.mk x r)).bind mir)) := by
  obtain ⟨C, f, fd, h1, h2, h3, h4, h5⟩ := D.ex
  exact call_core (sp := spP X.K X.mg mir) hE (fun vs H Q q => by rw [← hK, ← hM] at q; exact q) (meth_args (ta := tC .non) (t := tNil) h1 hM hf (pe_meth (pl := pl) ho h2 h3 h4 hr h5 .nil pass0 ha hs hs2 ht))
theorem f_meth {mir : Ar α τ → Res (List β)} {mo : Res α} {ma : Res τ} {pl : Sem Bool} (D : MethAt X.prog X.w X.K X.mg X.base k (Obj.cls α) m ps (spF X.K X.mg mir)) (hr : Room k X.A) (ho : PE X o (tP b F L O mo)) (ha : PA X (e :: es) (tA b F L O ma)) (hf : ∀ a : α, (Obj.fa F.K F.mg a).lookup m = none := by intro _; rfl) (hE : F.E = E0 := by rfl) (hK : X.K = F.K := by rfl) (hM : X.mg = F.mg := by rfl)
    (hs : starEach (e :: es) X.env = (false, eval e X.env) :: starEach es X.env := by rfl) (hs2 : (backTo pos (starEach es X.env)).any (·.1) = false := by rfl)
    (ht : eval (.Call (.Attribute o m apos) (e :: es) [] pos) X.env = (do
      let ov ← eval o X.env
      standAt apos.atName
      let (f, first) ← holding [ov] (getMethod ov m pl)
      callWith pos f first (backTo pos (starEach (e :: es) X.env)) (backToKw pos (keywordEach [] X.env))) := by rfl) : PE X (.Call (.Attribute o m apos) (e :: es) [] pos) (tF b F L O ((mo.bind fun x => ma.bind fun r => .ok (Ar.mk x r)).bind mir)) := by
  obtain ⟨C, f, fd, h1, h2, h3, h4, h5⟩ := D.ex
  exact callF_core (sp := spF X.K X.mg mir) hE (fun vs H Q q => by rw [← hK, ← hM] at q; exact q) (meth_args (ta := tC .non) (t := tNil) h1 hM hf (pe_meth (pl := pl) ho h2 h3 h4 hr h5 .nil pass0 ha hs hs2 ht))
theorem meth_nil {t0 : TE} {sp : Sp} {C : Addr} {E : XK} {e : Expr} (h : PE X e (tMeth C m sp [] E t0 tNil)) (ht : t0 = tP b F L O mo) : PE X e (tMeth C m sp [] E (tP (α := α) b F L O mo) (tA (τ := Unit) b F L O (.ok ()))) := pe_imp h fun σ H Q q => by
  subst ht
  obtain ⟨g, q⟩ := q
  refine ⟨g, q.mono (fun s k v H1 g1 s1 r1 => ?_) fun _ z => z⟩
  obtain ⟨a, dx, fs, e1, e2, e3, q2⟩ := k v H1 g1 s1 r1
  exact ⟨a, dx, fs, e1, e2, e3, q2.2 [] H1 q2.1 (Same.refl _) rfl⟩
/-- o.m() -/
theorem n_meth0 {mir : Ar α Unit → Res ρ} {mo : Res α} {pl : Sem Bool} (D : MethAt X.prog X.w X.K X.mg X.base k (Obj.cls α) m ps (spP X.K X.mg mir)) (hr : Room k X.A) (ho : PE X o (tP b F L O mo)) (hf : ∀ a : α, (Obj.fa F.K F.mg a).lookup m = none := by intro _; rfl) (hE : F.E = E0 := by rfl) (hK : X.K = F.K := by rfl) (hM : X.mg = F.mg := by rfl)
    (ht : eval (.Call (.Attribute o m apos) [] [] pos) X.env = (do
      let ov ← eval o X.env
      standAt apos.atName
      let (f, first) ← holding [ov] (getMethod ov m pl)
      callWith pos f first (backTo pos (starEach [] X.env)) (backToKw pos (keywordEach [] X.env))) := by rfl) : PE X (.Call (.Attribute o m apos) [] [] pos) (tP b F L O ((mo.bind fun x => Res.ok (Ar.mk x ())).bind mir)) := by
  obtain ⟨C, f, fd, h1, h2, h3, h4, h5⟩ := D.ex
  exact call_core (sp := spP X.K X.mg mir) hE (fun vs H Q q => by rw [← hK, ← hM] at q; exact q) (meth_args (ma := .ok ()) (ta := tC .non) (t := tNil) h1 hM hf (meth_nil (pe_meth0 (pl := pl) ho h2 h3 h4 hr h5 .nil pass0 ht) rfl))
end
end NF

set_option Elab.async false
set_option linter.all false
set_option maxRecDepth 100000
/-! Nf23: owned instances that stand for a record; methods that change them, and may raise. -/
namespace NF
open PySem PySem.Spec PyProof.Rows L2
open Data (toD)
instance (priority := 50) {α : Type} [Obj α] : OwR α := ⟨fun K mg H o a => ∃ C dx vs, o = .ins C dx vs ∧ mg (Obj.cls α) = some (.ref C) ∧ FldsOk H (Obj.fa K mg a) vs, fun e ⟨C, dx, vs, h1, h2, h3⟩ => ⟨C, dx, vs, h1, h2, h3.mono e⟩⟩
section
variable {X : Cx} {F : Fr} {L : List (Option Asr)} {O : List Own} {p : Addr} {α β γ τ ρ ι : Type} [Obj α] [Rep β] [Rep γ] [RepA τ] [Rep ρ] [OwR ι]
theorem obj_at {s : α} {σ : L2.St} {H : Hp} (g : G F L O σ H) (hO : ow F.K F.mg p s ∈ O) : ∃ C dx vs, H p = some (.ins C dx vs) ∧ F.mg (Obj.cls α) = some (.ref C) ∧ FldsOk (rg F O H) (Obj.fa F.K F.mg s) vs := by
  obtain ⟨o, h3, C, dx, vs, h4, h5, h6⟩ := g.go.objs _ hO
  subst h4
  exact ⟨C, dx, vs, h3, h5, h6⟩
/-- x.f, x an owned instance that stands for s -/
theorem n_attrW {y f : Str} {s : α} {pos pos' : Pos} {b : Bool} (g : α → β) (i : Nat) (c : ClsAt X.K X.mg (Obj.cls α)) (n : NoAt X.K X.mg (Obj.cls α) f) (hL : L[i]? = some (rf p)) (hO : ow F.K F.mg p s ∈ O) (hf : ∀ s : α, (Obj.fa F.K F.mg s).lookup f = some (va F.K F.mg (g s)) := by intro _; rfl) (hM : X.mg = F.mg := by rfl)
    (hN : X.N[i]? = some y := by rfl) (hv : Vis X.env.scope y := by first | exact Or.inl rfl | exact Or.inr (Or.inl rfl) | exact Or.inr (Or.inr rfl)) (hd : (y == ("__debug__" : Str)) = false := by decide) (hcd : (y == ("__classdict__" : Str)) = false := by decide)
    (hb : attributeBase (.Name y pos') f X.env (eval (.Name y pos') X.env) = eval (.Name y pos') X.env := by rfl) : PE X (.Attribute (.Name y pos') f pos) (tP b F L O (.ok (g s))) := pe_imp (pe_fld (pe_var hN hv hd hcd) hb) fun σ H Q ⟨g0, q⟩ => by
  obtain ⟨v, h1, h2⟩ := g0.slot hL
  obtain ⟨C, dx, vs, h3, h5, h6⟩ := obj_at g0 hO
  have h2' : v = V.ref p := h2
  subst h2'
  obtain ⟨w, hw, pw⟩ := h6.get (hf s)
  rw [← hM] at h5
  exact ⟨_, h1, p, C, dx, vs, w, rfl, h3, c.of h5, n.no C h5, hw, q w H g0 (Same.refl _) (Rep.mono rgn_of pw)⟩
/-- x, an owned instance, as a value -/
theorem n_ownW {y : Str} {pos : Pos} {s : α} (i : Nat) (hL : L[i]? = some (rf p)) (hO : ow F.K F.mg p s ∈ O) (hN : X.N[i]? = some y := by rfl) (hv : Vis X.env.scope y := by first | exact Or.inl rfl | exact Or.inr (Or.inl rfl) | exact Or.inr (Or.inr rfl)) (hd : (y == ("__debug__" : Str)) = false := by decide)
    (hcd : (y == ("__classdict__" : Str)) = false := by decide) : PE X (.Name y pos) (tP false F L O (.ok s)) := pe_imp (pe_var hN hv hd hcd) fun σ H Q ⟨g, q⟩ => by
  obtain ⟨v, h1, h2⟩ := g.slot hL
  obtain ⟨C, dx, vs, h3, h5, h6⟩ := obj_at g hO
  exact ⟨v, h1, q v H g (Same.refl _) ⟨p, C, dx, vs, h2, h5, h3, h6.mono less_same⟩⟩
/-- x.f = e -/
theorem s_fldW {y f : Str} {s : α} {e : Expr} {pos pos1 pos2 : Pos} {m : Res β} (u : α → β → α) (i : Nat) (c : ClsAt X.K X.mg (Obj.cls α)) (n : NoAt X.K X.mg (Obj.cls α) f) (hL : L[i]? = some (rf p)) (hO : List.Sublist F.O0 (ow F.K F.mg p s :: O)) (he : PE X e (tP true F L (ow F.K F.mg p s :: O) m)) (hu : ∀ (s : α) (a : β), Obj.fa F.K F.mg (u s a) = putA f (va F.K F.mg a) (Obj.fa F.K F.mg s) := by intro _ _; rfl) (hfew : ∀ s : α, (Obj.fa F.K F.mg s).length < 1000 := by intro _; show _ < 1000; decide) (hM : X.mg = F.mg := by rfl)
    (hN : X.N[i]? = some y := by rfl) (hv : Vis X.env.scope y := by first | exact Or.inl rfl | exact Or.inr (Or.inl rfl) | exact Or.inr (Or.inr rfl)) (hd : (y == ("__debug__" : Str)) = false := by decide) (hcd : (y == ("__classdict__" : Str)) = false := by decide)
    (hs : swapsWith e (some (.Attribute (.Name y pos2) f pos1)) pos.line X.env = pure false := by rfl) :
    PS X (.Assign [.Attribute (.Name y pos2) f pos1] e pos) (tN F L (ow F.K F.mg p s :: O) m (fun _ => L) (fun a => ow F.K F.mg p (u s a) :: O)) := ps_imp (ps_fld (pe_var hN hv hd hcd) he hs) fun D σ H ⟨g, q⟩ =>
  ⟨g, q.mono (fun a k v H1 g1 s1 r1 => by
    obtain ⟨w, h1, h2⟩ := g1.slot hL
    have h2' : w = V.ref p := h2
    subst h2'
    obtain ⟨C, dx, vs, h3, h4, h5⟩ := obj_at g1 List.mem_cons_self
    have z := (g_updW (w := ow F.K F.mg p s) (w' := ow F.K F.mg p (u s a)) (o' := .ins C dx (putF f v vs)) rfl g1 ⟨C, dx, _, rfl, h4, by rw [hu]; exact h5.put r1⟩).1
    rw [← hM] at h4
    exact ⟨_, h1, p, C, dx, vs, rfl, h3, c.of h4, n.no C h4, by rw [← h5.len]; exact hfew s, k σ _ z⟩) fun H' ⟨a, _⟩ => a.go.sub hO⟩
/-- x.f += e, ints -/
theorem s_fldaugW {y f : Str} {s : α} {e : Expr} {pos pos1 pos2 : Pos} {m : Res Int} {b : Bool} (g : α → Int) (u : α → Int → α) (i : Nat) (c : ClsAt X.K X.mg (Obj.cls α)) (n : NoAt X.K X.mg (Obj.cls α) f) (hL : L[i]? = some (rf p)) (hO : List.Sublist F.O0 (ow F.K F.mg p s :: O)) (he : PE X e (tP b F L (ow F.K F.mg p s :: O) m)) (hf : ∀ s : α, (Obj.fa F.K F.mg s).lookup f = some (va F.K F.mg (g s)) := by intro _; rfl) (hu : ∀ (s : α) (a : Int), Obj.fa F.K F.mg (u s a) = putA f (va F.K F.mg a) (Obj.fa F.K F.mg s) := by intro _ _; rfl) (hfew : ∀ s : α, (Obj.fa F.K F.mg s).length < 1000 := by intro _; show _ < 1000; decide) (hM : X.mg = F.mg := by rfl)
    (hN : X.N[i]? = some y := by rfl) (hv : Vis X.env.scope y := by first | exact Or.inl rfl | exact Or.inr (Or.inl rfl) | exact Or.inr (Or.inr rfl)) (hd : (y == ("__debug__" : Str)) = false := by decide) (hcd : (y == ("__classdict__" : Str)) = false := by decide) :
    PS X (.AugAssign (.Attribute (.Name y pos2) f pos1) .Add e pos) (tN F L (ow F.K F.mg p s :: O) (m.bind fun a => .ok (g s + a)) (fun _ => L) (fun a => ow F.K F.mg p (u s a) :: O)) := ps_imp (ps_fldaug (pe_var hN hv hd hcd) he in_add) fun D σ H ⟨g0, q⟩ => by
  rw [out_bind] at q
  obtain ⟨w, h1, h2⟩ := g0.slot hL
  have h2' : w = V.ref p := h2
  subst h2'
  obtain ⟨C, dx, vs, h3, h4, h5⟩ := obj_at g0 List.mem_cons_self
  obtain ⟨v0, hv0, pv0⟩ := h5.get (hf s)
  have h4' := h4
  rw [← hM] at h4'
  refine ⟨_, h1, p, C, dx, vs, v0, rfl, h3, c.of h4', n.no C h4', hv0, g0, q.mono (fun a k v H1 g1 s1 r1 => ?_) fun H' ⟨a, _⟩ => a.go.sub hO⟩
  obtain ⟨C1, dx1, vs1, h6, h7, h8⟩ := obj_at g1 List.mem_cons_self
  have eC : C1 = C := by
    rw [h4] at h7
    cases h7
    rfl
  subst eC
  have pv0' : v0 = V.int (g s) := pv0
  refine ⟨g s, a, pv0', r1, dx1, vs1, h6, by rw [← h8.len]; exact hfew s, ?_⟩
  exact k σ _ (g_updW (w := ow F.K F.mg p s) (w' := ow F.K F.mg p (u s (g s + a))) (o' := .ins C1 dx1 (putF f (.int (g s + a)) vs1)) rfl g1 ⟨C1, dx1, _, rfl, h7, by rw [hu]; exact h8.put (A := va F.K F.mg (g s + a)) rfl⟩).1
/-- x = what is a new instance, owned from now on -/
theorem s_ownO {x : Str} {e : Expr} {pos pos' : Pos} (i : Nat) (hN : X.N.Nodup) (hO : List.Sublist F.O0 O) {m : Res α} (he : PE X e (tFO true F L O m)) (hi : X.N[i]? = some x := by rfl) (hx : L2.Loc X.env.scope x := by first | exact .inl rfl | exact .inr rfl) (hs : swapsWith e (some (.Name x pos')) pos.line X.env = pure false := by rfl) (hf : X.fn x = true ∨ X.env.scope.names.lookup x = some .local := by first | exact .inl rfl | exact .inr rfl) :
    PS X (.Assign [.Name x pos'] e pos) (tNp F L O m (fun p _ => L.set i (rf p)) (fun p r => ow F.K F.mg p r :: O)) := ps_imp (ps_set (i := i) hN hi hx he hs hf) fun D σ H ⟨g, q⟩ =>
  ⟨g, q.mono (fun r k p C dx vs H1 g1 s1 h1 h2 h3 h4 => k p _ _ ⟨set_ok (p := rf p) rfl i (L2.Paired.mapP g.slots fun _ _ z => z.mono (rg_new rfl s1 h1)), {
    objs := fun w hw => by
      rcases List.mem_cons.mp hw with rfl | hw
      · refine ⟨_, h2, C, dx, vs, rfl, h3, h4.mono fun b o q => ?_⟩
        by_cases hb : b ∈ [p]
        · rw [less_in hb] at q; cases q
        · rw [less_out hb] at q
          have q' : less H1 (addrs O ++ F.A) b = some o := q
          show less H1 (p :: (addrs O ++ F.A)) b = some o
          by_cases hc : b ∈ addrs O ++ F.A
          · rw [less_in hc] at q'; cases q'
          · rw [less_out hc] at q'
            rw [less_out (fun z => by
              rcases List.mem_cons.mp z with z | z
              · exact hb (List.mem_singleton.mpr z)
              · exact hc z)]
            exact q'
      · obtain ⟨o, ho, hp⟩ := g.go.objs w hw
        exact ⟨o, s1 _ _ ho, w.mono (rg_new rfl s1 h1) hp⟩
    nd := List.nodup_cons.mpr ⟨fun z => g.go.out h1 (List.mem_append_left _ z), g1.go.nd⟩
    own := fun w hw => by
      rcases List.mem_cons.mp hw with rfl | hw
      · refine .inr ?_
        cases q : F.H0 p with
        | none => exact q
        | some o => exact (g.go.live p (by rw [q]; simp) h1).elim
      · exact g1.go.own w hw
    keep := g1.go.keep
    live := g1.go.live
    hid := g1.go.hid
    apart := fun w hw => by
      rcases List.mem_cons.mp hw with rfl | hw
      · exact fun z => g.go.out h1 (List.mem_append_right _ z)
      · exact g1.go.apart w hw
    facts := fun z hz => z.mono (rg_new rfl s1 h1) (g.go.facts z hz) }⟩) fun H' ⟨a, _⟩ => a.go.sub hO⟩
end
/-! ### defs and methods that change an object and may raise while it stands as it was -/
def spIX {τ ρ ι : Type} [RepA τ] [Rep ρ] [OwR ι] (K : Fg) (mg : MG) (mir : ι → τ → Res (ρ × ι)) : Sp := fun vs H Q E => ∃ (p : Addr) (a : τ) (A : List Addr) (xs : ι) (us : List V) (ob : HO), (∀ x ∈ A, H x ≠ none) ∧ p ∉ A ∧ vs = .ref p :: us ∧ RepA.rep K mg (less H (p :: A)) us a ∧
  H p = some ob ∧ OwR.P K mg (less H (p :: A)) ob xs ∧
  Out (F2 K mg H A (fun c d H' => (∃ ob', H' p = some ob' ∧ OwR.P K mg (less H' (p :: A)) ob' xs) → E c d H') p) (mir xs a) (fun r => ∀ v H' ob', KeepBut p H H' → H' p = some ob' → OwR.P K mg (less H' (p :: A)) ob' r.2 → Rep.rep K mg (less H' (p :: A)) v r.1 → Q v H') (fun H' => GO (F2 K mg H A E0 p) [] H')
section
variable {P : Program} {w : World} {K : Fg} {mg : MG} {base : Heap} {τ ρ ι : Type} [RepA τ] [Rep ρ] [OwR ι]
variable {x qual : Str} {st : Stmt} {f : Addr} {fd : FuncData} {N ps : List Str} {k : Nat}
theorem go_e {K : Fg} {mg : MG} {H H' : Hp} {A : List Addr} {E E' : XK} {p : Addr} {O : List Own} (g : GO (F2 K mg H A E p) O H') : GO (F2 K mg H A E' p) O H' := ⟨g.objs, g.nd, g.own, g.keep, g.live, g.hid, g.apart, g.facts⟩
/-- falls off its end or raises -/
theorem def_IXU {mir : ι → τ → Res (Sum ι (Unit × ι))} (Fu : Fun K x qual st f fd) (S : FnScope N ps (defScope st)) (L0 : Addr → τ → List (Option Asr)) (Le : List (Option Asr)) (hl : ∀ (vs : List V) (R : Hp) (p : Addr) (a : τ), RepA.rep K mg R vs a → (V.ref p :: vs).length = ps.length ∧ Paired (SlotOk R) (L0 p a) (start N (V.ref p :: vs)))
    (body : ∀ (cdv : Value) (A : Around) (outer : List Env) (s : Shared) (H : Hp) (Av : List Addr) (E : XK) (p : Addr) (xs : ι) (a : τ), Room k (A.deeper (envOfC qual (defScope st) s.heap.objs.size f cdv)) →
      (∀ L O, ow K mg p xs ∈ O → TkX (cxOf (L2N.CX P w) P w K mg base N qual (defScope st) f cdv A outer s H E) (F2 K mg H Av (fun c d H' => (∃ ob', H' p = some ob' ∧ OwR.P K mg (less H' (p :: Av)) ob' xs) → E c d H') p) L O) →
      PSs (cxOf (L2N.CX P w) P w K mg base N qual (defScope st) f cdv A outer s H E) (defBody st) (tM (F2 K mg H Av (fun c d H' => (∃ ob', H' p = some ob' ∧ OwR.P K mg (less H' (p :: Av)) ob' xs) → E c d H') p) (L0 p a) [ow K mg p xs] (mir xs a) (fun _ => Le) (fun y => [ow K mg p y]) (rI (F2 K mg H Av (fun c d H' => (∃ ob', H' p = some ob' ∧ OwR.P K mg (less H' (p :: Av)) ob' xs) → E c d H') p) p))) :
    FnOk P w K mg base (L2N.CX P w) (k + 1) f fd ps (spIX K mg fun xs a => goOn (mir xs a) fun y => .ok ((), y)) := by
  obtain ⟨oc, od, kV, doc, pm, an, cdv, ct, osl, rfl, lk, hcd⟩ := Fu.ex
  refine fn_of lk hcd S (fun vs H Q E ⟨p, a, A, xs, us, ob, _, _, e, h, _⟩ => by rw [e]; exact (hl us _ p a h).1) fun A outer s H vs Q E hr ⟨p, a, Av, xs, us, ob, hA, hp, e, h, h1, h2, q⟩ =>
    ⟨_, body cdv A outer s H Av E p xs a hr (fun L O hO => ⟨_, L2N.takes_of rfl rfl rfl rfl, fun c d σ H' e g => e ?_⟩), ⟨?_, ?_⟩, ?_⟩
  · obtain ⟨o, h3, h4⟩ := g.go.objs _ hO
    exact ⟨o, h3, OwR.mono (less_sub fun y hy => by
      rcases List.mem_cons.mp hy with hy | hy
      · rw [hy]; exact List.mem_append_left _ (List.mem_map.mpr ⟨_, hO, rfl⟩)
      · exact List.mem_append_right _ hy) h4⟩
  · rw [e]
    exact (hl us _ p a h).2
  · exact go_startI hA hp h1 h2
  · unfold goOn at q
    rw [out_bind] at q
    refine q.mono (fun r k => ?_) fun H' g => go_e g
    cases r with
    | inl y =>
      intro σ' H' g
      obtain ⟨o, h3, h4⟩ := g.go.objs _ List.mem_cons_self
      exact k .non H' o (fun x o h hx => g.go.keep x o h (fun z => hx (List.mem_singleton.mp z))) h3 h4 rfl
    | inr d =>
      intro v H' ⟨g, r'⟩
      obtain ⟨o, h3, h4⟩ := g.objs _ List.mem_cons_self
      exact k v H' o (fun x o h hx => g.keep x o h (fun z => hx (List.mem_singleton.mp z))) h3 h4 r'
end
end NF

set_option Elab.async false
set_option linter.all false
set_option maxRecDepth 100000
/-! Nf24: None or an int; is None; tuples cut and put together; methods in defs that raise; clear. -/
namespace NF
open PySem PySem.Spec PyProof.Rows L2
open Data (toD)
/-! ### None or an int -/
def optV : Option Int → V
  | none => .non
  | some i => .int i
def optD : Option Int → PyData
  | none => .none
  | some i => .int i
instance : Rep (Option Int) := ⟨fun _ _ _ v a => v = optV a, fun _ h => h⟩
instance : Flat (Option Int) := ⟨optV, Iff.rfl⟩
instance : Data (Option Int) := ⟨optD, fun {K mg H v a} h => by
  have h' : v = optV a := h
  subst h'
  cases a with
  | none => exact .non
  | some i => exact .int i⟩
/-- what `is None` says -/
class IsN (α : Type) [Rep α] where
  isN : α → Bool
  ok : ∀ {K : Fg} {mg : MG} {H : Hp} {v : V} {a : α}, Rep.rep K mg H v a → decide (v = .non) = isN a
instance : IsN (Option Int) := ⟨Option.isNone, fun {K mg H v a} h => by
  have h' : v = optV a := h
  subst h'
  cases a <;> simp [optV]⟩
instance : IsN Unit := ⟨fun _ => true, fun {K mg H v a} h => by
  have h' : v = .non := h
  subst h'
  simp⟩
instance : IsN Int := ⟨fun _ => false, fun {K mg H v a} h => by
  have h' : v = .int a := h
  subst h'
  simp⟩
instance : IsN PyData := ⟨fun d => match d with
  | .none => true
  | _ => false, fun {K mg H v a} h => by
  have h' : Dp K H v a := h
  cases h' <;> simp⟩
section
variable {X : Cx} {F : Fr} {L : List (Option Asr)} {O : List Own} {p : Addr} {α β γ τ ρ ι : Type} [Rep α] [Rep β] [Rep γ] [RepA τ] [Rep ρ] [OwR ι]
variable {b b1 b2 b3 : Bool} {x y : Expr} {pos p' : Pos} {j : Nat}
theorem n_some {m : Res Int} (h : PE X x (tP b F L O m)) : PE X x (tP b3 F L O (m.bind fun a => .ok (some a))) := pe_imp h fun σ H Q ⟨g, q⟩ => by
  rw [out_bind] at q
  exact ⟨g, q.mono (fun a k v H1 g1 s1 r1 => k v H1 g1 s1 r1) fun _ z => z⟩
theorem n_noneO {m : Res Unit} (h : PE X x (tP b F L O m)) : PE X x (tP b3 F L O (m.bind fun _ => .ok (none : Option Int))) := pe_imp h fun σ H Q ⟨g, q⟩ => by
  rw [out_bind] at q
  exact ⟨g, q.mono (fun a k v H1 g1 s1 r1 => k v H1 g1 s1 r1) fun _ z => z⟩
theorem n_isN [IsN α] {m : Res α} (hx : PE X x (tP b1 F L O m)) : PE X (.Compare x [.Is] [.Constant .none j p'] pos) (tP b3 F L O (m.bind fun a => .ok (IsN.isN a))) := pe_imp (pe_cmpR op_isN hx pe_non (nomark _)) fun σ H Q ⟨g, q⟩ => by
  rw [out_bind] at q
  exact ⟨g, q.mono (fun a k v H1 g1 s1 r1 => ⟨rfl, by rw [IsN.ok r1]; exact k _ H1 g1 s1 rfl⟩) fun _ z => z⟩
theorem n_notN [IsN α] {m : Res α} (hx : PE X x (tP b1 F L O m)) : PE X (.Compare x [.IsNot] [.Constant .none j p'] pos) (tP b3 F L O (m.bind fun a => .ok (!IsN.isN a))) := pe_imp (pe_cmpR op_notN hx pe_non (nomark _)) fun σ H Q ⟨g, q⟩ => by
  rw [out_bind] at q
  exact ⟨g, q.mono (fun a k v H1 g1 s1 r1 => ⟨rfl, by rw [IsN.ok r1]; exact k _ H1 g1 s1 rfl⟩) fun _ z => z⟩
theorem t_isN [IsN α] {m : Res α} (hx : PE X x (tP b1 F L O m)) : PT X (.Compare x [.Is] [.Constant .none j p'] pos) (tB' F L O (m.bind fun a => .ok (IsN.isN a))) := pt_imp (pt_cmpR op_isN hx pe_non (nomark _)) fun σ H Q ⟨g, q⟩ => by
  rw [out_bind] at q
  exact ⟨g, q.mono (fun a k v H1 g1 s1 r1 => ⟨rfl, by rw [IsN.ok r1]; exact ⟨_, rfl, k H1 g1 s1⟩⟩) fun _ z => z⟩
theorem t_notN [IsN α] {m : Res α} (hx : PE X x (tP b1 F L O m)) : PT X (.Compare x [.IsNot] [.Constant .none j p'] pos) (tB' F L O (m.bind fun a => .ok (!IsN.isN a))) := pt_imp (pt_cmpR op_notN hx pe_non (nomark _)) fun σ H Q ⟨g, q⟩ => by
  rw [out_bind] at q
  exact ⟨g, q.mono (fun a k v H1 g1 s1 r1 => ⟨rfl, by rw [IsN.ok r1]; exact ⟨_, rfl, k H1 g1 s1⟩⟩) fun _ z => z⟩
theorem et_notN [IsN α] {xs : ι} {m : Res (α × ι)} (hx : PE X x (tE b1 F L p xs O m)) : PT X (.Compare x [.IsNot] [.Constant .none j p'] pos) (tEB F L p xs O (m.bind fun a => .ok (!IsN.isN a.1, a.2))) := pt_imp (pt_cmpR op_notN hx pe_non (nomark _)) fun σ H Q ⟨g, q⟩ => by
  rw [out_bind] at q
  exact ⟨g, q.mono (fun a k v H1 g1 s1 r1 => ⟨rfl, by rw [IsN.ok r1]; exact ⟨_, rfl, k H1 g1 s1⟩⟩) fun _ z => z⟩
/-! ### tuples -/
theorem cut_all {xs : List α} {l h : Option Int} (e : HT.sIx xs.length 0 l = 0 ∧ HT.sIx xs.length xs.length h = xs.length) : cut xs l h = xs := by
  unfold cut
  rw [e.1, e.2]
  simp
theorem n_sliceT {ma : Res (Tp α)} {lo hi : Option Expr} {ml mh : Res (Option Int)} {p1 p2 : Pos} (hx : PE X x (tP b F L O ma)) (hl : PO X lo (tO F L O ml)) (hh : PO X hi (tO F L O mh)) (hK : X.K = F.K := by rfl) :
    PE X (.Subscript x (.Slice lo hi none p2) p1) (tP b F L O (ma.bind fun x => ml.bind fun l => mh.bind fun h => .ok (Tp.mk (cut x.xs l h)))) := pe_imp (pe_slice sl_tupA hx hl hh) fun σ H Q ⟨g, q⟩ => by
  rw [out_bind] at q
  refine ⟨g, q.mono (fun x qx v1 H1 g1 s1 r1 => ?_) fun _ z => z⟩
  rw [out_bind] at qx
  refine ⟨g1, qx.mono (fun l ql H2 g2 s2 => ?_) fun H' ⟨a, b⟩ => ⟨a, s1.trans b⟩⟩
  rw [out_bind] at ql
  refine ⟨g2, ql.mono (fun h qh H3 g3 s3 => ?_) fun H' ⟨a, b⟩ => ⟨a, (s1.trans s2).trans b⟩⟩
  obtain ⟨p, vs, rfl, h2, h3⟩ := r1
  have e : vs.length = x.xs.length := h3.length
  have h3' := h3.mono (rgn_grow (b := b) (s2.trans s3))
  have h2' := same_t (rgn_grow (b := b) (s2.trans s3)) h2
  rw [hK]
  refine ⟨p, vs, rfl, same_t rgn_sub h2', fun w => ?_, fun w q hq => ?_⟩
  · rw [e] at w
    exact qh _ H3 g3 ((s1.trans s2).trans s3) ⟨p, vs, rfl, h2', by rw [cut_all w]; exact h3'⟩
  · refine qh _ _ (g3.grow (same_upd hq)) (((s1.trans s2).trans s3).trans (same_upd hq)) ⟨q, _, rfl, .of (rgn_new g3 (same_upd hq) hq upd_same), ?_⟩
    unfold cutV
    show Reps _ _ _ _ (cut x.xs l h)
    unfold cut
    rw [e]
    exact (reps_take _ (reps_drop _ h3')).mono (rgn_grow (same_upd hq))
theorem n_catT {ma mb : Res (Tp α)} (hx : PE X x (tP b F L O ma)) (hy : PE X y (tP b F L O mb)) (hK : X.K = F.K := by rfl) :
    PE X (.BinOp x .Add y pos) (tP b F L O (ma.bind fun x => mb.bind fun y => need (x.xs.length + y.xs.length ≤ sizeLine) (.ok (Tp.mk (x.xs ++ y.xs))))) := nf2 (pe_op op_catA hx hy) fun x y vx vy H σ Q g rx ry q => by
  rw [out_need] at q
  obtain ⟨hz, k⟩ := q
  obtain ⟨p, vs, rfl, h2, h3⟩ := rx
  obtain ⟨p', vs', rfl, h2', h3'⟩ := ry
  rw [hK]
  have l1 : vs.length = x.xs.length := h3.length
  have l2 : vs'.length = y.xs.length := h3'.length
  refine ⟨p, p', vs, vs', rfl, rfl, same_t rgn_sub h2, same_t rgn_sub h2', by omega, fun e => ?_, fun _ e => ?_, fun _ _ q hq => ?_⟩
  · have ex : x.xs = [] := List.eq_nil_of_length_eq_zero (by rw [← l1, e]; rfl)
    exact k _ H g (Same.refl _) ⟨p', vs', rfl, h2', by show Reps _ _ _ _ (x.xs ++ y.xs); rw [ex]; exact h3'⟩
  · have ey : y.xs = [] := List.eq_nil_of_length_eq_zero (by rw [← l2, e]; rfl)
    exact k _ H g (Same.refl _) ⟨p, vs, rfl, h2, by show Reps _ _ _ _ (x.xs ++ y.xs); rw [ey, List.append_nil]; exact h3⟩
  · exact k _ _ (g.grow (same_upd hq)) (same_upd hq) ⟨q, _, rfl, .of (rgn_new g (same_upd hq) hq upd_same), (reps_append h3 h3').mono (rgn_grow (same_upd hq))⟩
/-- x.clear(), x an owned list -/
theorem s_clear {z : Str} {xs : List α} {pos1 pos2 cpos : Pos} (i : Nat) (hL : L[i]? = some (rf p)) (hO : List.Sublist F.O0 (ow F.K F.mg p xs :: O))
    (h : ∀ {to : TE}, PE X (.Name z pos1) to → PE X (.Call (.Attribute (.Name z pos1) "clear" pos2) [] [] cpos) (tBM0 X.K "list" rClear to))
    (hN : X.N[i]? = some z := by rfl) (hv : Vis X.env.scope z := by first | exact Or.inl rfl | exact Or.inr (Or.inl rfl) | exact Or.inr (Or.inr rfl)) (hd : (z == ("__debug__" : Str)) = false := by decide) (hcd : (z == ("__classdict__" : Str)) = false := by decide)
    (hs : swapsWith (.Call (.Attribute (.Name z pos1) "clear" pos2) [] [] cpos) none pos.line X.env = pure false := by rfl) :
    PS X (.Expr (.Call (.Attribute (.Name z pos1) "clear" pos2) [] [] cpos) pos) (tN F L (ow F.K F.mg p xs :: O) (.ok ()) (fun _ => L) (fun _ => ow F.K F.mg p ([] : List α) :: O)) := ps_imp (ps_expr (h (pe_var hN hv hd hcd)) hs) fun D σ H ⟨g, q⟩ => by
  obtain ⟨w, h4, h5⟩ := g.slot hL
  have h5' : w = V.ref p := h5
  subst h5'
  obtain ⟨vs, h6, h7⟩ := g.head
  refine ⟨_, h4, .inl ⟨rfl, _, .of h6⟩, p, vs, rfl, rfl, h6, ?_⟩
  exact q σ _ (g_upd g (xs' := ([] : List α)) (vs' := []) .nil).1
end
/-! ### methods in defs that raise -/
section
variable {X : Cx} {F : Fr} {L : List (Option Asr)} {O : List Own} {α β τ ρ : Type} [Obj α] [Rep β] [RepA τ] [Rep ρ]
variable {k : Nat} {ps : List Str} {x m : Str} {p1 pos apos : Pos} {e o : Expr} {es : List Expr} {b : Bool}
theorem quiet_core {mir : τ → Res ρ} {m : Res τ} {e : Expr} (hK : X.K = F.K) (hM : X.mg = F.mg) (h : PE X e (tCall (spP X.K X.mg mir) [] E0 (tA b F L O m))) : PE X e (tP b F L O (m.bind fun a => (mir a).quiet)) := pe_imp h fun σ H Q ⟨g, q⟩ => by
  rw [out_bind] at q
  refine ⟨g, q.mono (fun a qa vs H1 g1 s1 r1 => ?_) fun _ z => z⟩
  show spP X.K X.mg mir (vs ++ []) H1 Q E0
  rw [List.append_nil]
  refine ⟨a, avoid b F O, g1.go.avoided, by rw [hK, hM, ← rgn_avoid]; exact r1, ?_⟩
  rw [hK, hM]
  cases e : mir a with
  | ok r =>
    rw [e] at qa
    exact fun v H' s2 r2 => qa v H' (g1.grow s2) (s1.trans s2) (by rw [rgn_avoid]; exact r2)
  | err c fs =>
    rw [e] at qa
    exact qa.elim
  | bad =>
    rw [e] at qa
    exact qa.elim
theorem nq_meth {mir : Ar α τ → Res ρ} {mo : Res α} {ma : Res τ} {pl : Sem Bool} (D : MethAt X.prog X.w X.K X.mg X.base k (Obj.cls α) m ps (spP X.K X.mg mir)) (hr : Room k X.A) (ho : PE X o (tP b F L O mo)) (ha : PA X (e :: es) (tA b F L O ma)) (hf : ∀ a : α, (Obj.fa F.K F.mg a).lookup m = none := by intro _; rfl) (hK : X.K = F.K := by rfl) (hM : X.mg = F.mg := by rfl)
    (hs : starEach (e :: es) X.env = (false, eval e X.env) :: starEach es X.env := by rfl) (hs2 : (backTo pos (starEach es X.env)).any (·.1) = false := by rfl)
    (ht : eval (.Call (.Attribute o m apos) (e :: es) [] pos) X.env = (do
      let ov ← eval o X.env
      standAt apos.atName
      let (f, first) ← holding [ov] (getMethod ov m pl)
      callWith pos f first (backTo pos (starEach (e :: es) X.env)) (backToKw pos (keywordEach [] X.env))) := by rfl) : PE X (.Call (.Attribute o m apos) (e :: es) [] pos) (tP b F L O ((mo.bind fun x => ma.bind fun r => .ok (Ar.mk x r)).bind fun a => (mir a).quiet)) := by
  obtain ⟨C, f, fd, h1, h2, h3, h4, h5⟩ := D.ex
  exact quiet_core hK hM (meth_args (ta := tC .non) (t := tNil) h1 hM hf (pe_meth (pl := pl) ho h2 h3 h4 hr h5 .nil pass0 ha hs hs2 ht))
theorem nq_meth0 {mir : Ar α Unit → Res ρ} {mo : Res α} {pl : Sem Bool} (D : MethAt X.prog X.w X.K X.mg X.base k (Obj.cls α) m ps (spP X.K X.mg mir)) (hr : Room k X.A) (ho : PE X o (tP b F L O mo)) (hf : ∀ a : α, (Obj.fa F.K F.mg a).lookup m = none := by intro _; rfl) (hK : X.K = F.K := by rfl) (hM : X.mg = F.mg := by rfl)
    (ht : eval (.Call (.Attribute o m apos) [] [] pos) X.env = (do
      let ov ← eval o X.env
      standAt apos.atName
      let (f, first) ← holding [ov] (getMethod ov m pl)
      callWith pos f first (backTo pos (starEach [] X.env)) (backToKw pos (keywordEach [] X.env))) := by rfl) : PE X (.Call (.Attribute o m apos) [] [] pos) (tP b F L O ((mo.bind fun x => Res.ok (Ar.mk x ())).bind fun a => (mir a).quiet)) := by
  obtain ⟨C, f, fd, h1, h2, h3, h4, h5⟩ := D.ex
  exact quiet_core hK hM (meth_args (ma := .ok ()) (ta := tC .non) (t := tNil) h1 hM hf (meth_nil (pe_meth0 (pl := pl) ho h2 h3 h4 hr h5 .nil pass0 ht) rfl))
/-- o.m(e, ..) of a method that may raise -/
theorem pe_methX {CX : CXT} {C f : Addr} {fd : FuncData} {sp : Sp} {E : L2.St → XK} {ta : TE} {t : TA} {pl : Sem Bool} (he : PE X o ta) (c : Cls X.K C) (hm : Meth X.K C m f) (G : FnOk X.prog X.w X.K X.mg X.base CX k f fd ps sp) (hr : Room k X.A) (hb : Binds X.K fd ps []) (hx : ∀ σ, PassesAt CX X σ (E σ)) (ha : PA X (e :: es) t)
    (hst : starEach (e :: es) X.env = (false, eval e X.env) :: starEach es X.env := by rfl) (hpl : (backTo pos (starEach es X.env)).any (·.1) = false := by rfl)
    (ht : eval (.Call (.Attribute o m apos) (e :: es) [] pos) X.env = (do
      let ov ← eval o X.env
      standAt apos.atName
      let (f, first) ← holding [ov] (getMethod ov m pl)
      callWith pos f first (backTo pos (starEach (e :: es) X.env)) (backToKw pos (keywordEach [] X.env))) := by rfl) :
    PE X (.Call (.Attribute o m apos) (e :: es) [] pos) (fun σ H Q => ta σ H fun x H1 => ∃ a dx fs, x = .ref a ∧ H1 a = some (.ins C dx fs) ∧ fs.lookup m = none ∧ t σ H1 fun vs H2 => sp (x :: vs) H2 Q (E σ)) := by
  refine ⟨fun pins s σ H Q I h => ?_⟩
  refine PySem.W.methodCall_KW (pl := pl) (thn (he.run pins s σ H _ I h) fun u s1 ⟨x, H1, I1, rx, a, dx, fs, ex, ea, l, q⟩ => ?_) ht
  subst ex
  obtain rfl : u = Value.ref a := rx
  refine getmeth_ok I1 ea c hm l ?_
  refine PySem.W.callWith_K (first := [.ref a]) (h₀ := X.base) I.ok.mod.kin hm.kp (thn (ha.run pos pins s1 σ H1 _ I1 q) fun us s2 ⟨vs, H2, I2, r, q2⟩ => ⟨I2.kIn, ?_⟩) hst hpl
  exact run_fnS (us := .ref a :: us) (vs := .ref a :: vs) G hr hb (hx σ) I2 (.cons rfl r) q2
/-- a method that may raise -/
structure MethX (P : Program) (w : World) (K : Fg) (mg : MG) (base : Heap) (k : Nat) (x m : Str) (ps : List Str) (sp : Sp) : Prop where
  ex : ∃ (C f : Addr) (fd : FuncData), mg x = some (.ref C) ∧ Cls K C ∧ Meth K C m f ∧ FnOk P w K mg base (L2N.CX P w) k f fd ps sp ∧ Binds K fd ps []
/-- the owned object at p becomes what a call made of it -/
theorem g_back {ι : Type} [OwR ι] {p : Addr} {xs ys : ι} {σ : L2.St} {H1 H' : Hp} {ob : HO} (g1 : G F L (ow F.K F.mg p xs :: O) σ H1) (kb : KeepBut p H1 H') (hp' : H' p = some ob) (rr : OwR.P F.K F.mg (less H' (p :: (addrs O ++ F.A))) ob ys) : G F L (ow F.K F.mg p ys :: O) σ H' := by
  have hpn : p ∉ addrs O ++ F.A := fun z => by
    rcases List.mem_append.mp z with z | z
    · exact (List.nodup_cons.mp (show (p :: addrs O).Nodup from g1.go.nd)).1 z
    · exact g1.go.apart _ List.mem_cons_self z
  have er : Same (rg F (ow F.K F.mg p xs :: O) H1) (rg F (ow F.K F.mg p ys :: O) H') := kb_rg kb
  refine ⟨L2.Paired.mapP g1.slots fun _ _ z => z.mono er, ?_⟩
  exact {
    objs := fun w hw => by
      rcases List.mem_cons.mp hw with rfl | hw
      · exact ⟨_, hp', rr⟩
      · obtain ⟨o, ho, q⟩ := g1.go.objs w (List.mem_cons_of_mem _ hw)
        exact ⟨o, kb _ _ ho (fun y => hpn (by rw [← y]; exact List.mem_append_left _ (List.mem_map.mpr ⟨w, hw, rfl⟩))), w.mono er q⟩
    nd := g1.go.nd
    own := fun w hw => by
      rcases List.mem_cons.mp hw with rfl | hw
      · exact g1.go.own (ow F.K F.mg p xs) List.mem_cons_self
      · exact g1.go.own w (List.mem_cons_of_mem _ hw)
    keep := fun a o h hw => by
      refine kb _ _ (g1.go.keep a o h hw) fun y => ?_
      subst y
      rcases g1.go.own _ List.mem_cons_self with z | z
      · exact hw z
      · have z' : F.H0 a = none := z
        rw [z'] at h; cases h
    live := fun a h => by
      by_cases hne : a = p
      · subst hne; rw [hp']; simp
      · cases z : H1 a with
        | none => exact (g1.go.live a h z).elim
        | some o => rw [kb _ _ z hne]; simp
    hid := g1.go.hid
    apart := fun w hw => by
      rcases List.mem_cons.mp hw with rfl | hw
      · exact g1.go.apart (ow F.K F.mg p xs) List.mem_cons_self
      · exact g1.go.apart w (List.mem_cons_of_mem _ hw)
    facts := fun z hz => z.mono er (g1.go.facts z hz) }
/-- y.m(e, ..), y an owned instance, m changes it or raises while it stands as it was -/
theorem e_methX {p : Addr} {s : α} {y : Str} {p2 : Pos} {mir : α → τ → Res (ρ × α)} {ma : Res τ} {pl : Sem Bool} (i : Nat) (D : MethX X.prog X.w X.K X.mg X.base k (Obj.cls α) m ps (spIX X.K X.mg mir)) (hr : Room k X.A) (tk : TkX X F L (ow F.K F.mg p s :: O)) (hL : L[i]? = some (rf p)) (hO : List.Sublist F.O0 (ow F.K F.mg p s :: O)) (ha : PA X (e :: es) (tA true F L (ow F.K F.mg p s :: O) ma)) (hf : ∀ a : α, (Obj.fa F.K F.mg a).lookup m = none := by intro _; rfl) (hK : X.K = F.K := by rfl) (hM : X.mg = F.mg := by rfl)
    (hN : X.N[i]? = some y := by rfl) (hv : Vis X.env.scope y := by first | exact Or.inl rfl | exact Or.inr (Or.inl rfl) | exact Or.inr (Or.inr rfl)) (hd2 : (y == ("__debug__" : Str)) = false := by decide) (hcd : (y == ("__classdict__" : Str)) = false := by decide)
    (hs : starEach (e :: es) X.env = (false, eval e X.env) :: starEach es X.env := by rfl) (hs2 : (backTo pos (starEach es X.env)).any (·.1) = false := by rfl)
    (ht : eval (.Call (.Attribute (.Name y p2) m apos) (e :: es) [] pos) X.env = (do
      let ov ← eval (.Name y p2) X.env
      standAt apos.atName
      let (f, first) ← holding [ov] (getMethod ov m pl)
      callWith pos f first (backTo pos (starEach (e :: es) X.env)) (backToKw pos (keywordEach [] X.env))) := by rfl) :
    PE X (.Call (.Attribute (.Name y p2) m apos) (e :: es) [] pos) (tE true F L p s O (ma.bind fun a => mir s a)) := by
  obtain ⟨C, f, fd, h1, h2, h3, h4, h5⟩ := D.ex
  obtain ⟨W, tk, hW⟩ := tk
  refine pe_imp (pe_methX (E := WE W) (pl := pl) (pe_var hN hv hd2 hcd) h2 h3 h4 hr h5 (fun σ => L2N.passAt tk σ) ha hs hs2 ht) fun σ H Q ⟨g, q⟩ => ?_
  obtain ⟨w, h6, h7⟩ := g.slot hL
  have h7' : w = V.ref p := h7
  subst h7'
  obtain ⟨C', dx, vs, h8, h9, h10⟩ := obj_at g List.mem_cons_self
  have eC : C' = C := by
    rw [← hM, h1] at h9
    cases h9
    rfl
  subst eC
  rw [out_bind] at q
  refine ⟨_, h6, p, dx, vs, rfl, h8, h10.miss (hf s), g, q.mono (fun a qa us H1 g1 s1 r1 => ?_) fun H' ⟨a, _⟩ => a.go.sub hO⟩
  obtain ⟨ob, h11, h12⟩ := g1.go.objs _ List.mem_cons_self
  rw [hK, hM]
  refine ⟨p, a, addrs O ++ F.A, s, us, ob, fun c hc z => g1.go.out z (List.mem_cons_of_mem _ hc), fun z => ?_, rfl, r1, h11, h12, ?_⟩
  · rcases List.mem_append.mp z with z | z
    · exact (List.nodup_cons.mp (show (p :: addrs O).Nodup from g1.go.nd)).1 z
    · exact g1.go.apart _ List.mem_cons_self z
  · cases e1 : mir s a with
    | ok r =>
      rw [e1] at qa
      exact fun v H' ob' kb h13 h14 h15 => qa v H' (g_back g1 kb h13 h14) ((KeepBut.of s1).trans kb) h15
    | err c fs =>
      rw [e1] at qa
      intro D d H' h13 h14 h15 h16
      obtain ⟨ob', h17, h18⟩ := h16
      have kb : KeepBut p H1 H' := fun b o hb hne => h15.keep b o hb fun z => hne (List.mem_singleton.mp z)
      have gb := g_back g1 kb h17 h18
      exact hW _ _ _ _ (qa D d H' h13 (h14.older g1.go.live) (gb.go.sub hO)) gb
    | bad =>
      rw [e1] at qa
      exact qa.elim
end
end NF

set_option Elab.async false
set_option linter.all false
set_option maxRecDepth 100000
set_option maxHeartbeats 1000000
/-! Nf25: loops that break; a try for a class above those that are raised; == of data beside what changes an object; an instance made of an owned list. -/
namespace NF
open PySem PySem.Spec PyProof.Rows L2
open Data (toD)
/-! ### break -/
inductive Brk (β δ : Type) where
  | go (b : β)
  | stop (b : β)
  | ret (d : δ)
def tK {β δ : Type} (F : Fr) (L : List (Option Asr)) (O : List Own) (m : Res (Brk β δ)) (L' : β → List (Option Asr)) (O' : β → List Own) (Ret : δ → V → Hp → Prop) : TS := fun D σ H =>
  G F L O σ H ∧ Out F m (fun r => match r with
    | .go b => ∀ σ' H', G F (L' b) (O' b) σ' H' → D.nx σ' H'
    | .stop b => ∀ σ' H', G F (L' b) (O' b) σ' H' → D.bk σ' H'
    | .ret d => ∀ v H', Ret d v H' → D.rt v H') (XPS F)
def foldK {α β δ : Type} (f : α → β → Res (Brk β δ)) : List α → β → Res (Sum β δ)
  | [], b => .ok (.inl b)
  | a :: as, b => (f a b).bind fun r => match r with
    | .go b => foldK f as b
    | .stop b => .ok (.inl b)
    | .ret d => .ok (.inr d)
section
variable {X : Cx} {F : Fr} {L : List (Option Asr)} {O : List Own} {p : Addr} {α β γ ι B D' : Type} [Rep α] [Rep β] [Rep γ] [OwR ι] {Ret : D' → V → Hp → Prop} {L' : B → List (Option Asr)} {O' : B → List Own}
variable {st : Stmt} {rest : List Stmt} {B1 : Type} {L1 : B1 → List (Option Asr)} {O1 : B1 → List Own} {pos : Pos}
theorem k_N {m1 : Res B1} {m2 : B1 → Res (Brk B D')} (h1 : PS X st (tN F L O m1 L1 O1)) (h2 : ∀ b, PSs X rest (tK F (L1 b) (O1 b) (m2 b) L' O' Ret)) : PSs X (st :: rest) (tK F L O (m1.bind m2) L' O' Ret) := pss_imp (pss_cons h1 (pss_ex h2)) fun D σ H ⟨g, q⟩ => by
  rw [out_bind] at q
  exact ⟨g, q.mono (fun b k σ' H' g' => ⟨b, g', k⟩) fun _ z => z⟩
theorem k_Np {L1 : Addr → B1 → List (Option Asr)} {O1 : Addr → B1 → List Own} {m1 : Res B1} {m2 : B1 → Res (Brk B D')} (h1 : PS X st (tNp F L O m1 L1 O1)) (h2 : ∀ b p, PSs X rest (tK F (L1 p b) (O1 p b) (m2 b) L' O' Ret)) : PSs X (st :: rest) (tK F L O (m1.bind m2) L' O' Ret) := pss_imp (pss_cons h1 (pss_ex fun b => pss_ex (h2 b))) fun D σ H ⟨g, q⟩ => by
  rw [out_bind] at q
  exact ⟨g, q.mono (fun b k p σ' H' g' => ⟨b, p, g', k⟩) fun _ z => z⟩
theorem k_M {m1 : Res (Sum B1 D')} {m2 : B1 → Res (Brk B D')} (h1 : PS X st (tM F L O m1 L1 O1 Ret)) (h2 : ∀ b, PSs X rest (tK F (L1 b) (O1 b) (m2 b) L' O' Ret)) : PSs X (st :: rest) (tK F L O (m1.bind fun r => match r with
    | .inl b => m2 b
    | .inr d => .ok (.ret d)) L' O' Ret) := pss_imp (pss_cons h1 (pss_ex h2)) fun D σ H ⟨g, q⟩ => by
  rw [out_bind] at q
  refine ⟨g, q.mono (fun r k => ?_) fun _ z => z⟩
  cases r with
  | inl b => exact fun σ' H' g' => ⟨b, g', k⟩
  | inr d => exact k
theorem k_end (b : B) (h : wk L (L' b)) (ho : List.Sublist (O' b) O) : PSs X [] (tK F L O (.ok (.go b)) L' O' Ret) := pss_imp pss_nil fun D σ H ⟨g, q⟩ => q σ H (g.to h ho)
theorem k_brk (b : B) (h : wk L (L' b)) (ho : List.Sublist (O' b) O) : PSs X [.Break pos] (tK F L O (.ok (.stop b)) L' O' Ret) := pss_one (ps_imp ps_break fun D σ H ⟨g, q⟩ => q σ H (g.to h ho))
theorem k_T {m : Res D'} {st : List Stmt} (h : PSs X st (tT F L O m Ret)) : PSs X st (tK F L O (m.bind fun d => .ok (.ret d)) L' O' Ret) := pss_imp h fun D σ H ⟨g, q⟩ => by
  rw [out_bind] at q
  exact ⟨g, q⟩
theorem k_perm {st : List Stmt} {m : Res (Brk B D')} {O2 : List Own} (h : O.Perm O2) (hs : PSs X st (tK F L O2 m L' O' Ret)) : PSs X st (tK F L O m L' O' Ret) := pss_imp hs fun D σ H ⟨g, q⟩ => ⟨g.perm h, q⟩
theorem k_ifB {c : Expr} {mc : Res Bool} {m2 : Res (Brk B D')} {bpos : Pos} (b : B) (hc : PT X c (tB' F L O mc)) (h : wk L (L' b)) (ho : List.Sublist (O' b) O) (hr : PSs X rest (tK F L O m2 L' O' Ret)) (hO : List.Sublist F.O0 O) : PSs X (.If c [.Break bpos] [] pos :: rest) (tK F L O (mc.bind fun c => if c then .ok (.stop b) else m2) L' O' Ret) := pss_imp (pss_cons (ps_if hc (pss_one ps_break) pss_nil) hr) fun D σ H ⟨g, q⟩ => by
  rw [out_bind] at q
  refine ⟨g, q.mono (fun c k H1 g1 s1 => ?_) fun H' ⟨a, _⟩ => a.go.sub hO⟩
  cases c with
  | true => exact k σ H1 (g1.to h ho)
  | false => exact ⟨g1, k⟩
theorem k_ifT {c : Expr} {mc : Res Bool} {body : List Stmt} {m1 : Res D'} {m2 : Res (Brk B D')} (hc : PT X c (tB' F L O mc)) (hb : PSs X body (tT F L O m1 Ret)) (hr : PSs X rest (tK F L O m2 L' O' Ret)) (hO : List.Sublist F.O0 O) : PSs X (.If c body [] pos :: rest) (tK F L O (mc.bind fun c => if c then (m1.bind fun d => .ok (.ret d)) else m2) L' O' Ret) := pss_imp (pss_cons (ps_if hc hb pss_nil) hr) fun D σ H ⟨g, q⟩ => by
  rw [out_bind] at q
  refine ⟨g, q.mono (fun c k H1 g1 s1 => ?_) fun H' ⟨a, _⟩ => a.go.sub hO⟩
  cases c with
  | true =>
    simp only [if_true] at k
    rw [out_bind] at k
    exact ⟨g1, k⟩
  | false => exact ⟨g1, k⟩
theorem ke_ifT {xs : ι} {c : Expr} {mc : Res (Bool × ι)} {body : List Stmt} {m1 : ι → Res D'} {m2 : ι → Res (Brk B D')} (hc : PT X c (tEB F L p xs O mc)) (hb : ∀ xs', PSs X body (tT F L (ow F.K F.mg p xs' :: O) (m1 xs') Ret)) (hr : ∀ xs', PSs X rest (tK F L (ow F.K F.mg p xs' :: O) (m2 xs') L' O' Ret)) :
    PSs X (.If c body [] pos :: rest) (tK F L (ow F.K F.mg p xs :: O) (mc.bind fun u => if u.1 then ((m1 u.2).bind fun d => .ok (.ret d)) else m2 u.2) L' O' Ret) := pss_imp (pss_cons (ps_if hc (pss_ex hb) pss_nil) (pss_ex hr)) fun D σ H ⟨g, q⟩ => by
  rw [out_bind] at q
  refine ⟨g, q.mono (fun u k H1 g1 s1 => ?_) fun _ z => z⟩
  cases hu : u.1 with
  | true =>
    rw [hu] at k
    simp only [if_true] at k
    rw [out_bind] at k
    exact ⟨u.2, g1, k⟩
  | false => rw [hu] at k; exact ⟨u.2, g1, k⟩
theorem s_forK {tg iter : Expr} {g : TG} {vs : List Nat} {bd : α → List (Option Asr) → List (Option Asr)} {m : Res (List α)} {f : α → B → Res (Brk B D')} {body : List Stmt} {b0 : B} (sp : Sp3 L' O' b0)
    (hp : PassesOwn (model X.prog X.w) X.A X.env X.xe) (hc : X.calm = true) (hi : PI X tg iter (tI true F L O m)) (ht : Tg X F.K F.mg tg g vs bd) (hO : List.Sublist F.O0 O) (hw : wk L (L' b0)) (ho : List.Sublist (O' b0) O)
    (hb : ∀ z a b, PSs X body (tK (F.add z) (bd a (L' b)) (O' b) (f a b) L' O' Ret)) (hs : ∀ x, foldedSetIterable iter X.env x = pure x := by intro _; rfl) : PS X (.For tg iter body [] pos) (tM F L O (m.bind fun as => foldK f as b0) L' O' Ret) := by
  have hb' : PSs X body (fun D σ H => ∃ z a b, tK (F.add z) (bd a (L' b)) (O' b) (f a b) L' O' Ret D σ H) := pss_ex fun z => pss_ex fun a => pss_ex fun b => hb z a b
  have hg : PG X tg g := ht.pg
  refine ps_imp (ps_for hp hc hi hg hb' hs) fun D σ H ⟨g0, q⟩ => ?_
  rw [out_bind] at q
  refine ⟨g0, q.mono (fun as k J H1 S g1 s1 hS => ?_) fun H' ⟨a, _⟩ => a.go.sub hO⟩
  have zf : ∃ z : Fact, z = ⟨S.src, fun e h => S.mono e h⟩ := ⟨_, rfl⟩
  obtain ⟨z, hz⟩ := zf
  refine for_it S.walk (g := g) (tb := fun D σ H => ∃ z a b, tK (F.add z) (bd a (L' b)) (O' b) (f a b) L' O' Ret D σ H) (D := D) (σ := σ) (H := H1) (fun i σ H => ∃ b, G (F.add z) (L' b) (O' b) σ H ∧ Out F (foldK f (as.drop i) b) (fun r => match r with
    | .inl b => ∀ σ' H', G F (L' b) (O' b) σ' H' → D.nx σ' H'
    | .inr d => ∀ v H', Ret d v H' → D.rt v H') (XPS F)) ⟨b0, ?_, k⟩ ?_ ?_ ?_
  · have g2 := g1.to hw ho
    refine ⟨g2.slots, g2.go.add z ?_⟩
    subst hz
    exact S.mono (rg_sub ho) hS
  · rintro i σ H _ ⟨b, g2, _⟩
    have h := g2.go.fact
    subst hz
    exact S.mono less_same h
  · rintro i x σ H H' hi ⟨b, g2, q2⟩ y
    have ha : as[i]? = some as[i] := List.getElem?_eq_getElem hi
    rw [List.drop_eq_getElem_cons hi] at q2
    rw [show foldK f (as[i] :: List.drop (i + 1) as) b = (f as[i] b).bind fun r => match r with
      | .go b => foldK f (List.drop (i + 1) as) b
      | .stop b => .ok (.inl b)
      | .ret d => .ok (.inr d) from rfl, out_bind] at q2
    obtain ⟨s2, yy⟩ := S.ylds i H x H' y
    have hsrc : S.src (rg F (O' b) H) := by
      have h := g2.go.fact
      subst hz
      exact h
    have r2 : rp (F.add z) (rg F (O' b) H') x as[i] := yy _ (fun a ha z => g2.go.out z ha) hsrc _ ha
    have g3 := g2.grow s2
    refine ht.ok x as[i] σ H' (rg F (O' b) H') (L' b) _ less_same r2 g3.slots fun σ2 _ hs2 => ?_
    refine ⟨z, as[i], b, ⟨hs2, g3.go⟩, out_add.mpr (q2.mono (fun r kb => ?_) fun H'' (x : GO (F.add z) F.O0 H'') => x.unadd)⟩
    cases r with
    | go b' => exact fun σ' H'' g' => ⟨b', g', kb⟩
    | stop b' => exact fun σ' H'' g' => kb σ' H'' ⟨g'.slots, g'.go.unadd⟩
    | ret d => exact fun v H'' hr => kb v H'' hr
  · rintro σ H ⟨b, g2, q2⟩
    rw [List.drop_length] at q2
    exact q2 σ H ⟨g2.slots, g2.go.unadd⟩
/-! ### == and != of data, the left side changing an object -/
theorem ne2ts {xs : ι} {x y e : Expr} {r : R2} {ma : Res (α × ι)} {mb : ι → Res (β × ι)} {mc : α → β → Res Bool} (c : ∀ {ta tb : TE}, PE X x ta → PE X y tb → PT X e (tTest (tOp r ta tb)))
    (hx : PE X x (tE true F L p xs O ma)) (hy : ∀ xs', PE X y (tE true F L p xs' O (mb xs'))) (hr : ∀ xs' : ι, RR F L (ow F.K F.mg p xs' :: O) true true true r mc) (hO : ∀ xs' : ι, List.Sublist F.O0 (ow F.K F.mg p xs' :: O)) :
    PT X e (tEB F L p xs O (ma.bind fun u => (mb u.2).bind fun w => (mc u.1 w.1).bind fun z => .ok (z, w.2))) := pt_imp (c hx (pe_ex hy)) fun σ H Q ⟨g, q⟩ => by
  rw [out_bind] at q
  refine ⟨g, q.mono (fun u qx v1 H1 g1 s1 r1 => ?_) fun _ z => z⟩
  rw [out_bind] at qx
  refine ⟨u.2, g1, qx.mono (fun w qy v2 H2 g2 s2 r2 => ?_) fun _ z => z⟩
  rw [out_bind] at qy
  exact hr w.2 u.1 w.1 v1 v2 H2 σ _ g2 (Rep.mono (kb_rg s2) r1) r2 (qy.mono (fun z kz v H' g' s' r' => ⟨z, r', kz H' g' ((s1.trans s2).trans (.of s'))⟩) fun H' ⟨a, b⟩ => a.go.sub (hO _))
theorem et_eqD [Data α] [Data β] {xs : ι} {x y : Expr} {ma : Res (α × ι)} {mb : ι → Res (β × ι)} (hx : PE X x (tE true F L p xs O ma)) (hy : ∀ xs', PE X y (tE true F L p xs' O (mb xs'))) (hO : ∀ xs' : ι, List.Sublist F.O0 (ow F.K F.mg p xs' :: O)) (hu : X.A.units + 64 < cLine) (hK : X.K = F.K := by rfl) :
    PT X (.Compare x [.Eq] [y] pos) (tEB F L p xs O (ma.bind fun u => (mb u.2).bind fun w => (need (shp u.1 = true ∧ shp w.1 = true) (.ok (eqD u.1 w.1))).bind fun z => .ok (z, w.2))) := ne2ts (fun h1 h2 => pt_cmpR (op_eqD hu) h1 h2 (nomark _)) hx hy (fun _ => rr_eqD hK) hO
theorem et_neD [Data α] [Data β] {xs : ι} {x y : Expr} {ma : Res (α × ι)} {mb : ι → Res (β × ι)} (hx : PE X x (tE true F L p xs O ma)) (hy : ∀ xs', PE X y (tE true F L p xs' O (mb xs'))) (hO : ∀ xs' : ι, List.Sublist F.O0 (ow F.K F.mg p xs' :: O)) (hu : X.A.units + 64 < cLine) (hK : X.K = F.K := by rfl) :
    PT X (.Compare x [.NotEq] [y] pos) (tEB F L p xs O (ma.bind fun u => (mb u.2).bind fun w => (need (shp u.1 = true ∧ shp w.1 = true) (.ok (!eqD u.1 w.1))).bind fun z => .ok (z, w.2))) := ne2ts (mc := fun (u : α) (w : β) => need (shp u = true ∧ shp w = true) (.ok (!eqD u w))) (fun h1 h2 => pt_cmpR (op_neD hu) h1 h2 (nomark _)) hx hy (fun _ x y vx vy H σ Q g rx ry q => by
    rw [out_need] at q
    rw [hK]
    exact ⟨_, _, Data.dp (Rep.mono rgn_sub rx), Data.dp (Rep.mono rgn_sub ry), q.1.1, q.1.2, kp_flat g q.2⟩) hO
end
end NF

set_option Elab.async false
set_option linter.all false
set_option maxRecDepth 100000
set_option maxHeartbeats 1000000
/-! Nf26: a try for a class above the two that are raised; an instance made of an owned list. -/
namespace NF
open PySem PySem.Spec PyProof.Rows L2
open Data (toD)
def tryR2 {α : Type} (x1 x2 : Str) (m : Res α) (h1 h2 : List (Str × PyData) → Res α) : Res α := match m with
  | .ok a => .ok a
  | .err c fs => if c = x1 then need ((fs.all fun p => flatD p.2) = true) (h1 fs) else if c = x2 then need ((fs.all fun p => flatD p.2) = true) (h2 fs) else .bad
  | .bad => .bad
theorem pss_or {X : Cx} {st : List Stmt} {t1 t2 : TS} (h1 : PSs X st t1) (h2 : PSs X st t2) : PSs X st (fun D σ H => t1 D σ H ∨ t2 D σ H) := ⟨fun pins s σ H D I q => q.elim (fun q => h1.run pins s σ H D I q) fun q => h2.run pins s σ H D I q⟩
section
variable {X : Cx} {F : Fr} {L Lh : List (Option Asr)} {O : List Own} {B D' : Type} {Ret : D' → V → Hp → Prop} {L' : B → List (Option Asr)} {O' : B → List Own}
variable {x x1 x2 n : Str} {C C1 C2 : Addr} {body suite : List Stmt} {b₀ : Stmt} {np pos pos' : Pos}
theorem s_try2 {W0 : WX} {mb : Res (Sum B D')} {mh1 mh2 : List (Str × PyData) → Res (Sum B D')} (i : Nat) (hm : X.mg x = some (.ref C)) (hm1 : X.mg x1 = some (.ref C1)) (hm2 : X.mg x2 = some (.ref C2)) (hex1 : PySem.W.exmOne X.K (.ref C1) (.ref C) = some true) (hex2 : PySem.W.exmOne X.K (.ref C2) (.ref C) = some true) (tk : L2N.Takes X W0) (hN : X.N.Nodup) (hno : NoXd O) (hO : List.Sublist F.O0 O)
    (hLi : ∀ b, (L' b).set i none = L' b)
    (hb : ∀ (E' : XK) (pn : List (Addr × PySem.Obj)) (xe : Value → Shared → Prop), TkX (X.tr pn xe) (Ft F E' O) Lh O → PSs (X.tr pn xe) body (tM (Ft F E' O) L O mb L' O' Ret))
    (hh1 : ∀ (a : Addr) (oe : PySem.Obj) (d : Option Addr) (pn : List (Addr × PySem.Obj)) (fs : List (Str × PyData)), L2N.Zn (.ref C1) d oe → (∃ vs, oe.data = .fields vs) → PSs (X.suite a ((a, oe) :: pn)) (b₀ :: suite) (tM (F.add (xdF d fs)) (Lh.set i (rf a)) O (mh1 fs) L' O' Ret))
    (hh2 : ∀ (a : Addr) (oe : PySem.Obj) (d : Option Addr) (pn : List (Addr × PySem.Obj)) (fs : List (Str × PyData)), L2N.Zn (.ref C2) d oe → (∃ vs, oe.data = .fields vs) → PSs (X.suite a ((a, oe) :: pn)) (b₀ :: suite) (tM (F.add (xdF d fs)) (Lh.set i (rf a)) O (mh2 fs) L' O' Ret))
    (hi : X.N[i]? = some n := by rfl) (hln : X.env.kindOf n = some .local := by rfl) (hg : Gl X x := by rfl) (hdb : (x == ("__debug__" : Str)) = false := by decide) (hs : X.stack = X.env :: X.outer := by rfl) (hf : X.env.frame = some X.env.locals := by rfl) (hK : X.K = F.K := by rfl) (hM : X.mg = F.mg := by rfl) :
    PS X (.Try body [.ExceptHandler (some (.Name x np)) (some n) (b₀ :: suite) pos'] [] [] pos) (tM F L O (tryR2 x1 x2 mb mh1 mh2) L' O' Ret) := by
  have hc : Names X x (.ref C) := ⟨hg, hdb, .inl hm⟩
  refine ps_imp (L2N.ps_try_as (tb := fun W D σ H => tM (Ft F (fun cls d H' => ∀ σ', G F Lh O σ' H' → W cls d σ' H') O) L O mb L' O' Ret D σ H)
    (ts := fun a cls d D σ H => (cls = .ref C1 ∧ ∃ fs, tM (F.add (xdF d fs)) (Lh.set i (rf a)) O (mh1 fs) L' O' Ret D σ H) ∨ (cls = .ref C2 ∧ ∃ fs, tM (F.add (xdF d fs)) (Lh.set i (rf a)) O (mh2 fs) L' O' Ret D σ H)) (i := i) hs hf hN hi hln hc tk
    (fun W pn xe tkW _ => hb _ pn xe ⟨W, tkW, fun c d σ H e g => e σ (g_tf g)⟩)
    (fun a oe cls d pn hz hd => pss_or (pss_fact fun e => pss_ex fun fs => by
      subst e
      exact hh1 a oe d pn fs hz hd) (pss_fact fun e => pss_ex fun fs => by
      subst e
      exact hh2 a oe d pn fs hz hd))) fun D σ H ⟨g, q⟩ => ?_
  refine ⟨g_ft g, ?_⟩
  cases em : mb with
  | ok r =>
    rw [em] at q
    cases r with
    | inl b => exact fun σ' H' g' => q σ' H' (g_tf g')
    | inr d => exact q
  | bad =>
    rw [em] at q
    exact q
  | err c fs =>
    rw [em] at q
    unfold tryR2 at q
    -- what either class needs
    have one : ∀ (xx : Str) (CC : Addr) (mh : List (Str × PyData) → Res (Sum B D')), X.mg xx = some (.ref CC) → PySem.W.exmOne X.K (.ref CC) (.ref C) = some true → c = xx → (fs.all fun p => flatD p.2) = true →
        ∀ C' d H', F.mg c = some (.ref C') → XdAt F.K F.H0 H' d fs → ∀ σ', G F Lh O σ' H' → ∀ a, H' a = none → C' = CC ∧ G (F.add (xdF d fs)) (Lh.set i (rf a)) O (σ'.set i (some (V.ref a))) H' := by
      intro xx CC mh hmx hexx hcx hfl C' d H' h1 h2 σ' gh a na
      subst hcx
      have eC : C' = CC := by
        rw [← hM, hmx] at h1
        cases h1
        rfl
      refine ⟨eC, ⟨paired_set (x := rf a) (y := some (V.ref a)) rfl i gh.slots, gh.go.add _ ?_⟩⟩
      · cases d with
        | none => exact h2
        | some d =>
          obtain ⟨h5, vs, h6, h7⟩ := h2
          have e := xd_flat h7 hfl
          subst e
          show less H' (addrs O ++ F.A) d = _
          rw [less_out]
          · exact h6
          · intro z
            rcases List.mem_append.mp z with z | z
            · obtain ⟨w, hw, e⟩ := List.mem_map.mp z
              obtain ⟨o, h8, h9⟩ := gh.go.objs w hw
              rw [e, h6] at h8
              cases h8
              exact hno w hw _ _ h9
            · exact gh.go.hid d z h5
    intro C' d H' h1 h2 h4 σ' gh
    by_cases hcx : c = x1
    · simp only [hcx, if_true] at q
      rw [out_need] at q
      refine ⟨true, ?_, fun _ a na => ?_, fun z => by cases z⟩
      · have eC : C' = C1 := by
          have z : F.mg c = some (.ref C') := h1
          rw [← hM, hcx, hm1] at z
          cases z
          rfl
        rw [eC]; exact hex1
      · obtain ⟨e1, e2⟩ := one x1 C1 mh1 hm1 hex1 hcx q.1 C' d H' h1 h2 σ' gh a na
        refine .inl ⟨by rw [e1], fs, e2, ?_⟩
        rw [out_add]
        refine q.2.mono (fun r k => ?_) fun H'' (x : GO (F.add _) F.O0 H'') => x.unadd
        cases r with
        | inl b => exact fun σ2 H2 g2 => k _ _ ⟨by have z := paired_set (x := (none : Option Asr)) (y := (none : Option V)) (R := SlotOk (rg F (O' b) H2)) trivial i g2.slots; rwa [hLi] at z, g2.go.unadd⟩
        | inr d => exact k
    · simp only [hcx, if_false] at q
      by_cases hcx2 : c = x2
      · simp only [hcx2, if_true] at q
        rw [out_need] at q
        refine ⟨true, ?_, fun _ a na => ?_, fun z => by cases z⟩
        · have eC : C' = C2 := by
            have z : F.mg c = some (.ref C') := h1
            rw [← hM, hcx2, hm2] at z
            cases z
            rfl
          rw [eC]; exact hex2
        · obtain ⟨e1, e2⟩ := one x2 C2 mh2 hm2 hex2 hcx2 q.1 C' d H' h1 h2 σ' gh a na
          refine .inr ⟨by rw [e1], fs, e2, ?_⟩
          rw [out_add]
          refine q.2.mono (fun r k => ?_) fun H'' (x : GO (F.add _) F.O0 H'') => x.unadd
          cases r with
          | inl b => exact fun σ2 H2 g2 => k _ _ ⟨by have z := paired_set (x := (none : Option Asr)) (y := (none : Option V)) (R := SlotOk (rg F (O' b) H2)) trivial i g2.slots; rwa [hLi] at z, g2.go.unadd⟩
          | inr d => exact k
      · simp only [hcx2, if_false] at q
        exact q.elim
end
/-! ### an instance made of an owned list -/
/-- what its fields hold is no list -/
class ObjNL (α : Type) [Obj α] : Prop where
  nl : ∀ {K : Fg} {mg : MG} {H : Hp} {q : Addr} {ws : List V} {a : α} {vs : List (Str × V)}, H q = some (.lst ws) → FldsOk H (Obj.fa K mg a) vs → FldsOk (less H [q]) (Obj.fa K mg a) vs
theorem tp_nl {α : Type} [Rep α] [Flat α] {K : Fg} {mg : MG} {H : Hp} {q : Addr} {ws : List V} {v : V} {a : Tp α} (h : H q = some (.lst ws)) (r : Rep.rep K mg H v a) : Rep.rep K mg (less H [q]) v a := by
  obtain ⟨p, vs, e, h2, h3⟩ := r
  have rd : ∀ u : HO, (∀ zs, u ≠ .lst zs) → Rd H p u → Rd (less H [q]) p u := fun u hu z => by
    have ne : p ∉ [q] := fun y => by
      have y' := List.mem_singleton.mp y
      subst y'
      rcases z with z | ⟨o, z⟩
      · rw [h] at z
        cases z
        exact hu _ rfl
      · rw [h] at z
        cases z
    rcases z with z | ⟨o, z⟩
    · exact .inl (by rw [less_out ne]; exact z)
    · exact .inr ⟨o, by rw [less_out ne]; exact z⟩
  refine ⟨p, vs, e, ?_, reps_flat.mpr (reps_flat.mp h3)⟩
  rcases h2 with h2 | h2
  · exact .inl (rd _ (fun _ z => by cases z) h2)
  · exact .inr h2
theorem noxd_consO {α : Type} [Obj α] {K : Fg} {mg : MG} {p : Addr} {a : α} {O : List Own} (h : NoXd O) : NoXd (ow K mg p a :: O) := fun w hw H vs z => by
  rcases List.mem_cons.mp hw with rfl | hw
  · obtain ⟨_, _, _, e, _⟩ := z
    cases e
  · exact h w hw H vs z
section
variable {X : Cx} {F : Fr} {L : List (Option Asr)} {O : List Own} {α β τ : Type} [Obj α] [ObjNL α] [Rep β] [RepA τ]
variable {k : Nat} {ps : List Str} {x z : Str} {p1 p2 pos : Pos} {es : List Expr} {q : Addr} {hs : List β}
/-- x(z, ..), z an owned list -/
theorem fo_makeL {mir : Ar (Sq β) τ → Res α} {ma : Res τ} (i : Nat) (D : MkAt X.prog X.w X.K X.mg X.base k x ps mir) (hr : Room (k + 1) X.A) (hL : L[i]? = some (rf q)) (ha : PA X es (tA true F L (ow F.K F.mg q hs :: O) ma)) (hg : Gl X x := by rfl) (hE : F.E = E0 := by rfl) (hK : X.K = F.K := by rfl) (hM : X.mg = F.mg := by rfl) (hd : (x == ("__debug__" : Str)) = false := by decide)
    (hN : X.N[i]? = some z := by rfl) (hv : Vis X.env.scope z := by first | exact Or.inl rfl | exact Or.inr (Or.inl rfl) | exact Or.inr (Or.inr rfl)) (hd2 : (z == ("__debug__" : Str)) = false := by decide) (hcd : (z == ("__classdict__" : Str)) = false := by decide)
    (hs1 : starEach (.Name z p2 :: es) X.env = (false, eval (.Name z p2) X.env) :: starEach es X.env := by rfl) (hs2 : (backTo pos (starEach es X.env)).any (·.1) = false := by rfl) : PE X (.Call (.Name x p1) (.Name z p2 :: es) [] pos) (tFO true F L (ow F.K F.mg q hs :: O) (ma.bind fun a => mir (Ar.mk (Sq.l hs) a))) := by
  obtain ⟨C, f, fd, h1, h2, h3, h4⟩ := D.ex
  have hx : X.mg (Obj.cls α) = some (.ref C) := by rw [← D.nm]; exact h1
  refine pe_imp (pe_make h2 h3 hr hg h1 h4 .nil pass0 (pa_cons (pe_var hN hv hd2 hcd) ha hs1) hd hs1 hs2) fun σ H Q ⟨g, q0⟩ => ?_
  rw [out_bind] at q0
  obtain ⟨w, h5, h6⟩ := g.slot hL
  have e1 : w = V.ref q := h6
  subst e1
  refine ⟨_, h5, g, q0.mono (fun a qa vs H1 g1 s1 r1 => ?_) fun _ z => z⟩
  intro y dx hy hdx hne
  rw [List.append_nil]
  obtain ⟨ws, h7, h8⟩ := g1.head
  have av : ∀ c ∈ addrs O ++ F.A, H1 c ≠ none := fun c hc z => g1.go.out z (List.mem_cons_of_mem _ hc)
  have hyA : y ∉ addrs O ++ F.A := fun z => av y z hy
  have qA : q ∉ addrs O ++ F.A := fun z => by
    rcases List.mem_append.mp z with z | z
    · exact (List.nodup_cons.mp (show (q :: addrs O).Nodup from g1.go.nd)).1 z
    · exact g1.go.apart _ List.mem_cons_self z
  have up : ∀ c o, H1 c = some o → upd (upd H1 dx (.own y)) y (.ins C dx []) c = some o := fun c o hc => by
    rw [upd_ne (ne_of_none hc hy), upd_ne (ne_of_none hc hdx)]
    exact hc
  have rin : Same (rg F (ow F.K F.mg q hs :: O) H1) (less (upd (upd H1 dx (.own y)) y (.ins C dx [])) (y :: (addrs O ++ F.A))) := fun c o hc => by
    unfold rg at hc
    by_cases hcA : c ∈ addrs (ow F.K F.mg q hs :: O) ++ F.A
    · rw [less_in hcA] at hc; cases hc
    · rw [less_out hcA] at hc
      rw [less_out (fun z => by
        rcases List.mem_cons.mp z with z | z
        · rw [z, hy] at hc; cases hc
        · exact hcA (List.mem_cons_of_mem _ z))]
      exact up c o hc
  show spC X.K X.mg mir _ _ _ _
  rw [hK, hM]
  refine ⟨y, V.ref q :: vs, ⟨Sq.l hs, a⟩, addrs O ++ F.A, C, dx, fun c hc z => ?_, hyA, rfl, by rw [← hM]; exact hx, upd_same, ⟨V.ref q, vs, rfl, ?_, RepA.mono rin r1⟩, ?_⟩
  · cases e1 : H1 c with
    | none => exact av c hc e1
    | some o => rw [up c o e1] at z; cases z
  · refine ⟨q, ws, rfl, ?_, h8.mono rin⟩
    rw [less_out (fun z => by
      rcases List.mem_cons.mp z with z | z
      · rw [z, hy] at h7; cases h7
      · exact qA z)]
    exact up _ _ h7
  · cases e1 : mir ⟨Sq.l hs, a⟩ with
    | ok r =>
      rw [e1] at qa
      intro H' C' dx' vs' kb h9 h10 h11
      have s2 : Same H1 H' := fun c o hc => kb c o (up c o hc) (ne_of_none hc hy)
      have hq : less H' (y :: (addrs O ++ F.A)) q = some (.lst ws) := by
        rw [less_out (fun z => by
          rcases List.mem_cons.mp z with z | z
          · rw [z, hy] at h7; cases h7
          · exact qA z)]
        exact s2 _ _ h7
      refine ⟨rfl, qa y C' dx' vs' H' (g1.grow s2) (s1.trans s2) (s1.free hy) h9 h10 ?_⟩
      refine (ObjNL.nl hq h11).mono fun c o hc => ?_
      by_cases c1 : c ∈ [q]
      · rw [less_in c1] at hc; cases hc
      · rw [less_out c1] at hc
        by_cases c2 : c ∈ y :: (addrs O ++ F.A)
        · rw [less_in c2] at hc; cases hc
        · rw [less_out c2] at hc
          rw [less_out (fun z => c2 (by rw [List.mem_singleton.mp z]; exact List.mem_cons_self))]
          show less H' (addrs (ow F.K F.mg q hs :: O) ++ F.A) c = some o
          rw [less_out (fun z => by
            rcases List.mem_cons.mp (show c ∈ q :: (addrs O ++ F.A) from z) with z | z
            · exact c1 (List.mem_singleton.mpr z)
            · exact c2 (List.mem_cons_of_mem _ z))]
          exact hc
    | err c fs =>
      rw [e1] at qa
      intro D' d H' h9 h10 h12
      have z : F.E (.ref D') d H' := qa D' d H' h9 (h10.older fun c hc z => ?_) ⟨g1.grow fun c o hc => h12.keep c o (up c o hc) (fun z => ne_of_none hc hy (List.mem_singleton.mp z)), s1.trans fun c o hc => h12.keep c o (up c o hc) (fun z => ne_of_none hc hy (List.mem_singleton.mp z))⟩
      · rw [hE] at z; exact z
      · have := g1.go.live c hc
        cases e2 : H1 c with
        | none => exact this e2
        | some o =>
          have z' : upd (upd H1 dx (.own y)) y (.ins C dx []) c = none := z
          rw [up c o e2] at z'; cases z'
    | bad =>
      rw [e1] at qa
      exact qa.elim
end
end NF

set_option Elab.async false
set_option linter.all false
set_option maxRecDepth 100000
/-! Nm0: what the mathematics of the laws uses of the mirrors. -/
namespace NF
open PySem PySem.Spec PyProof.Rows L2
open Data (toD)
theorem need_ok {α : Type} {p : Prop} [Decidable p] {m : Res α} (h : p) : need p m = m := by unfold need; rw [if_pos h]
theorem quiet_ok {α : Type} (a : α) : (Res.ok a).quiet = Res.ok a := rfl
theorem filtR_ok {α β : Type} {f : α → Res β} {g : α → β} : ∀ {as : List α}, (∀ a ∈ as, f a = .ok (g a)) → filtR (fun _ => Res.ok true) f as = .ok (as.map g)
  | [], _ => rfl
  | a :: as, h => by
    rw [filtR_yes]
    show ((f a).bind fun y => (mapR f as).bind fun ys => .ok (y :: ys)) = _
    rw [h a List.mem_cons_self, ← filtR_yes, filtR_ok (fun b hb => h b (List.mem_cons_of_mem _ hb))]
    rfl
/-- with the marks of a comprehension -/
theorem filtQ_ok {α β : Type} {f : α → Res β} {g : α → β} {as : List α} (h : ∀ a ∈ as, f a = .ok (g a)) : filtR (fun _ => Res.quiet (Res.ok true)) (fun a => Res.quiet (f a)) as = .ok (as.map g) :=
  filtR_ok (f := fun a => Res.quiet (f a)) fun a ha => by rw [h a ha]; rfl
theorem idx_nat {α : Type} {xs : List α} {k : Nat} {a : α} (h : xs[k]? = some a) : idx xs (k : Int) = .ok a := by
  unfold idx
  rw [atI_nat (j := k) h]
theorem idx0 {α : Type} (x : α) (r : List α) : idx (x :: r) 0 = .ok x := idx_nat (k := 0) rfl
theorem ixN0 (n : Nat) (h : 0 < n) : ixN n 0 = some 0 := by
  unfold ixN
  rw [if_pos (by omega), if_pos (by omega)]
  rfl
theorem setR0 (x y : Int) (r : List Int) : setR (x :: r) 0 y = .ok (y :: r) := by
  unfold setR
  rw [ixN0 _ (by simp)]
  rfl
theorem popAt0 (x : Int) (r : List Int) : popAtR (x :: r) 0 = .ok (x, r) := by
  unfold popAtR
  rw [show seqIndex? 0 (x :: r).length = some 0 by unfold seqIndex?; simp]
  show need (Rg63 0) _ = _
  rw [need_ok (by unfold Rg63; omega)]
  rfl
theorem sl_ge : 100000 ≤ sizeLine := by rw [sizeLine_eq]; decide
theorem canLay_ints : ∀ xs : List Int, PyData.canLayAll0 (xs.map toD) = true
  | [] => rfl
  | _ :: xs => by
    show (true && PyData.canLayAll0 (xs.map toD)) = true
    rw [canLay_ints xs]
    rfl
theorem depth_ints : ∀ xs : List Int, PyData.depthAll (xs.map toD) = 0
  | [] => rfl
  | _ :: xs => by
    show max 0 (PyData.depthAll (xs.map toD)) = 0
    rw [depth_ints xs]
    rfl
theorem shp_ints (xs : List Int) : shp xs = true := by
  show (PyData.canLayAll0 (xs.map toD) && decide (PyData.depthAll (xs.map toD) + 1 ≤ 64)) = true
  rw [canLay_ints, depth_ints]
  rfl
theorem canLay_bools : ∀ xs : List Bool, PyData.canLayAll0 (xs.map toD) = true
  | [] => rfl
  | _ :: xs => by
    show (true && PyData.canLayAll0 (xs.map toD)) = true
    rw [canLay_bools xs]
    rfl
theorem depth_bools : ∀ xs : List Bool, PyData.depthAll (xs.map toD) = 0
  | [] => rfl
  | _ :: xs => by
    show max 0 (PyData.depthAll (xs.map toD)) = 0
    rw [depth_bools xs]
    rfl
theorem shp_bools (xs : List Bool) : shp xs = true := by
  show (PyData.canLayAll0 (xs.map toD) && decide (PyData.depthAll (xs.map toD) + 1 ≤ 64)) = true
  rw [canLay_bools, depth_bools]
  rfl
theorem shp_int (x : Int) : shp x = true := rfl
theorem shp_intD (x : Int) : shp (toD x) = true := rfl
theorem eqv_ints : ∀ xs ys : List Int, PyData.eqvAll (xs.map toD) (ys.map toD) = decide (xs = ys)
  | [], [] => rfl
  | [], _ :: _ => rfl
  | _ :: _, [] => rfl
  | x :: xs, y :: ys => by
    show ((x == y) && PyData.eqvAll (xs.map toD) (ys.map toD)) = _
    rw [eqv_ints xs ys]
    by_cases h : x = y
    · subst h
      simp
    · simp [h]
theorem eqD_ints (xs ys : List Int) : eqD xs ys = decide (xs = ys) := eqv_ints xs ys
theorem eqD_refl (xs : List Int) : eqD xs xs = true := by rw [eqD_ints]; simp
theorem eqv_bools : ∀ xs : List Bool, PyData.eqvAll (xs.map toD) (xs.map toD) = true
  | [] => rfl
  | x :: xs => by
    show ((toD x).eqv (toD x) && PyData.eqvAll (xs.map toD) (xs.map toD)) = _
    rw [eqv_bools xs]
    cases x <;> rfl
theorem eqD_bools (xs : List Bool) : eqD xs xs = true := eqv_bools xs
theorem eqD_intD (x y : Int) : eqD (toD x) y = decide (x = y) := by
  show (x == y) = _
  by_cases h : x = y <;> simp [h]
theorem isT_int_int (x : Int) : isT "int" (Ty.tyN (toD x)) = .ok true := by show isT "int" "int" = _; unfold isT; rw [show kitB "int" "int" = some true by decide +kernel]
theorem isT_int_bool (x : Int) : isT "bool" (Ty.tyN (toD x)) = .ok false := by show isT "bool" "int" = _; unfold isT; rw [show kitB "int" "bool" = some false by decide +kernel]
theorem isT_list (xs : List Int) : isT "list" (Ty.tyN xs) = .ok true := by show isT "list" "list" = _; unfold isT; rw [show kitB "list" "list" = some true by decide +kernel]
theorem isT_tuple (xs : Tp Bool) : isT "tuple" (Ty.tyN xs) = .ok true := by show isT "tuple" "tuple" = _; unfold isT; rw [show kitB "tuple" "tuple" = some true by decide +kernel]
theorem isT_bool (x : Bool) : isT "bool" (Ty.tyN x) = .ok true := by show isT "bool" "bool" = _; unfold isT; rw [show kitB "bool" "bool" = some true by decide +kernel]
theorem all_true : ∀ n : Nat, (List.replicate n true).all id = true
  | 0 => rfl
  | n + 1 => by rw [List.replicate_succ]; simp
/-! slices -/
theorem cut_upto {α : Type} (xs : List α) (n : Nat) : cut xs none (some (n : Int)) = xs.take n := by
  unfold cut
  rw [HT.sIx_none, HT.sIx_nat, Nat.sub_zero, List.drop_zero]
  by_cases h : n ≤ xs.length
  · rw [Nat.min_eq_left h]
  · rw [Nat.min_eq_right (by omega), List.take_of_length_le (Nat.le_refl _), List.take_of_length_le (by omega)]
theorem cut_from {α : Type} (xs : List α) (n : Nat) : cut xs (some (n : Int)) none = xs.drop n := by
  unfold cut
  rw [HT.sIx_none, HT.sIx_nat]
  by_cases h : n ≤ xs.length
  · rw [Nat.min_eq_left h, List.take_of_length_le (by rw [List.length_drop]; exact Nat.le_refl _)]
  · rw [Nat.min_eq_right (by omega), Nat.sub_self, List.take_zero, List.drop_of_length_le (by omega)]
theorem cut_sub {α : Type} {xs : List α} {lo hi : Option Int} {x : α} (h : x ∈ cut xs lo hi) : x ∈ xs := by
  unfold cut at h
  exact List.mem_of_mem_drop (List.mem_of_mem_take h)
theorem cut_len {α : Type} (xs : List α) (lo hi : Option Int) : (cut xs lo hi).length ≤ xs.length := by
  unfold cut
  rw [List.length_take, List.length_drop]
  omega
/-! bits -/
theorem bitOr_nat (x y : Nat) : Builtin.bitOr (x : Int) (y : Int) = ((x ||| y : Nat) : Int) := by
  unfold Builtin.bitOr Builtin.bitAnd Builtin.bitNot
  have h1 : decide (0 ≤ -(x : Int) - 1) = false := by simp; omega
  have h2 : decide (0 ≤ -(y : Int) - 1) = false := by simp; omega
  rw [h1, h2]
  dsimp only
  rw [show (-(-(x : Int) - 1) - 1).toNat = x by omega, show (-(-(y : Int) - 1) - 1).toNat = y by omega]
  omega
theorem bitOr_add {a b : Int} {k : Nat} (h0 : 0 ≤ a) (h1 : a < 2 ^ k) (hb : 0 ≤ b) : Builtin.bitOr a (b * 2 ^ k) = a + b * 2 ^ k := by
  obtain ⟨x, rfl⟩ := Int.eq_ofNat_of_zero_le h0
  obtain ⟨y, rfl⟩ := Int.eq_ofNat_of_zero_le hb
  have hx : x < 2 ^ k := by
    have : ((x : Nat) : Int) < ((2 ^ k : Nat) : Int) := by rw [Int.natCast_pow]; exact h1
    omega
  have e : ((y : Int) * 2 ^ k) = ((y * 2 ^ k : Nat) : Int) := by rw [Int.natCast_mul, Int.natCast_pow]; rfl
  rw [e, bitOr_nat, Nat.or_comm, ← Nat.shiftLeft_eq, ← Nat.shiftLeft_add_eq_or_of_lt hx]
  rw [Nat.add_comm, Int.natCast_add]
theorem bitAnd_mask (x : Int) (w : Nat) : Builtin.bitAnd x (2 ^ w - 1) = x % 2 ^ w := by
  have hp : (1 : Int) ≤ 2 ^ w := by
    have : 1 ≤ 2 ^ w := Nat.one_le_two_pow
    have h2 : ((1 : Nat) : Int) ≤ ((2 ^ w : Nat) : Int) := by omega
    rw [Int.natCast_pow] at h2
    exact h2
  have ep : (2 : Int) ^ w = ((2 ^ w : Nat) : Int) := by rw [Int.natCast_pow]; rfl
  have em : ((2 : Int) ^ w - 1).toNat = 2 ^ w - 1 := by rw [ep]; omega
  unfold Builtin.bitAnd
  have h2 : decide (0 ≤ (2 : Int) ^ w - 1) = true := by simp; omega
  by_cases h : 0 ≤ x
  · rw [h2, show decide (0 ≤ x) = true by simpa using h]
    dsimp only
    rw [em, Nat.and_two_pow_sub_one_eq_mod, Int.natCast_emod, ← ep]
    congr 1
    omega
  · rw [h2, show decide (0 ≤ x) = false by simpa using h]
    dsimp only
    unfold Builtin.bitNot
    rw [em, Nat.and_comm, Nat.and_two_pow_sub_one_eq_mod]
    have hn : 2 ^ w > 0 := Nat.two_pow_pos w
    obtain ⟨m, hm⟩ : ∃ m : Nat, x = -(m : Int) - 1 := ⟨(-x - 1).toNat, by omega⟩
    subst hm
    rw [show (-(-(m : Int) - 1) - 1).toNat = m by omega, ep]
    have hlt := Nat.mod_lt m hn
    have hd := Nat.div_add_mod m (2 ^ w)
    generalize 2 ^ w = P at *
    have : -(m : Int) - 1 = ((P : Int) - 1 - ((m % P : Nat) : Int)) + (P : Int) * (-((m / P : Nat) : Int) - 1) := by
      rw [Int.mul_sub, Int.mul_neg]
      have : ((P * (m / P) + m % P : Nat) : Int) = (m : Int) := by rw [hd]
      rw [Int.natCast_add, Int.natCast_mul] at this
      omega
    rw [this, Int.add_mul_emod_self_left, Int.emod_eq_of_lt (by omega) (by omega)]
/-! ranges, walks -/
theorem irange_nat (n : Nat) : irange 0 (n : Int) = (List.range n).map fun i : Nat => (i : Int) := by
  unfold irange
  rw [Int.sub_zero, Int.toNat_natCast]
  apply List.map_congr_left
  intro a _
  omega
theorem irange3_len (lo hi c : Int) : (irange3 lo hi c).length ≤ (hi - lo).toNat + (lo - hi).toNat := by
  unfold irange3
  rw [List.length_map, List.length_range]
  exact rangeSize_toNat_le lo hi c
theorem foldR_ok {α β : Type} {f : α → β → Res β} {g : α → β → β} : ∀ {as : List α} {b : β}, (∀ a ∈ as, ∀ b, f a b = .ok (g a b)) → foldR f as b = .ok (as.foldl (fun b a => g a b) b)
  | [], _, _ => rfl
  | a :: as, b, h => by
    show (f a b).bind _ = _
    rw [h a List.mem_cons_self, Res.bind_ok, foldR_ok (fun c hc => h c (List.mem_cons_of_mem _ hc))]
    rfl
theorem comp2R_ok {α β : Type} {it : α → Res (List β)} {g : α → List β} {c : Nat} : ∀ {as : List α} {n : Nat}, (∀ a ∈ as, it a = .ok (g a)) → (∀ a ∈ as, (g a).length ≤ c) → n + as.length * c ≤ sizeLine →
    comp2R (fun _ => Res.quiet (Res.ok true)) (fun a => Res.quiet (it a)) (fun _ _ => Res.quiet (Res.ok true)) (fun _ (b : β) => Res.quiet (Res.ok b)) n as = .ok (as.flatMap g)
  | [], _, _, _, _ => rfl
  | a :: as, n, h, hc, hn => by
    have e1 : (a :: as).length * c = as.length * c + c := by rw [List.length_cons, Nat.succ_mul]
    have e2 := hc a List.mem_cons_self
    rw [comp2R, h a List.mem_cons_self]
    show (need _ _ : Res (List β)) = _
    rw [need_ok (by omega)]
    rw [show filtR (fun b => Res.quiet (Res.ok true)) (fun b => Res.quiet (Res.ok b)) (g a) = Res.ok (g a) from (filtQ_ok (g := id) fun _ _ => rfl).trans (by rw [List.map_id]), Res.bind_ok, comp2R_ok (c := c) (fun b hb => h b (List.mem_cons_of_mem _ hb)) (fun b hb => hc b (List.mem_cons_of_mem _ hb)) (by omega), Res.bind_ok, List.flatMap_cons]
end NF

set_option Elab.async false
set_option linter.all false
namespace NF
open PySem PySem.Spec PyProof.Rows L2
theorem tN_cast {X : Cx} {F : Fr} {L : List (Option Asr)} {O : List Own} {B : Type} {st : List Stmt} {L' : B → List (Option Asr)} {O' : B → List Own} {m m' : Res B} (h : PSs X st (tN F L O m L' O')) (e : m = m') : PSs X st (tN F L O m' L' O') := e ▸ h
theorem FldsOk.mapW {H H' : Hp} : ∀ {fl : FA} {vs : List (Str × V)}, FldsOk H fl vs → (∀ f ∈ fl, ∀ w, f.2.P H w → f.2.P H' w) → FldsOk H' fl vs
  | [], _, h, _ => by
    cases h
    exact .nil
  | f :: fl, _, h, k => by
    cases h with
    | cons h1 h2 => exact .cons ⟨h1.1, k f List.mem_cons_self _ h1.2⟩ (FldsOk.mapW h2 fun g hg => k g (List.mem_cons_of_mem _ hg))
theorem fa_nl {H H' : Hp} {f : Str × Asr} {fl : FA} (h : ∀ w, f.2.P H w → f.2.P H' w) (k : ∀ g ∈ fl, ∀ w, g.2.P H w → g.2.P H' w) : ∀ g ∈ f :: fl, ∀ w, g.2.P H w → g.2.P H' w := fun g hg => by
  rcases List.mem_cons.mp hg with rfl | hg
  · exact h
  · exact k g hg
theorem fa_nil {H H' : Hp} : ∀ g ∈ ([] : FA), ∀ w, g.2.P H w → g.2.P H' w := fun _ h => (List.not_mem_nil h).elim
section
variable {X : Cx} {F : Fr} {L : List (Option Asr)} {O : List Own} {α β τ ρ : Type} [Obj α] [Rep β] [RepA τ] [Rep ρ]
variable {k : Nat} {ps : List Str} {x m : Str} {p1 pos apos : Pos} {e o : Expr} {es : List Expr} {b : Bool}
/-- y.m(e, ..), y an owned instance, m changes it or raises while it stands as it was -/
theorem e_methXq {p : Addr} {s : α} {y : Str} {p2 : Pos} {mir : α → τ → Res (ρ × α)} {ma : Res τ} {pl : Sem Bool} (i : Nat) (D : MethX X.prog X.w X.K X.mg X.base k (Obj.cls α) m ps (spIX X.K X.mg mir)) (hr : Room k X.A) (hL : L[i]? = some (rf p)) (hO : List.Sublist F.O0 (ow F.K F.mg p s :: O)) (ha : PA X (e :: es) (tA true F L (ow F.K F.mg p s :: O) ma)) (hf : ∀ a : α, (Obj.fa F.K F.mg a).lookup m = none := by intro _; rfl) (hK : X.K = F.K := by rfl) (hM : X.mg = F.mg := by rfl)
    (hN : X.N[i]? = some y := by rfl) (hv : Vis X.env.scope y := by first | exact Or.inl rfl | exact Or.inr (Or.inl rfl) | exact Or.inr (Or.inr rfl)) (hd2 : (y == ("__debug__" : Str)) = false := by decide) (hcd : (y == ("__classdict__" : Str)) = false := by decide)
    (hs : starEach (e :: es) X.env = (false, eval e X.env) :: starEach es X.env := by rfl) (hs2 : (backTo pos (starEach es X.env)).any (·.1) = false := by rfl)
    (ht : eval (.Call (.Attribute (.Name y p2) m apos) (e :: es) [] pos) X.env = (do
      let ov ← eval (.Name y p2) X.env
      standAt apos.atName
      let (f, first) ← holding [ov] (getMethod ov m pl)
      callWith pos f first (backTo pos (starEach (e :: es) X.env)) (backToKw pos (keywordEach [] X.env))) := by rfl) :
    PE X (.Call (.Attribute (.Name y p2) m apos) (e :: es) [] pos) (tE true F L p s O (ma.bind fun a => (mir s a).quiet)) := by
  obtain ⟨C, f, fd, h1, h2, h3, h4, h5⟩ := D.ex
  refine pe_imp (pe_methX (E := WE (fun _ _ _ _ => False)) (pl := pl) (pe_var hN hv hd2 hcd) h2 h3 h4 hr h5 (fun σ => L2N.passAt takes0N σ) ha hs hs2 ht) fun σ H Q ⟨g, q⟩ => ?_
  obtain ⟨w, h6, h7⟩ := g.slot hL
  have h7' : w = V.ref p := h7
  subst h7'
  obtain ⟨C', dx, vs, h8, h9, h10⟩ := obj_at g List.mem_cons_self
  have eC : C' = C := by
    rw [← hM, h1] at h9
    cases h9
    rfl
  subst eC
  rw [out_bind] at q
  refine ⟨_, h6, p, dx, vs, rfl, h8, h10.miss (hf s), g, q.mono (fun a qa us H1 g1 s1 r1 => ?_) fun H' ⟨a, _⟩ => a.go.sub hO⟩
  obtain ⟨ob, h11, h12⟩ := g1.go.objs _ List.mem_cons_self
  rw [hK, hM]
  refine ⟨p, a, addrs O ++ F.A, s, us, ob, fun c hc z => g1.go.out z (List.mem_cons_of_mem _ hc), fun z => ?_, rfl, r1, h11, h12, ?_⟩
  · rcases List.mem_append.mp z with z | z
    · exact (List.nodup_cons.mp (show (p :: addrs O).Nodup from g1.go.nd)).1 z
    · exact g1.go.apart _ List.mem_cons_self z
  · cases e1 : mir s a with
    | ok r =>
      rw [e1] at qa
      exact fun v H' ob' kb h13 h14 h15 => qa v H' (g_back g1 kb h13 h14) ((KeepBut.of s1).trans kb) h15
    | err c fs =>
      rw [e1] at qa
      exact qa.elim
    | bad =>
      rw [e1] at qa
      exact qa.elim
end
end NF

set_option Elab.async false
set_option linter.all false
set_option maxRecDepth 100000
/-! Nf28: < of data, tests by truth, slices in steps of two, list(pair), list(range), loops with while. -/
namespace NF
open PySem PySem.Spec PyProof.Rows L2
open Data (toD)
/-! ### < of data: two ints, two texts, two pairs of an int and a text -/
def strLt (a b : Str) : Bool := decide (a.cps.toList < b.cps.toList)
def ltO : PyData → PyData → Option Bool
  | .int a, .int b => some (decide (a < b))
  | .str a, .str b => some (strLt a b)
  | .tuple [.int a, .str s], .tuple [.int b, .str t] => some (if a = b then strLt s t else decide (a < b))
  | _, _ => none
def ltD (x y : PyData) : Res Bool := match ltO x y with
  | some b => .ok b
  | none => .bad
def rLtD (K : Fg) : R2 := fun x y H Q => ∃ d e b, Dp K H x d ∧ Dp K H y e ∧ ltO d e = some b ∧ Q (.bl b) H
theorem dp_int {K : Fg} {H : Hp} {x : V} {i : Int} (h : Dp K H x (.int i)) : x = .int i := by cases h; rfl
theorem dp_str {K : Fg} {H : Hp} {x : V} {i : Str} (h : Dp K H x (.str i)) : x = .str i := by cases h; rfl
theorem dp_tup {K : Fg} {H : Hp} {x : V} {ds : List PyData} (h : Dp K H x (.tuple ds)) : ∃ a xs, x = .ref a ∧ SqT K H a xs ∧ DpAll K H xs ds := by
  cases h with
  | tup h hs => exact ⟨_, _, rfl, h, hs⟩
theorem dp_is {K : Fg} {H : Hp} {xs : List V} {i : Int} {s : Str} (h : DpAll K H xs [.int i, .str s]) : xs = [.int i, .str s] := by
  cases h with
  | cons h1 h2 =>
    cases h2 with
    | cons h3 h4 =>
      cases h4
      rw [dp_int h1, dp_str h3]
theorem op_ltD {X : Cx} (hu : X.A.units + 64 < cLine) : OpR X (compareOp .Lt) (rLtD X.K) := by
  intro pins s σ H x y v u Q I rx ry h
  obtain ⟨d, e, b, hd, he, hb, q⟩ := h
  unfold ltO at hb
  split at hb
  · next i j =>
    injection hb with hb
    subst hb
    have e1 := dp_int hd
    have e2 := dp_int he
    subst e1 e2
    exact op_lt pins s σ H _ _ v u Q I rx ry ⟨i, j, rfl, rfl, q⟩
  · next i j =>
    injection hb with hb
    subst hb
    have e1 := dp_str hd
    have e2 := dp_str he
    subst e1 e2
    exact op_lt_str pins s σ H _ _ v u Q I rx ry ⟨i, j, rfl, rfl, q⟩
  · next i x1 j y1 =>
    injection hb with hb
    subst hb
    obtain ⟨a, xs, rfl, ha, hs⟩ := dp_tup hd
    obtain ⟨a', xs', rfl, ha', hs'⟩ := dp_tup he
    have z1 := dp_is hs
    have z2 := dp_is hs'
    subst z1 z2
    cases rx
    cases ry
    obtain ⟨its, r1, p1, _⟩ := I.tuple ha
    obtain ⟨its2, r2, p2, _⟩ := I.tuple ha'
    obtain ⟨t1, t2, rfl⟩ := vals_is r1
    obtain ⟨t3, t4, rfl⟩ := vals_is r2
    have R := Ob.RcOp.tuples_lt (A := X.A) (s := s) (e := fun k => if k = 0 then (i == j) else (x1 == y1)) (r := fun k => if k = 0 then decide (i < j) else strLt x1 y1) p1 p2 (by omega) (fun k h1 h2 => by
      match k, h1, h2 with
      | 0, _, _ => exact SeqAt.EqAt.int_int _ _ _ _
      | 1, _, _ => exact SeqAt.EqAt.str_str _ _ _ _
      | n + 2, h1, _ => exact absurd h1 (by simp)) (fun k h1 h2 _ => by
      match k, h1, h2 with
      | 0, _, _ => exact Ob.RcOp.lt_int _ _ _ _
      | 1, _, _ => exact fun _ _ _ _ h => PyProof.Rows.lt_str h
      | n + 2, h1, _ => exact absurd h1 (by simp))
    have hlex : Ob.lexAt (fun k => if k = 0 then (i == j) else (x1 == y1)) (fun k => if k = 0 then decide (i < j) else strLt x1 y1) (decide ([Value.int i t1, Value.str x1 t2].toArray.size < [Value.int j t3, Value.str y1 t4].toArray.size)) 0 (min [Value.int i t1, Value.str x1 t2].toArray.size [Value.int j t3, Value.str y1 t4].toArray.size) = if i = j then strLt x1 y1 else decide (i < j) := by
      show (if (i == j) = true then (if (x1 == y1) = true then decide (2 < 2) else strLt x1 y1) else decide (i < j)) = _
      by_cases h : i = j
      · rw [if_pos (by simpa using h), if_pos h]
        by_cases hx : x1 = y1
        · subst hx
          rw [if_pos (by simp)]
          unfold strLt
          simp
        · rw [if_neg (by simpa using hx)]
      · rw [if_neg (by simpa using h), if_neg h]
    rw [hlex] at R
    have z : wpAny (model X.prog X.w) X.A (compareOp .Lt (.ref a) (.ref a')) (EP X pins σ Q) X.xe s := R X.prog X.w X.xe (EP X pins σ Q) ⟨.bl _, H, I, rfl, q⟩
    exact z
  · cases hb
where
  vals_is {i : Int} {x : Str} {its : List Value} (r : Vals [V.int i, V.str x] its) : ∃ t t', its = [.int i t, .str x t'] := by
    cases r with
    | cons r1 r2 =>
      cases r2 with
      | cons r3 r4 =>
        cases r4
        obtain ⟨t, e⟩ := r1
        obtain ⟨t', e'⟩ := r3
        subst e e'
        exact ⟨t, t', rfl⟩
section
variable {X : Cx} {F : Fr} {L : List (Option Asr)} {O : List Own} {α β γ s : Type} [Rep α] [Rep β] [Rep γ] [Rep s]
theorem rr_ltD {b1 b2 b3 : Bool} (hK : X.K = F.K) : RR F L O b1 b2 b3 (rLtD X.K) fun (x y : PyData) => ltD x y := fun x y vx vy H σ Q g rx ry q => by
  unfold ltD at q
  dsimp only at q
  cases e : ltO x y with
  | none => rw [e] at q; exact q.elim
  | some b =>
    rw [e] at q
    rw [hK]
    exact ⟨x, y, b, dp_mono rgn_sub rx, dp_mono rgn_sub ry, e, kp_flat (α := Bool) g q⟩
theorem n_ltD {x y : Expr} {b1 b2 b3 : Bool} {ma mb : Res PyData} {pos : Pos} (hx : PE X x (tP b1 F L O ma)) (hy : PE X y (tP b2 F L O mb)) (hu : X.A.units + 64 < cLine) (hK : X.K = F.K := by rfl) :
    PE X (.Compare x [.Lt] [y] pos) (tP b3 F L O (ma.bind fun x => mb.bind fun y => ltD x y)) := nf2 (pe_cmpR (op_ltD hu) hx hy (nomark _)) (rr_ltD hK)
theorem t_ltD {x y : Expr} {b1 b2 : Bool} {ma mb : Res PyData} {pos : Pos} (hx : PE X x (tP b1 F L O ma)) (hy : PE X y (tP b2 F L O mb)) (hu : X.A.units + 64 < cLine) (hK : X.K = F.K := by rfl) :
    PT X (.Compare x [.Lt] [y] pos) (tB' F L O (ma.bind fun x => mb.bind fun y => ltD x y)) := nf2t (pt_cmpR (op_ltD hu) hx hy (nomark _)) (rr_ltD hK)
/-! ### truth -/
theorem t_truthL [Lk s α] {e : Expr} {b : Bool} {m : Res s} (h : PE X e (tP b F L O m)) (he : ∀ whole, isTrue e X.env whole = (do let v ← whole; standAt e.pos; holding [v] (truthy v)) := by intro _; rfl) (hK : X.K = F.K := by rfl) :
    PT X e (tB' F L O (m.bind fun x => .ok (!(Lk.its x).isEmpty))) := pt_imp (pt_truth h he) fun σ H Q ⟨g, q⟩ => by
  rw [out_bind] at q
  refine ⟨g, q.mono (fun x k v H1 g1 s1 r1 => ?_) fun _ z => z⟩
  obtain ⟨p, vs, h1, h2, h3⟩ := Lk.get r1
  refine ⟨_, ?_, k H1 g1 s1⟩
  subst h1
  rw [hK]
  have hl : vs.isEmpty = (Lk.its x).isEmpty := by
    have := h3.length
    cases vs with
    | nil => cases hx : Lk.its x with
      | nil => rfl
      | cons a as => rw [hx] at this; simp at this
    | cons v vs => cases hx : Lk.its x with
      | nil => rw [hx] at this; simp at this
      | cons a as => rfl
  rw [← hl]
  exact h2.elim (fun z => .inl ⟨vs, rgn_sub.seq z, rfl⟩) (fun z => .inr (.inl ⟨vs, same_t rgn_sub z, rfl⟩))
theorem t_truthI {e : Expr} {b : Bool} {m : Res Int} (h : PE X e (tP b F L O m)) (he : ∀ whole, isTrue e X.env whole = (do let v ← whole; standAt e.pos; holding [v] (truthy v)) := by intro _; rfl) :
    PT X e (tB' F L O (m.bind fun x => .ok (x != 0))) := pt_imp (pt_truth h he) fun σ H Q ⟨g, q⟩ => by
  rw [out_bind] at q
  refine ⟨g, q.mono (fun x k v H1 g1 s1 r1 => ?_) fun _ z => z⟩
  have r1' : v = V.int x := r1
  subst r1'
  exact ⟨_, rfl, k H1 g1 s1⟩
end
/-! ### xs[::2], xs[1::2] -/
def evens {α : Type} : List α → List α
  | [] => []
  | [a] => [a]
  | a :: _ :: as => a :: evens as
theorem evens_get {α : Type} : ∀ (xs : List α) (k : Nat), (evens xs)[k]? = xs[2 * k]?
  | [], k => by simp [evens]
  | [a], 0 => rfl
  | [a], k + 1 => by
    show ([a] : List α)[k + 1]? = ([a] : List α)[2 * (k + 1)]?
    rw [show 2 * (k + 1) = (2 * k + 1) + 1 by omega]
    simp
  | a :: b :: as, 0 => rfl
  | a :: b :: as, k + 1 => by
    show (a :: evens as)[k + 1]? = (a :: b :: as)[2 * (k + 1)]?
    rw [show 2 * (k + 1) = 2 * k + 2 by omega, List.getElem?_cons_succ, evens_get as k]
    simp
theorem evens_length {α : Type} : ∀ (xs : List α), (evens xs).length = (xs.length + 1) / 2
  | [] => by show (0 : Nat) = (0 + 1) / 2; omega
  | [a] => by show (1 : Nat) = (1 + 1) / 2; omega
  | a :: b :: as => by
    show (evens as).length + 1 = (as.length + 1 + 1 + 1) / 2
    rw [evens_length as]
    omega
theorem reps_evens {α : Type} [Rep α] {K : Fg} {mg : MG} {H : Hp} : ∀ {vs : List V} {as : List α}, Reps K mg H vs as → Reps K mg H (evens vs) (evens as)
  | _, _, .nil => .nil
  | _, _, .cons r .nil => .cons r .nil
  | _, _, .cons r (.cons _ t) => .cons r (reps_evens t)
theorem vals_evens : ∀ {xs : List V} {us : List Value}, Vals xs us → Vals (evens xs) (evens us)
  | _, _, .nil => .nil
  | _, _, .cons r .nil => .cons r .nil
  | _, _, .cons r (.cons _ t) => .cons r (vals_evens t)
theorem fm_map {α β : Type} {f : α → Option β} {g : α → β} : ∀ l : List α, (∀ x ∈ l, f x = some (g x)) → l.filterMap f = l.map g
  | [], _ => rfl
  | a :: l, h => by
    rw [List.filterMap_cons, h a List.mem_cons_self, List.map_cons, fm_map l fun x hx => h x (List.mem_cons_of_mem _ hx)]
theorem fm_cg {α β : Type} {f g : α → Option β} : ∀ l : List α, (∀ x ∈ l, f x = g x) → l.filterMap f = l.filterMap g
  | [], _ => rfl
  | a :: l, h => by
    rw [List.filterMap_cons, List.filterMap_cons, h a List.mem_cons_self, fm_cg l fun x hx => h x (List.mem_cons_of_mem _ hx)]
theorem evens_filter (its : List Value) (c : Nat) (off : Nat) (hc : c = (its.length - off + 1) / 2) : (List.range c).filterMap (fun k => its[off + 2 * k]?) = evens (its.drop off) := by
  apply List.ext_getElem?
  intro k
  rw [evens_get, List.getElem?_drop]
  have hl : ∀ j ∈ List.range c, ∃ v, its[off + 2 * j]? = some v := fun j hj => by
    have := List.mem_range.mp hj
    exact ⟨_, List.getElem?_eq_getElem (by omega)⟩
  have : (List.range c).filterMap (fun k => its[off + 2 * k]?) = (List.range c).map (fun k => (its[off + 2 * k]?).getD .none) := by
    apply fm_map
    intro j hj
    obtain ⟨v, hv⟩ := hl j hj
    rw [hv]
    rfl
  rw [this, List.getElem?_map]
  by_cases hk : k < c
  · rw [List.getElem?_range hk]
    obtain ⟨v, hv⟩ := hl k (List.mem_range.mpr hk)
    simp [hv]
  · rw [List.getElem?_eq_none (by simpa using hk)]
    rw [List.getElem?_eq_none (by omega)]
    rfl
theorem pick2 (its : List Value) : slicePick its.toArray none none (some 2) = (evens its).toArray := by
  unfold slicePick sliceRange
  simp only [sliceBounds, Option.getD_some, show (2 : Int) > 0 by decide, if_true, List.size_toArray]
  rw [List.filterMap_map]
  congr 1
  by_cases h : (0 : Int) < its.length
  · rw [if_pos h]
    have := evens_filter its (((its.length : Int) - 0 + 2 - 1) / 2).toNat 0 (by omega)
    rw [List.drop_zero] at this
    rw [← this]
    apply fm_cg
    intro k hk
    show its.toArray[((0 : Int) + 2 * (k : Int)).toNat]? = its[0 + 2 * k]?
    rw [show ((0 : Int) + 2 * (k : Int)).toNat = 0 + 2 * k by omega]
    simp
  · have : its = [] := by cases its with | nil => rfl | cons a b => simp at h
    subst this
    simp [evens]
theorem pick12 (its : List Value) : slicePick its.toArray (some 1) none (some 2) = (evens (its.drop 1)).toArray := by
  unfold slicePick sliceRange
  simp only [sliceBounds, Option.getD_some, show (2 : Int) > 0 by decide, if_true, List.size_toArray, show ¬ ((1 : Int) < 0) by decide, if_false]
  rw [List.filterMap_map]
  congr 1
  have hm : max (0 : Int) (min 1 (its.length : Int)) = if its.length = 0 then 0 else 1 := by split <;> omega
  rw [hm]
  by_cases h : its.length = 0
  · have : its = [] := by cases its with | nil => rfl | cons a b => simp at h
    subst this
    simp [evens]
  · rw [if_neg h]
    by_cases h1 : (1 : Int) < its.length
    · rw [if_pos h1]
      have := evens_filter its (((its.length : Int) - 1 + 2 - 1) / 2).toNat 1 (by omega)
      rw [← this]
      apply fm_cg
      intro k hk
      show its.toArray[((1 : Int) + 2 * (k : Int)).toNat]? = its[1 + 2 * k]?
      rw [show ((1 : Int) + 2 * (k : Int)).toNat = 1 + 2 * k by omega]
      simp
    · rw [if_neg h1]
      have hd : its.drop 1 = [] := List.drop_eq_nil_iff.mpr (by omega)
      rw [hd]
      simp [evens]
def tEvL (K : Fg) (off : Nat) (te : TE) : TE := fun σ H Q => te σ H fun x H1 => ∃ a xs, x = .ref a ∧ SqL K H1 a xs ∧ ∀ p, H1 p = none → Q (.ref p) (upd H1 p (.lst (evens (xs.drop off))))
theorem pe_ev0 {X : Cx} {e : Expr} {te : TE} {k : Nat} {p1 p3 pos : Pos} (he : PE X e te) : PE X (.Subscript e (.Slice none none (some (.Constant (.int 2) k p1)) p3) pos) (tEvL X.K 0 te) := by
  refine ⟨fun pins s σ H Q I h => ?_⟩
  refine Subscript_ (thn (he.run pins s σ H _ I h) fun v s1 ⟨x, H1, I1, r1, q1⟩ => ?_)
  obtain ⟨a, xs, ex, hx, q⟩ := q1
  subst ex
  cases r1
  have hst : PO X (some (.Constant (.int 2) k p1)) (tPart (tC (.int 2))) := po_some pe_int
  refine wpAny_Slice (thn (po_none.run pins s1 σ H1 (fun o H2 => o = none ∧ H2 = H1) I1 ⟨rfl, rfl⟩) fun vl s2 ⟨l, H2, I2, pl, el, e2⟩ => ?_)
  subst el e2
  refine thn (po_none.run pins s2 σ H2 (fun o H3 => o = none ∧ H3 = H2) I2 ⟨rfl, rfl⟩) fun vu s3 ⟨u, H3, I3, pu, eu, e3⟩ => ?_
  subst eu e3
  refine thn (hst.run pins s3 σ H3 (fun o H4 => o = some 2 ∧ H4 = H3) I3 ⟨2, rfl, rfl, rfl⟩) fun vs s4 ⟨o, H4, I4, ps, eo, e4⟩ => ?_
  subst eo e4
  have I5 : Inv X pins σ H4 { s4 with heap := s4.heap.push { cls := .type "slice", data := .fields #[vl, vu, vs] } } := I4.kept (t' := s4.toks) fun b ob q => Heap.get?_push_of_some _ q
  obtain ⟨its, r, ht, hz⟩ := I5.list hx
  have hlen := r.length
  show wpAny (model X.prog X.w) X.A (subscriptTail e (.Slice none none (some (.Constant (.int 2) k p1)) p3) (.ref a) (.ref s4.heap.objs.size)) (EP X pins σ Q) X.xe { s4 with heap := s4.heap.push { cls := .type "slice", data := .fields #[vl, vu, vs] } }
  refine tail_any (ops := [.ref a, .ref s4.heap.objs.size]) ht.isList.typeIs (PySem.slot_list_getitem.lookup) ?_ (by with_unfolding_all rfl)
  refine wpAny_getItem_list_slice ht.isList (Heap.IsSliceOf.new _ vl vu vs) pl pu ps (by decide) ?_ (by rw [List.size_toArray]; omega)
  rw [pick2]
  refine ⟨.ref _, _, I5.laid (t' := s4.toks) (o := .lst (evens (xs.drop 0))) (fun b ob q => Heap.get?_push_of_some _ q) (Nat.le_refl _) ?_, rfl, q _ (I5.hok.fresh (Nat.le_refl _))⟩
  exact ⟨by rw [evens_length, List.drop_zero]; omega, _, 0, by rw [List.drop_zero]; exact vals_evens r, Heap.get?_push_size _ rfl⟩
theorem pe_ev1 {X : Cx} {e : Expr} {te : TE} {k k' : Nat} {p1 p2 p3 pos : Pos} (he : PE X e te) : PE X (.Subscript e (.Slice (some (.Constant (.int 1) k' p2)) none (some (.Constant (.int 2) k p1)) p3) pos) (tEvL X.K 1 te) := by
  refine ⟨fun pins s σ H Q I h => ?_⟩
  refine Subscript_ (thn (he.run pins s σ H _ I h) fun v s1 ⟨x, H1, I1, r1, q1⟩ => ?_)
  obtain ⟨a, xs, ex, hx, q⟩ := q1
  subst ex
  cases r1
  have hst : PO X (some (.Constant (.int 2) k p1)) (tPart (tC (.int 2))) := po_some pe_int
  have hlo : PO X (some (.Constant (.int 1) k' p2)) (tPart (tC (.int 1))) := po_some pe_int
  refine wpAny_Slice (thn (hlo.run pins s1 σ H1 (fun o H2 => o = some 1 ∧ H2 = H1) I1 ⟨1, rfl, rfl, rfl⟩) fun vl s2 ⟨l, H2, I2, pl, el, e2⟩ => ?_)
  subst el e2
  refine thn (po_none.run pins s2 σ H2 (fun o H3 => o = none ∧ H3 = H2) I2 ⟨rfl, rfl⟩) fun vu s3 ⟨u, H3, I3, pu, eu, e3⟩ => ?_
  subst eu e3
  refine thn (hst.run pins s3 σ H3 (fun o H4 => o = some 2 ∧ H4 = H3) I3 ⟨2, rfl, rfl, rfl⟩) fun vs s4 ⟨o, H4, I4, ps, eo, e4⟩ => ?_
  subst eo e4
  have I5 : Inv X pins σ H4 { s4 with heap := s4.heap.push { cls := .type "slice", data := .fields #[vl, vu, vs] } } := I4.kept (t' := s4.toks) fun b ob q => Heap.get?_push_of_some _ q
  obtain ⟨its, r, ht, hz⟩ := I5.list hx
  have hlen := r.length
  show wpAny (model X.prog X.w) X.A (subscriptTail e (.Slice (some (.Constant (.int 1) k' p2)) none (some (.Constant (.int 2) k p1)) p3) (.ref a) (.ref s4.heap.objs.size)) (EP X pins σ Q) X.xe { s4 with heap := s4.heap.push { cls := .type "slice", data := .fields #[vl, vu, vs] } }
  refine tail_any (ops := [.ref a, .ref s4.heap.objs.size]) ht.isList.typeIs (PySem.slot_list_getitem.lookup) ?_ (by with_unfolding_all rfl)
  refine wpAny_getItem_list_slice ht.isList (Heap.IsSliceOf.new _ vl vu vs) pl pu ps (by decide) ?_ (by rw [List.size_toArray]; omega)
  rw [pick12]
  refine ⟨.ref _, _, I5.laid (t' := s4.toks) (o := .lst (evens (xs.drop 1))) (fun b ob q => Heap.get?_push_of_some _ q) (Nat.le_refl _) ?_, rfl, q _ (I5.hok.fresh (Nat.le_refl _))⟩
  exact ⟨by rw [evens_length, List.length_drop]; omega, _, 0, vals_evens (r.drop 1), Heap.get?_push_size _ rfl⟩
section
variable {X : Cx} {F : Fr} {L : List (Option Asr)} {O : List Own} {α β γ s : Type} [Rep α] [Rep β] [Rep γ] [Rep s]
theorem f_ev0 {e : Expr} {b : Bool} {m : Res (List α)} {k : Nat} {p1 p3 pos : Pos} (he : PE X e (tP b F L O m)) (hK : X.K = F.K := by rfl) : PE X (.Subscript e (.Slice none none (some (.Constant (.int 2) k p1)) p3) pos) (tF b F L O (m.bind fun xs => .ok (evens xs))) := pe_imp (pe_ev0 he) fun σ H Q ⟨g, q⟩ => by
  rw [out_bind] at q
  refine ⟨g, q.mono (fun xs k v H1 g1 s1 r1 => ?_) fun _ z => z⟩
  obtain ⟨p, vs, rfl, h2, h3⟩ := r1
  rw [hK]
  exact ⟨p, vs, rfl, .of (rgn_sub _ _ h2), kf_new g1 (KF.mono s1 k) (reps_evens h3)⟩
theorem f_ev1 {e : Expr} {b : Bool} {m : Res (List α)} {k k' : Nat} {p1 p2 p3 pos : Pos} (he : PE X e (tP b F L O m)) (hK : X.K = F.K := by rfl) : PE X (.Subscript e (.Slice (some (.Constant (.int 1) k' p2)) none (some (.Constant (.int 2) k p1)) p3) pos) (tF b F L O (m.bind fun xs => .ok (evens (xs.drop 1)))) := pe_imp (pe_ev1 he) fun σ H Q ⟨g, q⟩ => by
  rw [out_bind] at q
  refine ⟨g, q.mono (fun xs k v H1 g1 s1 r1 => ?_) fun _ z => z⟩
  obtain ⟨p, vs, rfl, h2, h3⟩ := r1
  rw [hK]
  exact ⟨p, vs, rfl, .of (rgn_sub _ _ h2), kf_new g1 (KF.mono s1 k) (reps_evens (reps_drop 1 h3))⟩
/-! ### list(pair), list(range(a, b)) -/
theorem f_listP {e : Expr} {b : Bool} {r} {m : Res (α × α)} (h : PE X e (tCB r (tCons (tP b F L O m) tNil))) (er : r = fun xs H Q => ∃ p ys, xs = [V.ref p] ∧ (SqL X.K H p ys ∨ SqT X.K H p ys) ∧ ∀ l, H l = none → Q (.ref l) (upd H l (.lst ys))) (hK : X.K = F.K := by rfl) :
    PE X e (tF b F L O (m.bind fun x => .ok [x.1, x.2])) := nc1f h fun x vx H σ Q g rx q => by
  subst er
  obtain ⟨p, v1, v2, rfl, h2, h3, h4⟩ := rx
  rw [hK]
  exact ⟨p, _, rfl, .inr (same_t rgn_sub h2), kf_new g q (.cons h3 (.cons h4 .nil))⟩
theorem f_listRg {e e2 : Expr} {b b1 b' : Bool} {m m2 : Res Int} {p q pos pos2 : Pos} (h : PE X e (tP b F L O m)) (h2 : PE X e2 (tP b1 F L O m2)) (hm : X.mg "range" = none) (hml : X.mg "list" = none) (hc : X.calm = true) (hg : Gl X "range" := by rfl) (hgl : Gl X "list" := by rfl)
    (na : starEach [e, e2] X.env = (false, eval e X.env) :: starEach [e2] X.env := by rfl) (nb : starEach [e2] X.env = (false, eval e2 X.env) :: starEach [] X.env := by rfl) (hp : (backTo pos (starEach [e2] X.env)).any (·.1) = false := by rfl)
    (nc : starEach [.Call (.Name "range" p) [e, e2] [] pos] X.env = (false, eval (.Call (.Name "range" p) [e, e2] [] pos) X.env) :: starEach [] X.env := by rfl) :
    PE X (.Call (.Name "list" q) [.Call (.Name "range" p) [e, e2] [] pos] [] pos2) (tF b' F L O (m.bind fun lo => m2.bind fun hi => need (Rg62 lo ∧ Rg62 hi ∧ (hi - lo).toNat ≤ 16777216) (.ok (irange lo hi)))) := pe_imp (pe_listRg hc hgl hml (prg_2 hg hm h h2 na nb hp) nc) fun σ H Q ⟨g, qq⟩ => by
  rw [out_bind] at qq
  refine ⟨g, qq.mono (fun n k v H1 g1 s1 r1 => ?_) fun _ z => z⟩
  rw [out_bind] at k
  refine ⟨g1, k.mono (fun n2 k v H2 g2 s2 r2 => ?_) fun H' ⟨a, b⟩ => ⟨a, s1.trans b⟩⟩
  rw [out_need] at k
  cases r1
  cases r2
  refine ⟨n, n2, rfl, rfl, ⟨k.1.1.1, k.1.1.2, k.1.2.1.1, k.1.2.1.2, k.1.2.2⟩, kf_new g2 (KF.mono (s1.trans s2) k.2) (reps_flat.mpr ?_)⟩
  unfold rgV irange
  rw [List.map_map]
  rfl
end
/-! ### while -/
def whileN {β : Type} (c : β → Res Bool) (f : β → Res β) : Nat → β → Res β
  | 0, _ => .bad
  | n + 1, b => (c b).bind fun t => if t then (f b).bind fun b => whileN c f n b else .ok b
theorem whileN_more {β : Type} {c : β → Res Bool} {f : β → Res β} : ∀ (n k : Nat) (b : β), whileN c f n b ≠ .bad → whileN c f (n + k) b = whileN c f n b
  | 0, k, b, h => (h rfl).elim
  | n + 1, k, b, h => by
    rw [show n + 1 + k = (n + k) + 1 by omega]
    show ((c b).bind fun t => if t then (f b).bind fun b => whileN c f (n + k) b else .ok b) = ((c b).bind fun t => if t then (f b).bind fun b => whileN c f n b else .ok b)
    have h' : ((c b).bind fun t => if t then (f b).bind fun b => whileN c f n b else .ok b) ≠ .bad := h
    cases hc : c b with
    | err x fs => rfl
    | bad => rfl
    | ok t =>
      rw [hc] at h'
      cases t with
      | false => rfl
      | true =>
        simp only [Res.bind_ok, if_true] at h' ⊢
        cases hf : f b with
        | err x fs => rfl
        | bad => rfl
        | ok b' =>
          rw [hf] at h'
          exact whileN_more n k b' h'
open Classical in
/-- a while: as many turns as it takes -/
noncomputable def whileW {β : Type} (c : β → Res Bool) (f : β → Res β) (b : β) : Res β :=
  if h : ∃ n, whileN c f n b ≠ .bad then whileN c f h.choose b else .bad
theorem whileW_of {β : Type} {c : β → Res Bool} {f : β → Res β} {n : Nat} {b : β} (h : whileN c f n b ≠ .bad) : whileW c f b = whileN c f n b := by
  unfold whileW
  have hx : ∃ n, whileN c f n b ≠ .bad := ⟨n, h⟩
  rw [dif_pos hx]
  have h2 := hx.choose_spec
  rcases Nat.le_total hx.choose n with z | z
  · have := whileN_more hx.choose (n - hx.choose) b h2
    rw [show hx.choose + (n - hx.choose) = n by omega] at this
    exact this.symm
  · have := whileN_more n (hx.choose - n) b h
    rw [show n + (hx.choose - n) = hx.choose by omega] at this
    exact this
theorem whileW_n {β : Type} (c : β → Res Bool) (f : β → Res β) (b : β) : ∃ n, whileW c f b = whileN c f n b := by
  unfold whileW
  by_cases h : ∃ n, whileN c f n b ≠ .bad
  · rw [dif_pos h]; exact ⟨_, rfl⟩
  · rw [dif_neg h]; exact ⟨0, rfl⟩
section
variable {X : Cx} {F : Fr} {L : List (Option Asr)} {O : List Own}
theorem s_while {B : Type} {c : Expr} {mc : B → Res Bool} {f : B → Res B} {body : List Stmt} {pos : Pos} {L' : B → List (Option Asr)} {O' : B → List Own} {b0 : B} (sp : Sp3 L' O' b0)
    (hp : PassesOwn (model X.prog X.w) X.A X.env X.xe) (hc : ∀ b, PT X c (tB' F (L' b) (O' b) (mc b))) (hO : ∀ b, List.Sublist F.O0 (O' b)) (hw : wk L (L' b0)) (ho : List.Sublist (O' b0) O)
    (hb : ∀ b, PSs X body (tN F (L' b) (O' b) (f b) L' O')) : PS X (.While c body [] pos) (tN F L O (whileW mc f b0) L' O') := by
  have hc' : PT X c (fun σ H Q => ∃ b, tB' F (L' b) (O' b) (mc b) σ H Q) := ⟨fun pins s σ H Q I ⟨b, q⟩ => (hc b).run pins s σ H Q I q⟩
  have hb' : PSs X body (fun D σ H => ∃ b, tN F (L' b) (O' b) (f b) L' O' D σ H) := pss_ex hb
  refine ps_imp (ps_while hp hc' hb') fun D σ H ⟨g0, q⟩ => ?_
  obtain ⟨n, hn⟩ := whileW_n mc f b0
  rw [hn] at q
  refine ⟨fun m σ H => ∃ b, G F (L' b) (O' b) σ H ∧ Out F (whileN mc f m b) (fun b => ∀ σ' H', G F (L' b) (O' b) σ' H' → D.nx σ' H') (XPS F), ⟨n, b0, g0.to hw ho, q⟩, ?_⟩
  rintro m σ H ⟨b, g, q⟩
  cases m with
  | zero => exact q.elim
  | succ m =>
    rw [show whileN mc f (m + 1) b = (mc b).bind fun t => if t then (f b).bind fun b => whileN mc f m b else .ok b from rfl, out_bind] at q
    refine ⟨b, g, q.mono (fun t k H1 g1 s1 => ?_) fun H' ⟨a, _⟩ => a.go.sub (hO b)⟩
    cases t with
    | true =>
      rw [if_pos rfl]
      simp only [if_true] at k
      rw [out_bind] at k
      exact ⟨fun σ' H' => ∃ b', G F (L' b') (O' b') σ' H' ∧ Out F (whileN mc f m b') (fun b => ∀ σ' H', G F (L' b) (O' b) σ' H' → D.nx σ' H') (XPS F), fun σ' H' z => ⟨m, Nat.lt_succ_self m, z⟩, b, g1, k.mono (fun b' kb σ' H' g' => ⟨b', g', kb⟩) fun _ z => z⟩
    | false =>
      rw [if_neg Bool.false_ne_true]
      exact k σ H1 g1
end
end NF

set_option Elab.async false
set_option linter.all false
set_option maxRecDepth 100000
/-! Nf29: further things that change the owned list; lists known to be new. -/
namespace NF
open PySem PySem.Spec PyProof.Rows L2
open Data (toD)
section
variable {X : Cx} {F : Fr} {L : List (Option Asr)} {p : Addr} {O : List Own} {α β γ s ι τ ρ : Type} [Rep α] [Rep β] [Rep γ] [Rep s] [OwR ι] [RepA τ] [Rep ρ] {xs : ι}
theorem e_toD [Data α] {e : Expr} {b : Bool} {m : Res (α × ι)} (h : PE X e (tE b F L p xs O m)) : PE X e (tE b F L p xs O (m.bind fun u => .ok (toD u.1, u.2))) := pe_imp h fun σ H Q ⟨g, q⟩ => by
  rw [out_bind] at q
  exact ⟨g, q.mono (fun u k v H1 g1 s1 r1 => k v H1 g1 s1 (Data.dp r1)) fun _ z => z⟩
theorem e_tup2 {x y : Expr} {ma : Res (α × ι)} {mb : ι → Res (β × ι)} {k} {pos : Pos} (hx : PE X x (tE true F L p xs O ma)) (hy : ∀ xs', PE X y (tE true F L p xs' O (mb xs'))) (h1 : starEach [x, y] X.env = (false, eval x X.env) :: starEach [y] X.env := by rfl) (h2 : starEach [y] X.env = (false, eval y X.env) :: starEach [] X.env := by rfl) :
    PE X (.Tuple [x, y] k pos) (tE true F L p xs O (ma.bind fun u => (mb u.2).bind fun w => .ok ((u.1, w.1), w.2))) := pe_imp (pe_tup (pa_cons hx (pa_cons (pe_ex hy) pa_nil h2) h1)) fun σ H Q ⟨g, q⟩ => by
  rw [out_bind] at q
  refine ⟨g, q.mono (fun u qx v1 H1 g1 s1 r1 => ?_) fun _ z => z⟩
  rw [out_bind] at qx
  refine ⟨u.2, g1, qx.mono (fun w qy v2 H2 g2 s2 r2 => ?_) fun _ z => z⟩
  refine ⟨by show 2 ≤ sizeLine; decide, fun p' hp => qy _ _ (g2.grow (same_upd hp)) ((s1.trans s2).trans (.of (same_upd hp))) ⟨p', v1, v2, rfl, .of (rgn_new (b := true) g2 (same_upd hp) hp upd_same), Rep.mono (rgn_grow (b := true) (same_upd hp)) (Rep.mono (kb_rg s2) r1), Rep.mono (rgn_grow (b := true) (same_upd hp)) r2⟩⟩
/-! ### texts -/
theorem rr_catS {O : List Own} {b1 b2 b3 : Bool} : RR F L O b1 b2 b3 (fun x y H Q => ∃ i j, x = .str i ∧ y = .str j ∧ i.length + j.length ≤ sizeLine ∧ Q (.str (i ++ j)) H) fun (x y : Str) => need (x.length + y.length ≤ sizeLine) (.ok (x ++ y)) := fun x y vx vy H σ Q g rx ry q => by
  rw [out_need] at q
  cases rx; cases ry
  exact ⟨x, y, rfl, rfl, q.1, kp_flat (α := Str) g q.2⟩
theorem n_catS {x y : Expr} {b1 b2 b3 : Bool} {ma mb : Res Str} {pos : Pos} (hx : PE X x (tP b1 F L O ma)) (hy : PE X y (tP b2 F L O mb)) :
    PE X (.BinOp x .Add y pos) (tP b3 F L O (ma.bind fun x => mb.bind fun y => need (x.length + y.length ≤ sizeLine) (.ok (x ++ y)))) := nf2 (pe_op op_add_str hx hy) rr_catS
theorem e_catS {x y : Expr} {b1 b2 b3 : Bool} {ma : Res (Str × ι)} {mb : ι → Res (Str × ι)} {pos : Pos} (hx : PE X x (tE b1 F L p xs O ma)) (hy : ∀ xs', PE X y (tE b2 F L p xs' O (mb xs'))) (hO : ∀ xs' : ι, List.Sublist F.O0 (ow F.K F.mg p xs' :: O)) :
    PE X (.BinOp x .Add y pos) (tE b3 F L p xs O (ma.bind fun u => (mb u.2).bind fun w => (need (u.1.length + w.1.length ≤ sizeLine) (.ok (u.1 ++ w.1))).bind fun z => .ok (z, w.2))) := ne2 (mc := fun (x y : Str) => need (x.length + y.length ≤ sizeLine) (.ok (x ++ y))) (pe_op op_add_str) hx hy (fun _ => rr_catS) hO
def idxS (s : Str) (i : Int) : Res Str := match atI s.cps.toList i with
  | some c => need (s.length ≤ sizeLine) (.ok ⟨#[c]⟩)
  | none => .bad
theorem rr_idxS {O : List Own} {b1 b2 b3 : Bool} : RR F L O b1 b2 b3 rIxS fun (x : Str) (y : Int) => idxS x y := fun x y vx vy H σ Q g rx ry q => by
  unfold idxS at q
  dsimp only at q
  cases e : atI x.cps.toList y with
  | none => rw [e] at q; exact q.elim
  | some c =>
    rw [e] at q
    have q' : Out F (need (x.length ≤ sizeLine) (Res.ok (⟨#[c]⟩ : Str))) (KP Str b3 F L O σ H Q) (XP F L O σ H) := q
    rw [out_need] at q'
    cases rx; cases ry
    exact ⟨x, y, c, rfl, rfl, q'.1, e, kp_flat (α := Str) g q'.2⟩
theorem e_idxS {x y : Expr} {b1 b2 b3 : Bool} {ma : Res (Str × ι)} {mb : ι → Res (Int × ι)} {pos : Pos} (hx : PE X x (tE b1 F L p xs O ma)) (hy : ∀ xs', PE X y (tE b2 F L p xs' O (mb xs'))) (hO : ∀ xs' : ι, List.Sublist F.O0 (ow F.K F.mg p xs' :: O)) (hp : PlainIx y := by exact fun _ _ => rfl) :
    PE X (.Subscript x y pos) (tE b3 F L p xs O (ma.bind fun u => (mb u.2).bind fun w => (idxS u.1 w.1).bind fun z => .ok (z, w.2))) := ne2 (mc := fun (x : Str) (y : Int) => idxS x y) (fun h1 h2 => pe_ix ix_str h1 h2 hp) hx hy (fun _ => rr_idxS) hO
/-! ### xs[:e], e changing the owned list -/
theorem e_sliceHi {x y : Expr} {b : Bool} {ma : Res (List α × ι)} {mb : ι → Res (Int × ι)} {p1 p2 : Pos} (hx : PE X x (tE true F L p xs O ma)) (hy : ∀ xs', PE X y (tE b F L p xs' O (mb xs'))) :
    PE X (.Subscript x (.Slice none (some y) none p2) p1) (tE true F L p xs O (ma.bind fun u => (mb u.2).bind fun w => .ok (cut u.1 none (some w.1), w.2))) := pe_imp (pe_slice sl_list hx po_none (po_some (pe_ex hy))) fun σ H Q ⟨g, q⟩ => by
  rw [out_bind] at q
  refine ⟨g, q.mono (fun u qx v1 H1 g1 s1 r1 => ?_) fun _ z => z⟩
  rw [out_bind] at qx
  refine ⟨u.2, g1, qx.mono (fun w qy v2 H2 g2 s2 r2 => ?_) fun _ z => z⟩
  have r2' : v2 = V.int w.1 := Flat.iff.mp r2
  obtain ⟨a, vs, rfl, h2, h3⟩ := (Rep.mono (kb_rg s2) r1 : Rep.rep F.K F.mg (rg F (ow F.K F.mg p w.2 :: O) H2) v1 u.1)
  refine ⟨w.1, r2', a, vs, rfl, .of (less_same _ _ h2), fun p' hp => ?_⟩
  refine qy _ _ (g2.grow (same_upd hp)) ((s1.trans s2).trans (.of (same_upd hp))) ⟨p', _, rfl, rgn_new (b := true) g2 (same_upd hp) hp upd_same, ?_⟩
  have e : vs.length = u.1.length := h3.length
  unfold cutV cut
  rw [e]
  exact (reps_take _ (reps_drop _ h3)).mono (rgn_grow (b := true) (same_upd hp))
/-! ### f(..), its arguments changing the owned list -/
theorem ea_one {e : Expr} {m : Res (α × ι)} (h : PE X e (tE true F L p xs O m)) (hs : starEach [e] X.env = (false, eval e X.env) :: starEach [] X.env := by rfl) : PA X [e] (tEA true F L p xs O (m.bind fun u => .ok (Ar.mk u.1 (), u.2))) := pa_imp (pa_cons h pa_nil hs) fun σ H Q ⟨g, q⟩ => by
  rw [out_bind] at q
  exact ⟨g, q.mono (fun u k v H1 g1 s1 r1 => k _ H1 g1 s1 ⟨v, [], rfl, r1, rfl⟩) fun _ z => z⟩
theorem e_pcall {mir : τ → Res ρ} {m : Res (τ × ι)} {k : Nat} {ps : List Str} {x : Str} {p1 pos : Pos} {e : Expr} {es : List Expr} (D : DefAt X.prog X.w X.K X.mg X.base CX0 k x ps (spP X.K X.mg mir)) (hr : Room k X.A) (ha : PA X (e :: es) (tEA true F L p xs O m)) (hO : ∀ xs' : ι, List.Sublist F.O0 (ow F.K F.mg p xs' :: O)) (hg : Gl X x := by rfl) (hE : F.E = E0 := by rfl) (hK : X.K = F.K := by rfl) (hM : X.mg = F.mg := by rfl) (hd : (x == ("__debug__" : Str)) = false := by decide)
    (hs : starEach (e :: es) X.env = (false, eval e X.env) :: starEach es X.env := by rfl) (hs2 : ((backTo pos (starEach es X.env)).any fun x => x.fst) = false := by rfl) : PE X (.Call (.Name x p1) (e :: es) [] pos) (tE true F L p xs O (m.bind fun u => (mir u.1).bind fun z => .ok (z, u.2))) := by
  obtain ⟨f, fd, Gf, hm, hk, hb⟩ := D.ex
  refine pe_imp (pe_call Gf hr hg hm hk hb .nil pass0 ha hd hs hs2) fun σ H Q ⟨g, q⟩ => ?_
  rw [out_bind] at q
  refine ⟨g, q.mono (fun u qa vs H1 g1 s1 r1 => ?_) fun _ z => z⟩
  show spP X.K X.mg mir (vs ++ []) H1 Q E0
  rw [List.append_nil, hK, hM]
  refine ⟨u.1, avoid true F (ow F.K F.mg p u.2 :: O), g1.go.avoided, by rw [← rgn_avoid]; exact r1, ?_⟩
  rw [out_bind] at qa
  cases e : mir u.1 with
  | ok r =>
    rw [e] at qa
    exact fun v H' s2 r2 => qa v H' (g1.grow s2) (s1.trans (.of s2)) (by rw [rgn_avoid]; exact r2)
  | err c fs =>
    rw [e] at qa
    intro C d H' h1 h2 h4
    have := qa C d H' h1 (h2.older g1.go.live) ((g1.grow h4).go.sub (hO _))
    rw [hE] at this
    exact this
  | bad =>
    rw [e] at qa
    exact qa.elim
end
/-! ### lists known to be new: not among B -/
def NewIn (B : Addr → Prop) : Type := List Int
instance {B : Addr → Prop} : Rep (NewIn B) := ⟨fun K mg H v as => ∃ p vs, v = .ref p ∧ ¬ B p ∧ H p = some (.lst vs) ∧ Reps K mg H vs (α := Int) as, fun e ⟨p, vs, h1, h0, h2, h3⟩ => ⟨p, vs, h1, h0, e _ _ h2, h3.mono e⟩⟩
section
variable {X : Cx} {F : Fr} {L : List (Option Asr)} {O : List Own} {α τ : Type} [Rep α] [RepA τ] {B : Addr → Prop}
theorem n_unnew {e : Expr} {b : Bool} {m : Res (NewIn B)} (h : PE X e (tP b F L O m)) : PE X e (tP (α := List Int) b F L O m) := pe_imp h fun σ H Q ⟨g, q⟩ =>
  ⟨g, q.mono (fun a k v H1 g1 s1 ⟨p, vs, h1, _, h2, h3⟩ => k v H1 g1 s1 ⟨p, vs, h1, h2, h3⟩) fun _ z => z⟩
theorem f_new {e : Expr} {b : Bool} {m : Res (List Int)} (hB : ∀ a, B a → F.H0 a ≠ none) (h : PE X e (tF b F L O m)) : PE X e (tP (α := NewIn B) b F L O m) := pe_imp h fun σ H Q ⟨g, q⟩ =>
  ⟨g, q.mono (fun as k p vs H' g' s h1 h2 r => k _ H' g' s ⟨p, vs, rfl, fun z => g.go.live p (hB p z) h1, rgn_new g s h1 h2, r.mono less_same⟩) fun _ z => z⟩
def spFB (B : Addr → Prop) (K : Fg) (mg : MG) (mir : τ → Res (List α)) : Sp := fun vs H Q E => (∀ a, B a → H a ≠ none) ∧ spF K mg mir vs H Q E
theorem fd_callB {mir : τ → Res (List α)} {m : Res τ} {b : Bool} {k : Nat} {ps : List Str} {x : Str} {p1 pos : Pos} {e : Expr} {es : List Expr} (hB : ∀ a, B a → F.H0 a ≠ none) (D : DefAt X.prog X.w X.K X.mg X.base CX0 k x ps (spFB B X.K X.mg mir)) (hr : Room k X.A) (ha : PA X (e :: es) (tA b F L O m)) (hg : Gl X x := by rfl) (hE : F.E = E0 := by rfl) (hK : X.K = F.K := by rfl) (hM : X.mg = F.mg := by rfl) (hd : (x == ("__debug__" : Str)) = false := by decide)
    (hs : starEach (e :: es) X.env = (false, eval e X.env) :: starEach es X.env := by rfl) (hs2 : ((backTo pos (starEach es X.env)).any fun x => x.fst) = false := by rfl) : PE X (.Call (.Name x p1) (e :: es) [] pos) (tF b F L O (m.bind mir)) := by
  obtain ⟨f, fd, Gf, hm, hk, hb⟩ := D.ex
  refine pe_imp (pe_call Gf hr hg hm hk hb .nil pass0 ha hd hs hs2) fun σ H Q ⟨g, q⟩ => ?_
  rw [out_bind] at q
  refine ⟨g, q.mono (fun a qa vs H1 g1 s1 r1 => ?_) fun _ z => z⟩
  show spFB B X.K X.mg mir (vs ++ []) H1 Q E0
  rw [List.append_nil, hK, hM]
  refine ⟨fun a z => g1.go.live a (hB a z), a, avoid b F O, g1.go.avoided, by rw [← rgn_avoid]; exact r1, ?_⟩
  cases e : mir a with
  | ok r =>
    rw [e] at qa
    exact fun p ws H' s2 h1 h2 r2 => qa p ws H' (g1.grow s2) (s1.trans s2) (s1.free h1) h2 (by rw [rgn_avoid]; exact r2)
  | err c fs =>
    rw [e] at qa
    intro C d H' h1 h2 h4
    have := qa C d H' h1 (h2.older g1.go.live) ⟨g1.grow h4, s1.trans h4⟩
    rw [hE] at this
    exact this
  | bad =>
    rw [e] at qa
    exact qa.elim
theorem b_retNew {m : Res (NewIn B)} {e : Expr} {pos : Pos} (hB : ∀ a, F.H0 a ≠ none → B a) (he : PE X e (tP true F L O m)) (hO : List.Sublist F.O0 O) : PSs X [.Return (some e) pos] (tT F L O (m : Res (List Int)) (rF F)) := pss_one (ps_imp (ps_ret he) fun D σ H ⟨g, q⟩ => ⟨g, q.mono (fun a k v H1 g1 s1 ⟨p, vs, h1, h0, h2, h3⟩ => by
  have hA : p ∉ F.A := fun z => by
    have h2' : rg F O H1 p = some (.lst vs) := h2
    unfold rg at h2'
    rw [less_in (List.mem_append_right _ z)] at h2'
    cases h2'
  exact k v H1 ⟨p, vs, h1, g1.go.sub (List.nil_sublist _), Decidable.byContradiction fun z => h0 (hB p z), hA, less_same _ _ h2, reps_flat.mpr (reps_flat.mp h3)⟩) fun H' ⟨a, _⟩ => a.go.sub hO⟩)
end
section
variable {P : Program} {w : World} {K : PySem.W.Frag} {mg : Str → Option Value} {base : Heap} {τ α : Type} [RepA τ] [Rep α] {B : Addr → Prop}
variable {x qual : Str} {st : Stmt} {f : Addr} {fd : FuncData} {N ps : List Str} {k : Nat}
theorem def_FB {mir : τ → Res (List α)} (Fu : Fun K x qual st f fd) (S : FnScope N ps (defScope st)) (L0 : τ → List (Option Asr)) (hl : ∀ (vs : List V) (R : Hp) (a : τ), RepA.rep K mg R vs a → vs.length = ps.length ∧ Paired (SlotOk R) (L0 a) (start N vs))
    (body : ∀ (cdv : Value) (A : Around) (outer : List Env) (s : Shared) (H : Hp) (Av : List Addr) (E : XK) (a : τ), Room k (A.deeper (envOfC qual (defScope st) s.heap.objs.size f cdv)) → (∀ a, B a → H a ≠ none) →
      PSs (cxOf CX0 P w K mg base N qual (defScope st) f cdv A outer s H E).nox (defBody st) (tT (F0 K mg H Av E0) (L0 a) [] (mir a) (rF (F0 K mg H Av E0)))) :
    FnOk P w K mg base CX0 (k + 1) f fd ps (spFB B K mg mir) := by
  refine Fu.ok S (fun vs H Q E ⟨_, a, A, _, h, _⟩ => (hl vs _ a h).1) (fun cdv A outer s H vs Q E hr ⟨hB, a, Av, hA, h, q⟩ => ⟨_, body cdv A outer s H Av E a hr hB, ⟨(hl vs _ a h).2, go_start hA⟩, ?_⟩)
  exact q.mono (fun r k v H' ⟨p, ws, e, g, h1, h2, h3, h4⟩ => by subst e; exact k p ws H' (go_same g) h1 h3 h4) fun H' g => go_same g
end
end NF

set_option Elab.async false
set_option linter.all false
set_option maxRecDepth 100000
/-! Nf30: comprehensions whose test or element changes an owned object. -/
namespace NF
open PySem PySem.Spec PyProof.Rows L2
open Data (toD)
def filtE {α β ι : Type} (p : α → ι → Res (Bool × ι)) (f : α → ι → Res (β × ι)) : List α → ι → Res (List β × ι)
  | [], xs => .ok ([], xs)
  | a :: as, xs => (p a xs).bind fun c => if c.1 then (f a c.2).bind fun y => (filtE p f as y.2).bind fun ys => .ok (y.1 :: ys.1, ys.2) else filtE p f as c.2
section
variable {X : Cx} {F : Fr} {L : List (Option Asr)} {p : Addr} {O : List Own} {α β γ s ι : Type} [Rep α] [Rep β] [Rep γ] [Rep s] [OwR ι] {xs : ι}
theorem i_pE {tg e : Expr} {m : Res (List α)} (hO : List.Sublist F.O0 (ow F.K F.mg p xs :: O)) (h : PI X tg e (tI true F L (ow F.K F.mg p xs :: O) m)) : PI X tg e (tIE F L p xs O (m.bind fun a => .ok (a, xs))) := pi_imp h fun σ H R ⟨g, q⟩ => by
  rw [out_bind] at q
  exact ⟨g, q.mono (fun as k J H' S g' s hS => k J H' S g' (.of s) hS) fun H' ⟨a, _⟩ => a.go.sub hO⟩
theorem ts_nilE : PTs X [] (tEB F L p xs O (.ok (true, xs))) := pts_imp pts_nil fun σ H Q ⟨g, q⟩ => q H g (.of (Same.refl _))
theorem ts_oneE {c : Expr} {m : Res (Bool × ι)} (h : PT X c (tEB F L p xs O m)) : PTs X [c] (tEB F L p xs O m) := pts_one h
theorem less_one {H : Hp} {D a : Addr} (h : a ≠ D) : less H [D] a = H a := less_out fun z => h (List.mem_singleton.mp z)
/-- the object at D taken out of sight again -/
theorem GO.without {D : Addr} {ds : List β} {H : Hp} {xs' : ι} (g : GO F (ow F.K F.mg p xs' :: ow F.K F.mg D ds :: O) H) (hD : F.H0 D = none) : GO F (ow F.K F.mg p xs' :: O) (less H [D]) := by
  have nd := List.nodup_cons.mp (show (p :: D :: addrs O).Nodup from g.nd)
  have nd2 := List.nodup_cons.mp nd.2
  have hne : ∀ w ∈ (ow F.K F.mg p xs' :: O), w.a ≠ D := fun w hw z => by
    rcases List.mem_cons.mp hw with rfl | hw
    · exact nd.1 (by rw [show p = D from z]; exact List.mem_cons_self)
    · exact nd2.1 (by rw [← z]; exact List.mem_map.mpr ⟨w, hw, rfl⟩)
  have er : rg F (ow F.K F.mg p xs' :: O) (less H [D]) = rg F (ow F.K F.mg p xs' :: ow F.K F.mg D ds :: O) H := by
    funext a
    unfold rg
    by_cases h1 : a ∈ addrs (ow F.K F.mg p xs' :: ow F.K F.mg D ds :: O) ++ F.A
    · rw [less_in h1]
      by_cases h2 : a ∈ addrs (ow F.K F.mg p xs' :: O) ++ F.A
      · rw [less_in h2]
      · rw [less_out h2]
        have : a = D := by
          rcases List.mem_append.mp h1 with z | z
          · rcases List.mem_cons.mp (show a ∈ p :: D :: addrs O from z) with e | z
            · exact (h2 (List.mem_append_left _ (by rw [e]; exact List.mem_cons_self))).elim
            · rcases List.mem_cons.mp z with e | z
              · exact e
              · exact (h2 (List.mem_append_left _ (List.mem_cons_of_mem _ z))).elim
          · exact (h2 (List.mem_append_right _ z)).elim
        subst this
        exact less_in List.mem_cons_self
    · rw [less_out h1]
      have h2 : a ∉ addrs (ow F.K F.mg p xs' :: O) ++ F.A := fun z => h1 (by
        rcases List.mem_append.mp z with z | z
        · rcases List.mem_cons.mp (show a ∈ p :: addrs O from z) with e | z
          · exact List.mem_append_left _ (by rw [e]; exact List.mem_cons_self)
          · exact List.mem_append_left _ (List.mem_cons_of_mem _ (List.mem_cons_of_mem _ z))
        · exact List.mem_append_right _ z)
      rw [less_out h2]
      refine less_one fun z => h1 ?_
      rw [z]
      exact List.mem_append_left _ (List.mem_cons_of_mem _ List.mem_cons_self)
  have ha : D ∉ F.A := g.apart (ow F.K F.mg D ds) (List.mem_cons_of_mem _ List.mem_cons_self)
  exact {
    objs := fun w hw => by
      have hw' : w ∈ (ow F.K F.mg p xs' :: ow F.K F.mg D ds :: O) := by
        rcases List.mem_cons.mp hw with e | hw
        · rw [e]; exact List.mem_cons_self
        · exact List.mem_cons_of_mem _ (List.mem_cons_of_mem _ hw)
      obtain ⟨o, ho, hp⟩ := g.objs w hw'
      exact ⟨o, by rw [less_one (hne w hw)]; exact ho, by rw [er]; exact hp⟩
    nd := List.nodup_cons.mpr ⟨fun z => nd.1 (List.mem_cons_of_mem _ z), nd2.2⟩
    own := fun w hw => by
      rcases List.mem_cons.mp hw with e | hw
      · rw [e]; exact g.own _ List.mem_cons_self
      · exact g.own w (List.mem_cons_of_mem _ (List.mem_cons_of_mem _ hw))
    keep := fun a o h hw => by
      rw [less_one (fun z => by rw [z, hD] at h; cases h)]
      exact g.keep a o h hw
    live := fun a h => by
      rw [less_one (fun z => h (by rw [z]; exact hD))]
      exact g.live a h
    hid := g.hid
    apart := fun w hw => by
      rcases List.mem_cons.mp hw with e | hw
      · rw [e]; exact g.apart _ List.mem_cons_self
      · exact g.apart w (List.mem_cons_of_mem _ (List.mem_cons_of_mem _ hw))
    facts := fun z hz => by rw [er]; exact g.facts z hz }
theorem rg_without {D : Addr} {ds : List β} {H : Hp} {xs' : ι} : Same (rg F (ow F.K F.mg p xs' :: ow F.K F.mg D ds :: O) H) (rg F (ow F.K F.mg p xs' :: O) (less H [D])) := fun a o z => by
  unfold rg at z ⊢
  by_cases h1 : a ∈ addrs (ow F.K F.mg p xs' :: ow F.K F.mg D ds :: O) ++ F.A
  · rw [less_in h1] at z; cases z
  · rw [less_out h1] at z
    have h2 : a ∉ addrs (ow F.K F.mg p xs' :: O) ++ F.A := fun y => h1 (by
      rcases List.mem_append.mp y with y | y
      · rcases List.mem_cons.mp (show a ∈ p :: addrs O from y) with e | y
        · exact List.mem_append_left _ (by rw [e]; exact List.mem_cons_self)
        · exact List.mem_append_left _ (List.mem_cons_of_mem _ (List.mem_cons_of_mem _ y))
      · exact List.mem_append_right _ y)
    rw [less_out h2, less_one (fun y => h1 (by rw [y]; exact List.mem_append_left _ (List.mem_cons_of_mem _ List.mem_cons_self)))]
    exact z
theorem comp_coreE {g : TG} {vs : List Nat} {bd : α → List (Option Asr) → List (Option Asr)} {m : Res (List α × ι)} {P : α → ι → Res (Bool × ι)} {f : α → ι → Res (β × ι)} {wi : TI} (tt : TT) (te : TE)
    (hi : wi = tIE F L p xs O m) (ht : TgOk F.K F.mg g vs bd) (htt : tt = fun σ H Q => ∃ a D ds xs', tEB F.nox (bd a (wipeL L vs)) p xs' (ow (s := List β) F.K F.mg D ds :: O) (P a xs') σ H Q) (hte : te = fun σ H Q => ∃ a D ds xs', tE true F.nox (bd a (wipeL L vs)) p xs' (ow (s := List β) F.K F.mg D ds :: O) (f a xs') σ H Q) (σ : L2.St) (H : Hp) (Q : VK)
    (h : tE true F L p xs O (m.bind fun r => need (r.1.length ≤ sizeLine) (filtE (fun a x => (P a x).quiet) (fun a x => (f a x).quiet) r.1 r.2)) σ H Q) : tLc wi g tt te vs σ H Q := by
  subst hi
  obtain ⟨g0, q⟩ := h
  rw [out_bind] at q
  refine ⟨g0, q.mono (fun r k J H1 S g1 s1 hS => ?_) fun _ z => z⟩
  obtain ⟨as, xs1⟩ := r
  rw [out_need] at k
  obtain ⟨hsz, k⟩ := k
  have hsz : as.length ≤ sizeLine := hsz
  intro D hD
  have hD0 : F.H0 D = none := by
    cases z : F.H0 D with
    | none => rfl
    | some o => exact (g1.go.live D (by rw [z]; simp) hD).elim
  refine lc_it S.walk (g := g) (tt := tt) (te := te) (vs := vs) (σ := σ) (H1 := H1) (D := D) (Qd := fun H => Q (.ref D) H)
    (fun i H => ∃ (ds : List β) (vd : List V) (xs' : ι), H D = some (.lst vd) ∧ ds.length + (as.length - i) ≤ sizeLine ∧ G F L (ow F.K F.mg p xs' :: O) σ (less H [D]) ∧ Reps F.K F.mg (rg F (ow F.K F.mg p xs' :: O) (less H [D])) vd ds ∧ KeepBut p H1 (less H [D]) ∧ S.src (rg F (ow F.K F.mg p xs' :: O) (less H [D])) ∧
      Out F (filtE (fun a x => (P a x).quiet) (fun a x => (f a x).quiet) (as.drop i) xs') (fun r => ∀ v H', G F L (ow F.K F.mg p r.2 :: O) σ H' → KeepBut p H1 H' → rp F (rg F (ow F.K F.mg p r.2 :: O) H') v (ds ++ r.1) → Q v H') (fun _ => False))
    ⟨[], [], xs1, upd_same, ?_, ?_, .nil, ?_, ?_, ?_⟩ ?_ ?_ ?_
  · show 0 + (as.length - 0) ≤ sizeLine
    omega
  · rw [show less (upd H1 D (.lst [])) [D] = H1 from less_upd1 hD]; exact g1
  · rw [show less (upd H1 D (.lst [])) [D] = H1 from less_upd1 hD]; exact .of (Same.refl _)
  · rw [show less (upd H1 D (.lst [])) [D] = H1 from less_upd1 hD]; exact hS
  · rw [List.drop_zero]
    have hk : Out F (filtE (fun a x => (P a x).quiet) (fun a x => (f a x).quiet) as xs1) _ _ := k
    have hnb := filtE_noerr P f as xs1
    cases e : filtE (fun a x => (P a x).quiet) (fun a x => (f a x).quiet) as xs1 with
    | ok r => rw [e] at hk; exact fun v H' g' s' r' => hk v H' g' (s1.trans s') r'
    | err c fs => exact (hnb c fs e).elim
    | bad => rw [e] at hk; exact hk.elim
  · rintro i H _ ⟨ds, vd, xs', h1, _, _, _, _, h6, _⟩
    exact S.mono (less_same.trans less_same) h6
  · rintro i x H H' hi ⟨ds, vd, xs', h1, hl, gi, hr, hkb, hsrc, q2⟩ y
    have hi : i < as.length := hi
    have ha : as[i]? = some as[i] := List.getElem?_eq_getElem hi
    have eHD : Same (less H [D]) H := less_same
    have hDn : less H [D] D = none := less_in List.mem_cons_self
    have go2 : GO F (ow F.K F.mg D ds :: ow F.K F.mg p xs' :: O) H := go_new gi (gi.go.grow eHD) eHD hDn h1 (hr.mono fun a o z => by
      have hz : a ≠ D := fun e => by
        subst e
        have := less_same a o z
        rw [hDn] at this; cases this
      rw [less_one hz]
      exact rg_grow eHD a o z)
    have go3 : GO F (ow F.K F.mg p xs' :: ow F.K F.mg D ds :: O) H := go2.perm (List.Perm.swap _ _ _)
    have sReg : Same (rg F (ow F.K F.mg p xs' :: O) (less H [D])) (rg F (ow F.K F.mg p xs' :: ow F.K F.mg D ds :: O) H) := fun a o z => by
      have hz : a ≠ D := fun e => by
        subst e
        have := less_same a o z
        rw [hDn] at this; cases this
      unfold rg at z ⊢
      by_cases hb : a ∈ addrs (ow F.K F.mg p xs' :: O) ++ F.A
      · rw [less_in hb] at z; cases z
      · rw [less_out hb, less_one hz] at z
        rw [less_out]
        · exact z
        · intro w
          rcases List.mem_append.mp w with w | w
          · rcases List.mem_cons.mp (show a ∈ p :: D :: addrs O from w) with e | w
            · exact hb (List.mem_append_left _ (by rw [e]; exact List.mem_cons_self))
            · rcases List.mem_cons.mp w with e | w
              · exact hz e
              · exact hb (List.mem_append_left _ (List.mem_cons_of_mem _ w))
          · exact hb (List.mem_append_right _ w)
    obtain ⟨s2, yy⟩ := S.ylds i H x H' y
    have g2 : G F L (ow F.K F.mg p xs' :: ow F.K F.mg D ds :: O) σ H := ⟨L2.Paired.mapP gi.slots fun _ _ z => z.mono sReg, go3⟩
    have g3 := g2.grow s2
    have rx : rp F (rg F (ow F.K F.mg p xs' :: ow F.K F.mg D ds :: O) H') x as[i] := yy _ (fun a ha z => go3.out z ha) (S.mono sReg hsrc) _ ha
    have gn : G F.nox (wipeL L vs) (ow F.K F.mg p xs' :: ow F.K F.mg D ds :: O) (wipe σ vs) H' := ⟨wipe_ok g3.slots vs, g3.go.nox⟩
    refine ht x as[i] (wipe σ vs) H' (rg F (ow F.K F.mg p xs' :: ow F.K F.mg D ds :: O) H') (wipeL L vs) _ less_same rx gn.slots fun σ2 e2 hs2 => ?_
    refine ⟨e2.trans (wipe_wipe σ vs), ?_⟩
    rw [List.drop_eq_getElem_cons hi] at q2
    rw [show filtE (fun a x => (P a x).quiet) (fun a x => (f a x).quiet) (as[i] :: List.drop (i + 1) as) xs' = ((P as[i] xs').quiet).bind fun c => if c.1 then ((f as[i] c.2).quiet).bind fun y => (filtE (fun a x => (P a x).quiet) (fun a x => (f a x).quiet) (List.drop (i + 1) as) y.2).bind fun ys => .ok (y.1 :: ys.1, ys.2) else filtE (fun a x => (P a x).quiet) (fun a x => (f a x).quiet) (List.drop (i + 1) as) c.2 from rfl, out_bind] at q2
    have gb : G F.nox (bd as[i] (wipeL L vs)) (ow F.K F.mg p xs' :: ow F.K F.mg D ds :: O) σ2 H' := ⟨hs2, gn.go⟩
    -- what stood at the turn's start stands at its end
    have onw : ∀ {H'' : Hp} {xs'' : ι}, KeepBut p H' H'' → GO F.nox (ow F.K F.mg p xs'' :: ow F.K F.mg D ds :: O) H'' → (H'' D = some (.lst vd) ∧ G F L (ow F.K F.mg p xs'' :: O) σ (less H'' [D]) ∧ Reps F.K F.mg (rg F (ow F.K F.mg p xs'' :: O) (less H'' [D])) vd ds ∧ KeepBut p H1 (less H'' [D]) ∧ S.src (rg F (ow F.K F.mg p xs'' :: O) (less H'' [D]))) := fun {H'' xs''} kb gg => by
      have nd := List.nodup_cons.mp (show (p :: D :: addrs O).Nodup from gg.nd)
      have hpD : D ≠ p := fun e => nd.1 (by rw [← e]; exact List.mem_cons_self)
      have gg' : GO F (ow F.K F.mg p xs'' :: ow F.K F.mg D ds :: O) H'' := ⟨gg.objs, gg.nd, gg.own, gg.keep, gg.live, gg.hid, gg.apart, gg.facts⟩
      have sR : Same (rg F (ow F.K F.mg p xs' :: O) (less H [D])) (rg F (ow F.K F.mg p xs'' :: O) (less H'' [D])) := fun a o z => by
        have hz : a ≠ D := fun e => by
          subst e
          have := less_same a o z
          rw [hDn] at this; cases this
        unfold rg at z ⊢
        by_cases hb : a ∈ addrs (ow F.K F.mg p xs' :: O) ++ F.A
        · rw [less_in hb] at z; cases z
        · rw [less_out hb, less_one hz] at z
          rw [less_out (show a ∉ addrs (ow F.K F.mg p xs'' :: O) ++ F.A from hb), less_one hz]
          exact kb a o (s2 a o z) fun e => hb (List.mem_append_left _ (by rw [e]; exact List.mem_cons_self))
      refine ⟨kb D _ (s2 D _ h1) hpD, ⟨L2.Paired.mapP gi.slots fun _ _ z => z.mono sR, gg'.without hD0⟩, hr.mono sR, fun a o z hp => ?_, S.mono sR hsrc⟩
      have z1 := hkb a o z hp
      have hz : a ≠ D := fun e => by subst e; rw [hDn] at z1; cases z1
      rw [less_one hz] at z1 ⊢
      exact kb a o (s2 a o z1) hp
    subst htt hte
    refine ⟨as[i], D, ds, xs', gb, out_quiet (q2.mono (fun c qc H3 g4 s3 => ?_) fun _ z => z)⟩
    dsimp only at qc g4 ⊢
    cases hc : c.1 with
    | false =>
      rw [hc] at qc
      obtain ⟨o1, o2, o3, o4, o5⟩ := onw s3 g4.go
      exact ⟨ds, vd, c.2, o1, by omega, o2, o3, o4, o5, qc⟩
    | true =>
      rw [hc] at qc
      simp only [if_true] at qc
      rw [out_bind] at qc
      refine ⟨as[i], D, ds, c.2, g4, out_quiet (qc.mono (fun y qy v H4 g5 s4 r5 => ?_) fun _ z => z)⟩
      obtain ⟨o1, o2, o3, o4, o5⟩ := onw (s3.trans s4) g5.go
      have lenv : vd.length = ds.length := hr.length
      have e5 : less (upd H4 D (.lst (vd ++ [v]))) [D] = less H4 [D] := by
        funext a
        by_cases hz : a = D
        · subst hz; rw [less_in List.mem_cons_self, less_in List.mem_cons_self]
        · rw [less_one hz, less_one hz, upd_ne hz]
      refine ⟨vd, o1, by rw [lenv]; omega, ds ++ [y.1], vd ++ [v], y.2, upd_same, by rw [List.length_append, List.length_singleton]; omega, ?_, ?_, ?_, ?_, ?_⟩
      · rw [e5]; exact o2
      · rw [e5]
        exact reps_append o3 (.cons (Rep.mono rg_without r5) .nil)
      · rw [e5]; exact o4
      · rw [e5]; exact o5
      · rw [out_bind] at qy
        exact qy.mono (fun ys kk v H' g' s' r' => kk v H' g' s' (by rw [List.append_assoc] at r'; exact r')) fun _ z => z
  · rintro H ⟨ds, vd, xs', h1, _, gi, hr, hkb, _, q2⟩
    rw [List.drop_length] at q2
    have hDn : less H [D] D = none := less_in List.mem_cons_self
    have eHD : Same (less H [D]) H := less_same
    refine q2 (.ref D) H (gi.grow eHD) (fun a o z hp => ?_) ⟨D, vd, rfl, ?_, ?_⟩
    · have z1 := hkb a o z hp
      exact less_same a o z1
    · exact (less_out (gi.go.out hDn)).trans h1
    · rw [List.append_nil]
      exact hr.mono (rg_grow eHD)
where
  less_upd1 {H : Hp} {D : Addr} {o : HO} (h : H D = none) : less (upd H D o) [D] = H := by
    funext a
    by_cases hz : a = D
    · subst hz; rw [less_in List.mem_cons_self, h]
    · rw [less_one hz, upd_ne hz]
  filtE_noerr (P : α → ι → Res (Bool × ι)) (f : α → ι → Res (β × ι)) : ∀ (as : List α) (x : ι) (c : Str) (fs : List (Str × PyData)), filtE (fun a x => (P a x).quiet) (fun a x => (f a x).quiet) as x ≠ .err c fs
    | [], _, _, _, z => nomatch z
    | a :: as, x, c, fs, z => by
      rw [show filtE (fun a x => (P a x).quiet) (fun a x => (f a x).quiet) (a :: as) x = ((P a x).quiet).bind fun c => if c.1 then ((f a c.2).quiet).bind fun y => (filtE (fun a x => (P a x).quiet) (fun a x => (f a x).quiet) as y.2).bind fun ys => .ok (y.1 :: ys.1, ys.2) else filtE (fun a x => (P a x).quiet) (fun a x => (f a x).quiet) as c.2 from rfl] at z
      cases e : P a x with
      | err _ _ => rw [e] at z; cases z
      | bad => rw [e] at z; cases z
      | ok r =>
        rw [e] at z
        change (if r.1 = true then ((f a r.2).quiet).bind (fun y => (filtE (fun a x => (P a x).quiet) (fun a x => (f a x).quiet) as y.2).bind fun ys => .ok (y.1 :: ys.1, ys.2)) else filtE (fun a x => (P a x).quiet) (fun a x => (f a x).quiet) as r.2) = _ at z
        cases hc : r.1 with
        | false =>
          rw [hc, if_neg Bool.false_ne_true] at z
          exact filtE_noerr P f as r.2 c fs z
        | true =>
          rw [hc, if_pos rfl] at z
          cases e2 : f a r.2 with
          | err _ _ => rw [e2] at z; cases z
          | bad => rw [e2] at z; cases z
          | ok y =>
            rw [e2] at z
            change ((filtE (fun a x => (P a x).quiet) (fun a x => (f a x).quiet) as y.2).bind fun ys => .ok (y.1 :: ys.1, ys.2)) = _ at z
            cases e3 : filtE (fun a x => (P a x).quiet) (fun a x => (f a x).quiet) as y.2 with
            | ok ys => rw [e3] at z; cases z
            | err c' fs' => exact filtE_noerr P f as y.2 c' fs' e3
            | bad => rw [e3] at z; cases z
/-- [elt for tg in iter if ..], the test or the element changing the owned object -/
theorem e_lc {tg iter elt : Expr} {ifs : List Expr} {scope : Scope} {own : List (Str × Nat)} {pos : Pos} {g : TG} {bd : α → List (Option Asr) → List (Option Asr)} {m : Res (List α × ι)} {P : α → ι → Res (Bool × ι)} {f : α → ι → Res (β × ι)}
    (hc : X.calm = true) (hN : X.N.Nodup) (hi : PI X tg iter (tIE F L p xs O m)) (hb : BlkOk X.N X.env.scope scope own)
    (hok : TgOk F.K F.mg g (own.map (·.2)) bd) (ht : ∀ (s : Shared) (H : Hp) (C : Addr) (cl : List (Str × Addr)) (fp : List Addr), Tg (X.blk s H scope (compEnvC scope cl C X.env) fp) F.K F.mg tg g (own.map (·.2)) bd)
    (hp : ∀ (s : Shared) (H : Hp) (C : Addr) (cl : List (Str × Addr)) (fp : List Addr) (a : α) (D : Addr) (ds : List β) (xs' : ι), PTs (X.blk s H scope (compEnvC scope cl C X.env) fp) ifs (tEB F.nox (bd a (wipeL L (own.map (·.2)))) p xs' (ow F.K F.mg D ds :: O) (P a xs')))
    (he : ∀ (s : Shared) (H : Hp) (C : Addr) (cl : List (Str × Addr)) (fp : List Addr) (a : α) (D : Addr) (ds : List β) (xs' : ι), PE (X.blk s H scope (compEnvC scope cl C X.env) fp) elt (tE true F.nox (bd a (wipeL L (own.map (·.2)))) p xs' (ow F.K F.mg D ds :: O) (f a xs')))
    (hf : ∀ x, foldedSetIterable iter X.env x = pure x := by intro _; rfl) :
    PE X (.ListComp elt [{ target := tg, iter := iter, ifs := ifs, is_async := 0 }] scope pos) (tE true F L p xs O (m.bind fun r => need (r.1.length ≤ sizeLine) (filtE (fun a x => (P a x).quiet) (fun a x => (f a x).quiet) r.1 r.2))) := by
  refine pe_imp (pe_lc hc hN hi hb (fun s H C cl fp => (ht s H C cl fp).pg) (fun s H C cl fp => pts_ex fun a => pts_ex fun D => pts_ex fun ds => pts_ex fun xs' => hp s H C cl fp a D ds xs') (fun s H C cl fp => pe_ex fun a => pe_ex fun D => pe_ex fun ds => pe_ex fun xs' => he s H C cl fp a D ds xs') hf) fun σ H Q h => ?_
  exact comp_coreE _ _ rfl hok rfl rfl σ H Q h
end
end NF

set_option Elab.async false
set_option linter.all false
set_option maxRecDepth 100000
/-! Nf31: texts; loops that go on in their midst; a list of three as a state. -/
namespace NF
open PySem PySem.Spec PyProof.Rows L2
open Data (toD)
section
variable {X : Cx} {F : Fr} {L : List (Option Asr)} {O : List Own} {α β γ : Type} [Rep α] [Rep β] [Rep γ]
theorem n_lenS {e : Expr} {b1 b3 : Bool} {m : Res Str} {r} (h : PE X e (tCB r (tCons (tP b1 F L O m) tNil))) (er : r = fun xs H Q => ∃ z, xs = [V.str z] ∧ z.length ≤ sizeLine ∧ Q (.int z.length) H) : PE X e (tP b3 F L O (m.bind fun x => need (x.length ≤ sizeLine) (.ok (x.length : Int)))) := nc1 h fun x vx H σ Q g rx q => by
  subst er
  rw [out_need] at q
  cases rx
  exact ⟨x, rfl, q.1, kp_flat (α := Int) g q.2⟩
theorem n_idxS {x y : Expr} {b1 b2 b3 : Bool} {ma : Res Str} {mb : Res Int} {pos : Pos} (hx : PE X x (tP b1 F L O ma)) (hy : PE X y (tP b2 F L O mb)) (hp : PlainIx y := by exact fun _ _ => rfl) :
    PE X (.Subscript x y pos) (tP b3 F L O (ma.bind fun x => mb.bind fun y => idxS x y)) := nf2 (pe_ix ix_str hx hy hp) rr_idxS
/-! one sign in a text -/
def inS (x z : Str) : Res Bool := match x.cps.toList with
  | [c] => .ok (decide (c ∈ z.cps.toList))
  | _ => .bad
theorem one_sign {x : Str} {c : Nat} (h : x.cps.toList = [c]) : x = ⟨#[c]⟩ := by
  cases x with
  | mk a =>
    have : a.toList.toArray = [c].toArray := by rw [h]
    rw [Array.toArray_toList] at this
    rw [this]
theorem rr_inS {b1 b2 b3 : Bool} : RR F L O b1 b2 b3 (fun x y H Q => ∃ (c : Nat) (z : Str), x = .str ⟨#[c]⟩ ∧ y = .str z ∧ Q (.bl (decide (c ∈ z.cps.toList))) H) fun (x z : Str) => inS x z := fun x y vx vy H σ Q g rx ry q => by
  unfold inS at q
  dsimp only at q
  cases rx; cases ry
  split at q
  · next c h =>
    exact ⟨c, y, by rw [one_sign h], rfl, kp_flat (α := Bool) g q⟩
  · exact q.elim
theorem rr_ninS {b1 b2 b3 : Bool} : RR F L O b1 b2 b3 (fun x y H Q => ∃ (c : Nat) (z : Str), x = .str ⟨#[c]⟩ ∧ y = .str z ∧ Q (.bl (!decide (c ∈ z.cps.toList))) H) fun (x z : Str) => (inS x z).bind fun b => .ok (!b) := fun x y vx vy H σ Q g rx ry q => by
  unfold inS at q
  dsimp only at q
  cases rx; cases ry
  split at q
  · next c h =>
    exact ⟨c, y, by rw [one_sign h], rfl, kp_flat (α := Bool) g q⟩
  · exact q.elim
section
variable {x y : Expr} {b1 b2 b3 : Bool} {ma mb : Res Str} {pos : Pos} (hx : PE X x (tP b1 F L O ma)) (hy : PE X y (tP b2 F L O mb))
include hx hy
theorem n_inS (hm : behindInMarks CmpOp.In y = false := by rfl) : PE X (.Compare x [.In] [y] pos) (tP b3 F L O (ma.bind fun x => mb.bind fun y => inS x y)) := nf2 (pe_cmpR op_in_sign hx hy hm) rr_inS
theorem t_inS (hm : behindInMarks CmpOp.In y = false := by rfl) : PT X (.Compare x [.In] [y] pos) (tB' F L O (ma.bind fun x => mb.bind fun y => inS x y)) := nf2t (pt_cmpR op_in_sign hx hy hm) rr_inS
theorem n_ninS (hm : behindInMarks CmpOp.NotIn y = false := by rfl) : PE X (.Compare x [.NotIn] [y] pos) (tP b3 F L O (ma.bind fun x => mb.bind fun y => (inS x y).bind fun b => .ok (!b))) := nf2 (pe_cmpR op_notIn_sign hx hy hm) rr_ninS
theorem t_ninS (hm : behindInMarks CmpOp.NotIn y = false := by rfl) : PT X (.Compare x [.NotIn] [y] pos) (tB' F L O (ma.bind fun x => mb.bind fun y => (inS x y).bind fun b => .ok (!b))) := nf2t (pt_cmpR op_notIn_sign hx hy hm) rr_ninS
/-! == of texts -/
theorem n_eqS : PE X (.Compare x [.Eq] [y] pos) (tP b3 F L O (ma.bind fun x => mb.bind fun y => .ok (decide (x = y)))) := nf2 (pe_cmpR op_eq hx hy (nomark _)) fun x y vx vy H σ Q g rx ry q => by
  cases rx; cases ry
  exact ⟨rfl, by rw [show decide (V.str x = V.str y) = decide (x = y) by simp]; exact kp_flat (α := Bool) g q⟩
theorem t_eqS : PT X (.Compare x [.Eq] [y] pos) (tB' F L O (ma.bind fun x => mb.bind fun y => .ok (decide (x = y)))) := nf2t (pt_cmpR op_eq hx hy (nomark _)) fun x y vx vy H σ Q g rx ry q => by
  cases rx; cases ry
  exact ⟨rfl, by rw [show decide (V.str x = V.str y) = decide (x = y) by simp]; exact kp_flat (α := Bool) g q⟩
theorem n_neS : PE X (.Compare x [.NotEq] [y] pos) (tP b3 F L O (ma.bind fun x => mb.bind fun y => .ok (!decide (x = y)))) := nf2 (pe_cmpR op_ne hx hy (nomark _)) fun x y vx vy H σ Q g rx ry q => by
  cases rx; cases ry
  exact ⟨rfl, by rw [show decide (V.str x = V.str y) = decide (x = y) by simp]; exact kp_flat (α := Bool) g q⟩
theorem t_neS : PT X (.Compare x [.NotEq] [y] pos) (tB' F L O (ma.bind fun x => mb.bind fun y => .ok (!decide (x = y)))) := nf2t (pt_cmpR op_ne hx hy (nomark _)) fun x y vx vy H σ Q g rx ry q => by
  cases rx; cases ry
  exact ⟨rfl, by rw [show decide (V.str x = V.str y) = decide (x = y) by simp]; exact kp_flat (α := Bool) g q⟩
end
/-! a text in a list of texts -/
theorem inV_str (x : Str) : ∀ ys : List Str, inV (V.str x) (ys.map V.str) = decide (x ∈ ys)
  | [] => by simp [inV]
  | y :: ys => by
    have ih := inV_str x ys
    unfold inV at ih ⊢
    rw [List.map_cons, List.any_cons, ih]
    by_cases h : x = y
    · subst h
      simp [eqV, valV, scal]
    · have h2 : eqV (V.str y) (V.str x) = false := by
        simp [eqV]
        exact fun e => h e.symm
      rw [h2]
      simp [h]
theorem flat_strs : ∀ ys : List Str, (ys.map V.str).all flatV = true
  | [] => rfl
  | _ :: ys => by rw [List.map_cons, List.all_cons, flat_strs ys]; rfl
theorem rr_inL {b1 b2 b3 : Bool} (hK : X.K = F.K) : RR F L O b1 b2 b3 (rIn X.K false) fun (x : Str) (ys : List Str) => .ok (decide (x ∈ ys)) := fun x y vx vy H σ Q g rx ry q => by
  cases rx
  obtain ⟨p, vs, rfl, h2, h3⟩ := ry
  have e : vs = y.map V.str := reps_flat.mp h3
  subst e
  refine ⟨p, _, rfl, .inl (.of (rgn_sub _ _ h2)), rfl, flat_strs y, ?_⟩
  rw [if_neg Bool.false_ne_true, inV_str]
  exact kp_flat (α := Bool) g q
theorem t_inL {x y : Expr} {b1 b2 : Bool} {ma : Res Str} {mb : Res (List Str)} {pos : Pos} (hx : PE X x (tP b1 F L O ma)) (hy : PE X y (tP b2 F L O mb)) (hm : behindInMarks CmpOp.In y = false := by rfl) (hK : X.K = F.K := by rfl) : PT X (.Compare x [.In] [y] pos) (tB' F L O (ma.bind fun x => mb.bind fun y => .ok (decide (x ∈ y)))) := nf2t (pt_cmpR op_in_seq hx hy hm) (rr_inL hK)
/-! slices, find -/
theorem n_sliceS {x : Expr} {b b3 : Bool} {ma : Res Str} {lo hi : Option Expr} {ml mh : Res (Option Int)} {p1 p2 : Pos} (hx : PE X x (tP b F L O ma)) (hl : PO X lo (tO F L O ml)) (hh : PO X hi (tO F L O mh)) :
    PE X (.Subscript x (.Slice lo hi none p2) p1) (tP b3 F L O (ma.bind fun x => ml.bind fun l => mh.bind fun h => need (x.length ≤ sizeLine) (.ok (cutS x l h)))) := pe_imp (pe_slice sl_str hx hl hh) fun σ H Q ⟨g, q⟩ => by
  rw [out_bind] at q
  refine ⟨g, q.mono (fun x qx v1 H1 g1 s1 r1 => ?_) fun _ z => z⟩
  rw [out_bind] at qx
  refine ⟨g1, qx.mono (fun l ql H2 g2 s2 => ?_) fun H' ⟨a, b⟩ => ⟨a, s1.trans b⟩⟩
  rw [out_bind] at ql
  refine ⟨g2, ql.mono (fun h qh H3 g3 s3 => ?_) fun H' ⟨a, b⟩ => ⟨a, (s1.trans s2).trans b⟩⟩
  rw [out_need] at qh
  cases r1
  exact ⟨x, rfl, qh.1, qh.2 _ H3 g3 ((s1.trans s2).trans s3) rfl⟩
theorem n_find3 {x y z : Expr} {b1 b2 b3 b4 : Bool} {ma mb : Res Str} {mc : Res Int} {apos cpos : Pos} (hx : PE X x (tP b1 F L O ma)) (hy : PE X y (tP b2 F L O mb)) (hz : PE X z (tP b3 F L O mc))
    (h : ∀ {to : TE} {t : TA}, PE X x to → PA X [y, z] t → PE X (.Call (.Attribute x "find" apos) [y, z] [] cpos) (tBM X.K "str" (fun x xs H Q => ∃ (a b : Str) (i : Int), x = .str a ∧ xs = [.str b, .int i] ∧ Q (.int (Txt.find3 a b i)) H) to t))
    (h1 : starEach [y, z] X.env = (false, eval y X.env) :: starEach [z] X.env := by rfl) (h2 : starEach [z] X.env = (false, eval z X.env) :: starEach [] X.env := by rfl) :
    PE X (.Call (.Attribute x "find" apos) [y, z] [] cpos) (tP b4 F L O (ma.bind fun x => mb.bind fun y => mc.bind fun i => .ok (Txt.find3 x y i))) := pe_imp (h hx (pa_cons hy (pa_cons hz pa_nil h2) h1)) fun σ H Q ⟨g, q⟩ => by
  rw [out_bind] at q
  refine ⟨g, q.mono (fun x qx v1 H1 g1 s1 r1 => ?_) fun _ z => z⟩
  rw [out_bind] at qx
  cases r1
  refine ⟨rfl, g1, qx.mono (fun y qy v2 H2 g2 s2 r2 => ?_) fun H' ⟨a, b⟩ => ⟨a, s1.trans b⟩⟩
  rw [out_bind] at qy
  refine ⟨g2, qy.mono (fun i qi v3 H3 g3 s3 r3 => ?_) fun H' ⟨a, b⟩ => ⟨a, (s1.trans s2).trans b⟩⟩
  cases r2; cases r3
  exact ⟨x, y, i, rfl, rfl, qi _ H3 g3 ((s1.trans s2).trans s3) rfl⟩
/-! s * n -/
def CMulS (a : Str) (n : Int) : Prop := 0 ≤ n ∧ n ≤ 1000 ∧ a.length ≤ 1000
instance (a : Str) (n : Int) : Decidable (CMulS a n) := by unfold CMulS; infer_instance
theorem op_repS : OpR X (binaryOp .Mult) (fun x y H Q => ∃ a n, x = .str a ∧ y = .int n ∧ CMulS a n ∧ Q (.str (Txt.mul a n)) H) := by
  intro pins s σ H x y v u Q I rx ry h
  obtain ⟨a, n, rfl, rfl, ⟨c1, c2, c3⟩, q⟩ := h
  obtain ⟨t, rfl⟩ := rx
  obtain ⟨t', rfl⟩ := ry
  refine SB.mul ⟨?_, fun h1 _ => ?_, fun h1 _ => ?_⟩ fun t' k => ⟨.str (Txt.mul a n), H, I.tok _, ⟨_, rfl⟩, q⟩
  · simp; omega
  · have : (9000000000000000 : Int) ≤ (2 ^ 63 - 1) / n := by
      apply Int.le_ediv_of_mul_le (by omega)
      have : 9000000000000000 * n ≤ 9000000000000000 * 1000 := Int.mul_le_mul_of_nonneg_left c2 (by omega)
      omega
    omega
  · have hb : a.length * n.toNat ≤ 1000 * 1000 := Nat.mul_le_mul c3 (by omega)
    unfold Builtin.Str.tooLong
    rw [sizeLine_eq]
    simp
    omega
theorem rr_repS {b1 b2 b3 : Bool} : RR F L O b1 b2 b3 (fun x y H Q => ∃ a n, x = .str a ∧ y = .int n ∧ CMulS a n ∧ Q (.str (Txt.mul a n)) H) fun (x : Str) (n : Int) => need (CMulS x n) (.ok (Txt.mul x n)) := fun x y vx vy H σ Q g rx ry q => by
  rw [out_need] at q
  cases rx; cases ry
  exact ⟨x, y, rfl, rfl, q.1, kp_flat (α := Str) g q.2⟩
theorem n_repS {x y : Expr} {b1 b2 b3 : Bool} {ma : Res Str} {mb : Res Int} {pos : Pos} (hx : PE X x (tP b1 F L O ma)) (hy : PE X y (tP b2 F L O mb)) : PE X (.BinOp x .Mult y pos) (tP b3 F L O (ma.bind fun x => mb.bind fun n => need (CMulS x n) (.ok (Txt.mul x n)))) := nf2 (pe_op op_repS hx hy) rr_repS
/-! a walk over a text -/
def txChars (z : Str) : List Str := z.cps.toList.map fun c => ⟨#[c]⟩
def srcS {K : Fg} {mg : MG} {z : Str} : Src K mg (Its z) (txChars z) where
  src H := True
  mono e h := h
  Y := fun i H v H' => H' = H ∧ ∃ c, z.cps[i]? = some c ∧ v = .str ⟨#[c]⟩
  walk := by
    have : (txChars z).length = z.cps.size := by unfold txChars; rw [List.length_map, Array.length_toList]
    rw [this]; exact walk_str
  ylds i H x H' y := by
    obtain ⟨rfl, c, hc, rfl⟩ := y
    refine ⟨Same.refl _, fun Av _ h a ha => ?_⟩
    unfold txChars at ha
    rw [List.getElem?_map, Array.getElem?_toList, hc] at ha
    cases ha
    rfl
theorem i_str {tg e : Expr} {b b' : Bool} {m : Res Str} (h : PE X e (tP b F L O m)) : PI X tg e (tI b' F L O (m.bind fun z => .ok (txChars z))) := pi_imp (pi_str h) fun σ H R ⟨g, q⟩ => by
  rw [out_bind] at q
  refine ⟨g, q.mono (fun x k v H1 g1 s1 r1 => ?_) fun _ z => z⟩
  cases r1
  exact ⟨x, rfl, k _ H1 srcS g1 s1 trivial⟩
/-! a tuple of texts of the module -/
structure GlobT (K : Fg) (mg : MG) (x : Str) (ss : List Str) : Prop where
  ex : ∃ a, mg x = some (.ref a) ∧ ∃ (o : PySem.Obj) (its : Array Value) (n : Nat), K.lookup a = some o ∧ o.cls = .type "tuple" ∧ o.data = .seq its n ∧ its.size ≤ sizeLine ∧ Vals (ss.map V.str) its.toList
theorem n_globT {b : Bool} {x : Str} {ss : List Str} {pos : Pos} (h : GlobT X.K X.mg x ss) (hg : Gl X x := by rfl) (hd : (x == ("__debug__" : Str)) = false := by decide) (hK : X.K = F.K := by rfl) : PE X (.Name x pos) (tP b F L O (.ok (Tp.mk ss))) := by
  obtain ⟨a, hm, o, its, n, h1, h2, h3, h4, h5⟩ := h.ex
  refine pe_imp (pe_glob (v := .ref a) hg hm rfl hd) fun σ H Q ⟨g, q⟩ => ?_
  exact q _ H g (Same.refl _) ⟨a, ss.map V.str, rfl, .inr ⟨o, its, n, by rw [← hK]; exact h1, h2, h3, h4, h5⟩, reps_flat.mpr rfl⟩
end
/-! ### what changes the owned object -/
section
variable {X : Cx} {F : Fr} {L : List (Option Asr)} {p : Addr} {O : List Own} {α β γ s ι : Type} [Rep α] [Rep β] [Rep γ] [Rep s] [OwR ι] {xs : ι}
theorem e_repS {x y : Expr} {b1 b2 b3 : Bool} {ma : Res (Str × ι)} {mb : ι → Res (Int × ι)} {pos : Pos} (hx : PE X x (tE b1 F L p xs O ma)) (hy : ∀ xs', PE X y (tE b2 F L p xs' O (mb xs'))) (hO : ∀ xs' : ι, List.Sublist F.O0 (ow F.K F.mg p xs' :: O)) :
    PE X (.BinOp x .Mult y pos) (tE b3 F L p xs O (ma.bind fun u => (mb u.2).bind fun w => (need (CMulS u.1 w.1) (.ok (Txt.mul u.1 w.1))).bind fun z => .ok (z, w.2))) := ne2 (mc := fun (x : Str) (n : Int) => need (CMulS x n) (.ok (Txt.mul x n))) (pe_op op_repS) hx hy (fun _ => rr_repS) hO
/-- ''.join(texts) -/
theorem e_join {o e : Expr} {b : Bool} {a : Str} {m : Res (List Str × ι)} {apos pos : Pos} (ho : PE X o (tP b F L (ow F.K F.mg p xs :: O) (.ok a))) (he : PE X e (tE true F L p xs O m)) (hK : X.K = F.K := by rfl) (hs : starEach [e] X.env = [(false, eval e X.env)] := by rfl) (hbase : attributeBase o "join" X.env (eval o X.env) = eval o X.env := by rfl) (hline : (apos.endLine == pos.line) = true := by rfl) :
    PE X (.Call (.Attribute o "join" apos) [e] [] pos) (tE true F L p xs O (m.bind fun u => need ((u.1.map (·.length)).sum + u.1.length * a.length ≤ 16777216) (.ok (Txt.join a u.1, u.2)))) := pe_imp (pe_join ho he hs hbase hline) fun σ H Q ⟨g, q⟩ => by
  refine ⟨g, fun v1 H1 g1 s1 r1 => ?_⟩
  have r1' : v1 = V.str a := r1
  subst r1'
  rw [out_bind] at q
  refine ⟨⟨a, rfl⟩, g1, q.mono (fun u k v H2 g2 s2 r2 => ?_) fun _ z => z⟩
  rw [out_need] at k
  obtain ⟨q', vs, rfl, h2, h3⟩ := r2
  have e : vs = u.1.map V.str := reps_flat.mp h3
  subst e
  rw [hK]
  exact ⟨a, q', u.1, rfl, rfl, .inl (.of (less_same _ _ h2)), k.1, k.2 _ H2 g2 ((KeepBut.of s1).trans s2) rfl⟩
/-! ### a list of two ints and a list of ints -/
end
structure P3 where
  a : Int
  b : Int
  cs : List Int
instance : OwR P3 := ⟨fun K mg H o x => ∃ q vs, o = .lst [.int x.a, .int x.b, .ref q] ∧ H q = some (.lst vs) ∧ Reps K mg H vs x.cs, fun e ⟨q, vs, h1, h2, h3⟩ => ⟨q, vs, h1, e _ _ h2, h3.mono e⟩⟩
section
variable {X : Cx} {F : Fr} {L : List (Option Asr)} {p : Addr} {O : List Own} {x : P3}
theorem p3_head {O : List Own} {σ : L2.St} {H : Hp} (g : G F L O σ H) (hO : ow F.K F.mg p x ∈ O) : ∃ q vs, H p = some (.lst [.int x.a, .int x.b, .ref q]) ∧ rg F O H q = some (.lst vs) ∧ Reps F.K F.mg (rg F O H) vs x.cs := by
  obtain ⟨o, h3, q, vs, h4, h5, h6⟩ := g.go.objs _ hO
  subst h4
  exact ⟨q, vs, h3, h5, h6⟩
section
variable {n : Str} {pos pos' p3 : Pos} {j : Nat} (i : Nat) (hL : L[i]? = some (rf p)) (hO : ow F.K F.mg p x ∈ O) (hN : X.N[i]? = some n := by rfl) (hv : Vis X.env.scope n := by first | exact Or.inl rfl | exact Or.inr (Or.inl rfl) | exact Or.inr (Or.inr rfl)) (hd : (n == ("__debug__" : Str)) = false := by decide)
    (hcd : (n == ("__classdict__" : Str)) = false := by decide) (hK : X.K = F.K := by rfl)
include hL hO hN hv hd hcd hK
theorem n_p3a {b : Bool} (hp : PlainIx (.Constant (.int 0) j p3) := by exact fun _ _ => rfl) : PE X (.Subscript (.Name n pos) (.Constant (.int 0) j p3) pos') (tP b F L O (.ok x.a)) := pe_imp (pe_ix ix_list (pe_var hN hv hd hcd) pe_int hp) fun σ H Q ⟨g, q⟩ => by
  obtain ⟨v, h1, h2⟩ := g.slot hL
  obtain ⟨q', vs, h3, _, _⟩ := p3_head g hO
  exact ⟨v, h1, p, _, 0, _, h2, rfl, by rw [hK]; exact .of h3, rfl, q _ H g (Same.refl _) rfl⟩
theorem n_p3b {b : Bool} (hp : PlainIx (.Constant (.int 1) j p3) := by exact fun _ _ => rfl) : PE X (.Subscript (.Name n pos) (.Constant (.int 1) j p3) pos') (tP b F L O (.ok x.b)) := pe_imp (pe_ix ix_list (pe_var hN hv hd hcd) pe_int hp) fun σ H Q ⟨g, q⟩ => by
  obtain ⟨v, h1, h2⟩ := g.slot hL
  obtain ⟨q', vs, h3, _, _⟩ := p3_head g hO
  exact ⟨v, h1, p, _, 1, _, h2, rfl, by rw [hK]; exact .of h3, rfl, q _ H g (Same.refl _) rfl⟩
theorem n_p3c (hp : PlainIx (.Constant (.int 2) j p3) := by exact fun _ _ => rfl) : PE X (.Subscript (.Name n pos) (.Constant (.int 2) j p3) pos') (tP true F L O (.ok x.cs)) := pe_imp (pe_ix ix_list (pe_var hN hv hd hcd) pe_int hp) fun σ H Q ⟨g, q⟩ => by
  obtain ⟨v, h1, h2⟩ := g.slot hL
  obtain ⟨q', vs, h3, h4, h5⟩ := p3_head g hO
  exact ⟨v, h1, p, _, 2, _, h2, rfl, by rw [hK]; exact .of h3, rfl, q _ H g (Same.refl _) ⟨q', vs, rfl, h4, h5⟩⟩
end
/-- the object at p becomes another one of its kind -/
theorem g_updO {ι : Type} [OwR ι] {xs xs' : ι} {o : HO} {σ : L2.St} {H : Hp} (g : G F L (ow F.K F.mg p xs :: O) σ H) (r : OwR.P F.K F.mg (rg F (ow F.K F.mg p xs :: O) H) o xs') :
    G F L (ow F.K F.mg p xs' :: O) σ (upd H p o) := by
  have hp : p ∈ addrs (ow F.K F.mg p xs :: O) ++ F.A := List.mem_append_left _ List.mem_cons_self
  have er : Same (rg F (ow F.K F.mg p xs :: O) H) (rg F (ow F.K F.mg p xs' :: O) (upd H p o)) := fun a o' z => by
    unfold rg at z ⊢
    by_cases hb : a ∈ addrs (ow F.K F.mg p xs :: O) ++ F.A
    · rw [less_in hb] at z; cases z
    · rw [less_out hb] at z
      rw [less_out (show a ∉ addrs (ow F.K F.mg p xs' :: O) ++ F.A from hb), upd_ne (fun y => hb (by rw [y]; exact hp))]
      exact z
  have nd := List.nodup_cons.mp (show (p :: addrs O).Nodup from g.go.nd)
  refine ⟨L2.Paired.mapP g.slots fun _ _ q => q.mono er, ?_⟩
  exact {
    objs := fun w hw => by
      rcases List.mem_cons.mp hw with rfl | hw
      · exact ⟨_, upd_same, OwR.mono er r⟩
      · obtain ⟨o', ho, q⟩ := g.go.objs w (List.mem_cons_of_mem _ hw)
        have hne : w.a ≠ p := fun y => nd.1 (by rw [← y]; exact List.mem_map.mpr ⟨w, hw, rfl⟩)
        exact ⟨o', by rw [upd_ne hne]; exact ho, w.mono er q⟩
    nd := g.go.nd
    own := fun w hw => by
      rcases List.mem_cons.mp hw with rfl | hw
      · exact g.go.own (ow F.K F.mg p xs) List.mem_cons_self
      · exact g.go.own w (List.mem_cons_of_mem _ hw)
    keep := fun a o' h hw => by
      have hne : a ≠ p := fun y => by
        subst y
        rcases g.go.own _ List.mem_cons_self with z | z
        · exact hw z
        · have z' : F.H0 a = none := z
          rw [z'] at h; cases h
      rw [upd_ne hne]
      exact g.go.keep a o' h hw
    live := fun a h => by
      by_cases hne : a = p
      · subst hne; rw [upd_same]; simp
      · rw [upd_ne hne]; exact g.go.live a h
    hid := g.go.hid
    apart := fun w hw => by
      rcases List.mem_cons.mp hw with rfl | hw
      · exact g.go.apart (ow F.K F.mg p xs) List.mem_cons_self
      · exact g.go.apart w (List.mem_cons_of_mem _ hw)
    facts := fun z hz => z.mono er (g.go.facts z hz) }
section
variable {n : Str} {e : Expr} {pos pos1 pos2 p3 : Pos} {j : Nat} (i : Nat) {b : Bool} {m : Res Int} (hL : L[i]? = some (rf p)) (hO : List.Sublist F.O0 (ow F.K F.mg p x :: O)) (he : PE X e (tP b F L (ow F.K F.mg p x :: O) m))
    (hN : X.N[i]? = some n := by rfl) (hv : Vis X.env.scope n := by first | exact Or.inl rfl | exact Or.inr (Or.inl rfl) | exact Or.inr (Or.inr rfl)) (hd : (n == ("__debug__" : Str)) = false := by decide) (hcd : (n == ("__classdict__" : Str)) = false := by decide)
include hL hO he hN hv hd hcd
theorem s_p3a (ha : ∀ v, assign (.Subscript (.Name n pos1) (.Constant (.int 0) j p3) pos2) X.env v = (do
      let ov ← holding [v] (eval (.Name n pos1) X.env)
      let iv ← holding [v, ov] (eval (.Constant (.int 0) j p3) X.env)
      standAt pos2
      holding [v, ov, iv] (setItem ov iv v)
      release [v, ov, iv] []) := by intro _; rfl) (h1 : swapsWithSole [.Subscript (.Name n pos1) (.Constant (.int 0) j p3) pos2] e pos.line X.env = pure false := by rfl) (h2 : swappedStores [.Subscript (.Name n pos1) (.Constant (.int 0) j p3) pos2] e X.env = pure none := by rfl)
    (h3 : (assignEach [.Subscript (.Name n pos1) (.Constant (.int 0) j p3) pos2] X.env).map (·.2) = [assign (.Subscript (.Name n pos1) (.Constant (.int 0) j p3) pos2) X.env] := by rfl) :
    PS X (.Assign [.Subscript (.Name n pos1) (.Constant (.int 0) j p3) pos2] e pos) (tN F L (ow F.K F.mg p x :: O) m (fun _ => L) (fun v => ow F.K F.mg p ({ x with a := v } : P3) :: O)) := ps_imp (ps_asg he (pg_sub (pe_var hN hv hd hcd) pe_int set_list ha) h1 h2 h3) fun D σ H ⟨g, q⟩ => by
  refine ⟨g, q.mono (fun r k v H1 g1 s1 r1 => ?_) fun H' ⟨a, _⟩ => a.go.sub hO⟩
  obtain ⟨w, h4, h5⟩ := g1.slot hL
  obtain ⟨q', vs, h6, h7, h8⟩ := p3_head g1 List.mem_cons_self
  have r1' : v = V.int r := Flat.iff.mp r1
  subst r1'
  refine ⟨w, h4, p, _, 0, 0, h5, rfl, h6, rfl, ?_⟩
  exact k σ _ (g_updO g1 ⟨q', vs, rfl, h7, h8⟩)
theorem s_p3b (ha : ∀ v, assign (.Subscript (.Name n pos1) (.Constant (.int 1) j p3) pos2) X.env v = (do
      let ov ← holding [v] (eval (.Name n pos1) X.env)
      let iv ← holding [v, ov] (eval (.Constant (.int 1) j p3) X.env)
      standAt pos2
      holding [v, ov, iv] (setItem ov iv v)
      release [v, ov, iv] []) := by intro _; rfl) (h1 : swapsWithSole [.Subscript (.Name n pos1) (.Constant (.int 1) j p3) pos2] e pos.line X.env = pure false := by rfl) (h2 : swappedStores [.Subscript (.Name n pos1) (.Constant (.int 1) j p3) pos2] e X.env = pure none := by rfl)
    (h3 : (assignEach [.Subscript (.Name n pos1) (.Constant (.int 1) j p3) pos2] X.env).map (·.2) = [assign (.Subscript (.Name n pos1) (.Constant (.int 1) j p3) pos2) X.env] := by rfl) :
    PS X (.Assign [.Subscript (.Name n pos1) (.Constant (.int 1) j p3) pos2] e pos) (tN F L (ow F.K F.mg p x :: O) m (fun _ => L) (fun v => ow F.K F.mg p ({ x with b := v } : P3) :: O)) := ps_imp (ps_asg he (pg_sub (pe_var hN hv hd hcd) pe_int set_list ha) h1 h2 h3) fun D σ H ⟨g, q⟩ => by
  refine ⟨g, q.mono (fun r k v H1 g1 s1 r1 => ?_) fun H' ⟨a, _⟩ => a.go.sub hO⟩
  obtain ⟨w, h4, h5⟩ := g1.slot hL
  obtain ⟨q', vs, h6, h7, h8⟩ := p3_head g1 List.mem_cons_self
  have r1' : v = V.int r := Flat.iff.mp r1
  subst r1'
  refine ⟨w, h4, p, _, 1, 1, h5, rfl, h6, rfl, ?_⟩
  exact k σ _ (g_updO g1 ⟨q', vs, rfl, h7, h8⟩)
end
/-- x = [i, j, list], owned -/
theorem s_ownP3 {y : Str} {e0 e1 e2 : Expr} {pos pos' lp : Pos} (i : Nat) {m0 m1 : Res Int} {m2 : Res (List Int)} {b0 b1 : Bool} (hN : X.N.Nodup) (hO : List.Sublist F.O0 O) (h0 : PE X e0 (tP b0 F L O m0)) (h1 : PE X e1 (tP b1 F L O m1)) (h2 : PE X e2 (tP true F L O m2)) (hi : X.N[i]? = some y := by rfl) (hx : L2.Loc X.env.scope y := by first | exact .inl rfl | exact .inr rfl) (hs : swapsWith (.List [e0, e1, e2] lp) (some (.Name y pos')) pos.line X.env = pure false := by rfl) (hf : X.fn y = true ∨ X.env.scope.names.lookup y = some .local := by first | exact .inl rfl | exact .inr rfl)
    (hs0 : starEach [e0, e1, e2] X.env = (false, eval e0 X.env) :: starEach [e1, e2] X.env := by rfl) (hs1 : starEach [e1, e2] X.env = (false, eval e1 X.env) :: starEach [e2] X.env := by rfl) (hs2 : starEach [e2] X.env = (false, eval e2 X.env) :: starEach [] X.env := by rfl) :
    PS X (.Assign [.Name y pos'] (.List [e0, e1, e2] lp) pos) (tNp F L O (m0.bind fun a => m1.bind fun b => m2.bind fun cs => .ok (P3.mk a b cs)) (fun p _ => L.set i (rf p)) (fun p x => ow F.K F.mg p x :: O)) := ps_imp (ps_set (i := i) hN hi hx (pe_lst (pa_cons h0 (pa_cons h1 (pa_cons h2 pa_nil hs2) hs1) hs0)) hs hf) fun D σ H ⟨g, q⟩ => by
  rw [out_bind] at q
  refine ⟨g, q.mono (fun a qa v0 H1 g1 s1 r0 => ?_) fun H' ⟨a, _⟩ => a.go.sub hO⟩
  rw [out_bind] at qa
  refine ⟨g1, qa.mono (fun b qb v1 H2 g2 s2 r1 => ?_) fun H' ⟨a, _⟩ => a.go.sub hO⟩
  rw [out_bind] at qb
  refine ⟨g2, qb.mono (fun cs k v2 H3 g3 s3 r2 => ?_) fun H' ⟨a, _⟩ => a.go.sub hO⟩
  have r0' : v0 = V.int a := Flat.iff.mp r0
  have r1' : v1 = V.int b := Flat.iff.mp r1
  subst r0' r1'
  obtain ⟨q', vs, rfl, h4, h5⟩ := r2
  refine ⟨by show 3 ≤ sizeLine; decide, fun p hp => ?_⟩
  refine k p _ _ ⟨set_ok (p := rf p) rfl i (L2.Paired.mapP g3.slots fun _ _ z => z.mono (rg_new rfl (same_upd hp) hp)), ?_⟩
  have er : Same (rg F O H3) (rg F (ow F.K F.mg p (P3.mk a b cs) :: O) (upd H3 p (.lst [.int a, .int b, .ref q']))) := rg_new rfl (same_upd hp) hp
  have gg := g3.go.grow (same_upd (o := .lst [.int a, .int b, .ref q']) hp)
  exact {
    objs := fun w hw => by
      rcases List.mem_cons.mp hw with rfl | hw
      · exact ⟨_, upd_same, q', vs, rfl, er _ _ h4, h5.mono er⟩
      · obtain ⟨o, ho, hp'⟩ := g3.go.objs w hw
        exact ⟨o, same_upd hp _ _ ho, w.mono er hp'⟩
    nd := List.nodup_cons.mpr ⟨fun z => g3.go.out hp (List.mem_append_left _ z), gg.nd⟩
    own := fun w hw => by
      rcases List.mem_cons.mp hw with rfl | hw
      · refine .inr ?_
        cases q : F.H0 p with
        | none => exact q
        | some o => exact (g3.go.live p (by rw [q]; simp) hp).elim
      · exact gg.own w hw
    keep := gg.keep
    live := gg.live
    hid := gg.hid
    apart := fun w hw => by
      rcases List.mem_cons.mp hw with rfl | hw
      · exact fun z => g3.go.out hp (List.mem_append_right _ z)
      · exact gg.apart w hw
    facts := fun z hz => z.mono er (g3.go.facts z hz) }
end
end NF

set_option Elab.async false
set_option linter.all false
set_option maxRecDepth 100000
/-! Nf32: continue; ifs at a loop's end; returns of owned lists in pairs; a pair with a new list. -/
namespace NF
open PySem PySem.Spec PyProof.Rows L2
open Data (toD)
section
variable {X : Cx} {F : Fr} {L : List (Option Asr)} {O : List Own} {B B' D' : Type} {st : Stmt} {rest : List Stmt} {Ret : D' → V → Hp → Prop} {L' : B → List (Option Asr)} {O' : B → List Own} {L2' : B' → List (Option Asr)} {O2' : B' → List Own}
/-- a loop's body: goes on at its end or by continue -/
def tC {β : Type} (F : Fr) (L : List (Option Asr)) (O : List Own) (m : Res β) (L' : β → List (Option Asr)) (O' : β → List Own) : TS := fun D σ H =>
  G F L O σ H ∧ Out F m (fun b => ∀ σ' H', G F (L' b) (O' b) σ' H' → D.nx σ' H' ∧ D.ct σ' H') (XPS F)
/-- ends with continue -/
def tQ {β : Type} (F : Fr) (L : List (Option Asr)) (O : List Own) (m : Res β) (L' : β → List (Option Asr)) (O' : β → List Own) : TS := fun D σ H =>
  G F L O σ H ∧ Out F m (fun b => ∀ σ' H', G F (L' b) (O' b) σ' H' → D.ct σ' H') (XPS F)
theorem c_end (b : B) (h : wk L (L' b)) (ho : List.Sublist (O' b) O) : PSs X [] (tC F L O (.ok b) L' O') := pss_imp pss_nil fun D σ H ⟨g, q⟩ => (q σ H (g.to h ho)).1
theorem q_end {pos : Pos} (b : B) (h : wk L (L' b)) (ho : List.Sublist (O' b) O) : PSs X [.Continue pos] (tQ F L O (.ok b) L' O') := pss_one (ps_imp ps_continue fun D σ H ⟨g, q⟩ => q σ H (g.to h ho))
theorem c_N {m1 : Res B} {m2 : B → Res B'} (h1 : PS X st (tN F L O m1 L' O')) (h2 : ∀ b, PSs X rest (tC F (L' b) (O' b) (m2 b) L2' O2')) : PSs X (st :: rest) (tC F L O (m1.bind m2) L2' O2') := pss_imp (pss_cons h1 (pss_ex h2)) fun D σ H ⟨g, q⟩ => by
  rw [out_bind] at q
  exact ⟨g, q.mono (fun b k σ' H' g' => ⟨b, g', k⟩) fun _ z => z⟩
theorem q_N {m1 : Res B} {m2 : B → Res B'} (h1 : PS X st (tN F L O m1 L' O')) (h2 : ∀ b, PSs X rest (tQ F (L' b) (O' b) (m2 b) L2' O2')) : PSs X (st :: rest) (tQ F L O (m1.bind m2) L2' O2') := pss_imp (pss_cons h1 (pss_ex h2)) fun D σ H ⟨g, q⟩ => by
  rw [out_bind] at q
  exact ⟨g, q.mono (fun b k σ' H' g' => ⟨b, g', k⟩) fun _ z => z⟩
theorem c_perm {m : Res B} {O2 : List Own} (h : O.Perm O2) (hs : PSs X rest (tC F L O2 m L' O')) : PSs X rest (tC F L O m L' O') := pss_imp hs fun D σ H ⟨g, q⟩ => ⟨g.perm h, q⟩
theorem q_perm {m : Res B} {O2 : List Own} (h : O.Perm O2) (hs : PSs X rest (tQ F L O2 m L' O')) : PSs X rest (tQ F L O m L' O') := pss_imp hs fun D σ H ⟨g, q⟩ => ⟨g.perm h, q⟩
section
variable {c : Expr} {mc : Res Bool} {body orelse : List Stmt} {pos : Pos}
/-- if c: .. continue -/
theorem c_ifQ {m1 m2 : Res B} (hc : PT X c (tB' F L O mc)) (hb : PSs X body (tQ F L O m1 L' O')) (hr : PSs X rest (tC F L O m2 L' O')) (hO : List.Sublist F.O0 O) : PSs X (.If c body [] pos :: rest) (tC F L O (mc.bind fun c => if c then m1 else m2) L' O') := pss_imp (pss_cons (ps_if hc hb pss_nil) hr) fun D σ H ⟨g, q⟩ => by
  rw [out_bind] at q
  refine ⟨g, q.mono (fun c k H1 g1 s1 => ?_) fun H' ⟨a, _⟩ => a.go.sub hO⟩
  cases c with
  | true => exact ⟨g1, Out.mono k (fun b kb σ' H' g' => (kb σ' H' g').2) fun _ z => z⟩
  | false => exact ⟨g1, k⟩
/-- if c: raise .. -/
theorem c_ifE {x : Str} {fs : List (Str × PyData)} {m2 : Res B} (hc : PT X c (tB' F L O mc)) (hb : PSs X body (tT F L O (Res.err x fs : Res D') Ret)) (hr : PSs X rest (tC F L O m2 L' O')) (hO : List.Sublist F.O0 O) : PSs X (.If c body [] pos :: rest) (tC F L O (mc.bind fun c => if c then Res.err x fs else m2) L' O') := pss_imp (pss_cons (ps_if hc hb pss_nil) hr) fun D σ H ⟨g, q⟩ => by
  rw [out_bind] at q
  refine ⟨g, q.mono (fun c k H1 g1 s1 => ?_) fun H' ⟨a, _⟩ => a.go.sub hO⟩
  cases c with
  | true => exact ⟨g1, k⟩
  | false => exact ⟨g1, k⟩
/-- the last if of a block that goes on or hands back -/
theorem m_ife {m1 m2 : Res (Sum B D')} (hc : PT X c (tB' F L O mc)) (hb : PSs X body (tM F L O m1 L' O' Ret)) (hr : PSs X orelse (tM F L O m2 L' O' Ret)) (hO : List.Sublist F.O0 O) : PSs X [.If c body orelse pos] (tM F L O (mc.bind fun c => if c then m1 else m2) L' O' Ret) := pss_one (ps_imp (ps_if hc hb hr) fun D σ H ⟨g, q⟩ => by
  rw [out_bind] at q
  refine ⟨g, q.mono (fun c k H1 g1 s1 => ?_) fun H' ⟨a, _⟩ => a.go.sub hO⟩
  cases c with
  | true => exact ⟨g1, k⟩
  | false => exact ⟨g1, k⟩)
end
theorem b_bad {ss : List Stmt} : PSs X ss (tT F L O (.bad : Res D') Ret) := ⟨fun pins s σ H D I q => q.2.elim⟩
theorem s_whileC {c : Expr} {mc : B → Res Bool} {f : B → Res B} {body : List Stmt} {pos : Pos} {b0 : B} (sp : Sp3 L' O' b0)
    (hp : PassesOwn (model X.prog X.w) X.A X.env X.xe) (hc : ∀ b, PT X c (tB' F (L' b) (O' b) (mc b))) (hO : ∀ b, List.Sublist F.O0 (O' b)) (hw : wk L (L' b0)) (ho : List.Sublist (O' b0) O)
    (hb : ∀ b, PSs X body (tC F (L' b) (O' b) (f b) L' O')) : PS X (.While c body [] pos) (tN F L O (whileW mc f b0) L' O') := by
  have hc' : PT X c (fun σ H Q => ∃ b, tB' F (L' b) (O' b) (mc b) σ H Q) := ⟨fun pins s σ H Q I ⟨b, q⟩ => (hc b).run pins s σ H Q I q⟩
  have hb' : PSs X body (fun D σ H => ∃ b, tC F (L' b) (O' b) (f b) L' O' D σ H) := pss_ex hb
  refine ps_imp (ps_while hp hc' hb') fun D σ H ⟨g0, q⟩ => ?_
  obtain ⟨n, hn⟩ := whileW_n mc f b0
  rw [hn] at q
  refine ⟨fun m σ H => ∃ b, G F (L' b) (O' b) σ H ∧ Out F (whileN mc f m b) (fun b => ∀ σ' H', G F (L' b) (O' b) σ' H' → D.nx σ' H') (XPS F), ⟨n, b0, g0.to hw ho, q⟩, ?_⟩
  rintro m σ H ⟨b, g, q⟩
  cases m with
  | zero => exact q.elim
  | succ m =>
    rw [show whileN mc f (m + 1) b = (mc b).bind fun t => if t then (f b).bind fun b => whileN mc f m b else .ok b from rfl, out_bind] at q
    refine ⟨b, g, q.mono (fun t k H1 g1 s1 => ?_) fun H' ⟨a, _⟩ => a.go.sub (hO b)⟩
    cases t with
    | true =>
      rw [if_pos rfl]
      simp only [if_true] at k
      rw [out_bind] at k
      exact ⟨fun σ' H' => ∃ b', G F (L' b') (O' b') σ' H' ∧ Out F (whileN mc f m b') (fun b => ∀ σ' H', G F (L' b) (O' b) σ' H' → D.nx σ' H') (XPS F), fun σ' H' z => ⟨m, Nat.lt_succ_self m, z⟩, b, g1, k.mono (fun b' kb σ' H' g' => ⟨⟨b', g', kb⟩, ⟨b', g', kb⟩⟩) fun _ z => z⟩
    | false =>
      rw [if_neg Bool.false_ne_true]
      exact k σ H1 g1
end
/-! ### (e, name), the name an owned list, handed back -/
section
variable {X : Cx} {F : Fr} {L : List (Option Asr)} {O : List Own} {α β : Type} [Rep α] [Data α] [Rep β] {p : Addr}
theorem own_out {as : List α} {H : Hp} (g : GO F O H) (hO : ow F.K F.mg p as ∈ O) : Dp F.K (rg F [] H) (.ref p) (toD as) := by
  obtain ⟨o, h3, vs, h4, h5⟩ := g.objs _ hO
  subst h4
  have h6 : rg F [] H p = some (.lst vs) := (less_out (g.apart _ hO)).trans h3
  exact .lst (.of h6) (reps_dp (h5.mono (rg_sub (List.nil_sublist _))))
theorem b_retTO {e : Expr} {x : Str} {m : Res β} {as : List α} {k : Nat → Nat} {kk} {p2 p3 pos : Pos} (i : Nat) (hL : L[i]? = some (rf p)) (hO1 : ow F.K F.mg p as ∈ O) (he : PE X e (tP true F L O m)) (hO : List.Sublist F.O0 O) (hN : X.N[i]? = some x := by rfl) (hv : Vis X.env.scope x := by first | exact Or.inl rfl | exact Or.inr (Or.inl rfl) | exact Or.inr (Or.inr rfl)) (hd : (x == ("__debug__" : Str)) = false := by decide)
    (hcd : (x == ("__classdict__" : Str)) = false := by decide) (h1 : starEach [e, .Name x p2] X.env = (false, eval e X.env) :: starEach [.Name x p2] X.env := by rfl) (h2 : starEach [.Name x p2] X.env = (false, eval (.Name x p2) X.env) :: starEach [] X.env := by rfl) :
    PSs X [.Return (some (.Tuple [e, .Name x p2] kk p3)) pos] (tT F L O (m.bind fun a => .ok (a, toD as)) (rV F)) := pss_one (ps_imp (ps_ret (pe_tup (pa_cons he (pa_cons (pe_var hN hv hd hcd) pa_nil h2) h1))) fun D σ H ⟨g, q⟩ => by
  rw [out_bind] at q
  refine ⟨g, q.mono (fun a kk v1 H1 g1 s1 r1 => ?_) fun H' ⟨a, _⟩ => a.go.sub hO⟩
  obtain ⟨w, h3, h4⟩ := g1.slot hL
  have h4' : w = V.ref p := h4
  subst h4'
  refine ⟨_, h3, by show 2 ≤ sizeLine; decide, fun t ht => ?_⟩
  have g2 := g1.grow (same_upd (o := .tup [v1, .ref p]) ht)
  refine kk _ _ ⟨g2.go.sub (List.nil_sublist _), t, v1, .ref p, rfl, .of ?_, Rep.mono ((rg_sub (List.nil_sublist _)).trans (rg_grow (same_upd ht))) r1, own_out g2.go hO1⟩
  exact (less_out (fun z => g1.go.out ht (List.mem_append_right _ z))).trans upd_same)
end
/-! ### a pair of a text and either an int or a new list of texts -/
section
variable (s0 s1 : Str) (K : Fg) (mg : MG) {τ : Type} [RepA τ]
def spTold (mir : τ → Res (Sum Int (List Str))) : Sp := fun vs H Q _ => ∃ (a : τ) (A : List Addr), (∀ x ∈ A, H x ≠ none) ∧ RepA.rep K mg (less H A) vs a ∧
  Out (F0 K mg H A E0) (mir a) (fun r => match r with
    | .inl n => ∀ v H', Same H H' → Rep.rep K mg (less H' A) v (s0, PyData.int n) → Q v H'
    | .inr ws => ∀ t p H', Same H H' → H p = none → H' p = some (.lst (ws.map V.str)) → less (less H' A) [p] t = some (.tup [.str s1, .ref p]) → Q (.ref t) H') (fun H' => Same H H')
end
def rT (s0 s1 : Str) (F : Fr) (r : Sum Int (List Str)) (v : V) (H : Hp) : Prop := GO F [] H ∧ match r with
  | .inl n => rp F (rg F [] H) v (s0, PyData.int n)
  | .inr ws => ∃ t p, v = .ref t ∧ F.H0 p = none ∧ p ∉ F.A ∧ H p = some (.lst (ws.map V.str)) ∧ less (rg F [] H) [p] t = some (.tup [.str s1, .ref p])
section
variable {P : Program} {w : World} {K : PySem.W.Frag} {mg : Str → Option Value} {base : Heap} {τ : Type} [RepA τ] {s0 s1 : Str}
variable {x qual : Str} {st : Stmt} {f : Addr} {fd : FuncData} {N ps : List Str} {k : Nat}
theorem def_T {mir : τ → Res (Sum Int (List Str))} (Fu : Fun K x qual st f fd) (S : FnScope N ps (defScope st)) (L0 : τ → List (Option Asr)) (hl : ∀ (vs : List V) (R : Hp) (a : τ), RepA.rep K mg R vs a → vs.length = ps.length ∧ Paired (SlotOk R) (L0 a) (start N vs))
    (body : ∀ (cdv : Value) (A : Around) (outer : List Env) (s : Shared) (H : Hp) (Av : List Addr) (E : XK) (a : τ), Room k (A.deeper (envOfC qual (defScope st) s.heap.objs.size f cdv)) →
      PSs (cxOf CX0 P w K mg base N qual (defScope st) f cdv A outer s H E).nox (defBody st) (tT (F0 K mg H Av E0) (L0 a) [] (mir a) (rT s0 s1 (F0 K mg H Av E0)))) :
    FnOk P w K mg base CX0 (k + 1) f fd ps (spTold s0 s1 K mg mir) := by
  refine Fu.ok S (fun vs H Q E ⟨a, A, _, h, _⟩ => (hl vs _ a h).1) (fun cdv A outer s H vs Q E hr ⟨a, Av, hA, h, q⟩ => ⟨_, body cdv A outer s H Av E a hr, ⟨(hl vs _ a h).2, go_start hA⟩, ?_⟩)
  refine q.mono (fun r k v H' ⟨g, hr⟩ => ?_) fun H' g => go_same g
  cases r with
  | inl n => exact k v H' (go_same g) hr
  | inr ws =>
    obtain ⟨t, p, e, h1, h2, h3, h4⟩ := hr
    subst e
    exact k t p H' (go_same g) h1 h3 h4
end
section
variable {X : Cx} {F : Fr} {L : List (Option Asr)} {O : List Own} {s0 s1 : Str} {B : Type} {L' : B → List (Option Asr)} {O' : B → List Own}
/-- return 's1', a new list -/
theorem b_retTf {e : Expr} {m : Res (List Str)} {j kk} {p2 p3 pos : Pos} (he : PE X e (tF true F L O m)) (hO : List.Sublist F.O0 O) (h1 : starEach [.Constant (.str s1) j p2, e] X.env = (false, eval (.Constant (.str s1) j p2) X.env) :: starEach [e] X.env := by rfl) (h2 : starEach [e] X.env = (false, eval e X.env) :: starEach [] X.env := by rfl) :
    PSs X [.Return (some (.Tuple [.Constant (.str s1) j p2, e] kk p3)) pos] (tT F L O (m.bind fun ws => .ok (.inr ws)) (rT s0 s1 F)) := pss_one (ps_imp (ps_ret (pe_tup (pa_cons pe_str (pa_cons he pa_nil h2) h1))) fun D σ H ⟨g, q⟩ => by
  rw [out_bind] at q
  refine ⟨g, q.mono (fun ws k p vs H1 g1 ss hp hv r1 => ?_) fun H' ⟨a, _⟩ => a.go.sub hO⟩
  have e : vs = ws.map V.str := reps_flat.mp r1
  subst e
  refine ⟨by show 2 ≤ sizeLine; decide, fun t ht => ?_⟩
  have g2 := g1.grow (same_upd (o := .tup [.str s1, .ref p]) ht)
  have hpt : t ≠ p := fun z => by rw [z, hv] at ht; cases ht
  refine k _ _ ⟨g2.go.sub (List.nil_sublist _), t, p, rfl, ?_, fun z => g.go.out hp (List.mem_append_right _ z), by rw [upd_ne (fun z => hpt z.symm)]; exact hv, ?_⟩
  · cases q : F.H0 p with
    | none => rfl
    | some o => exact (g.go.live p (by rw [q]; simp) hp).elim
  · rw [less_one hpt]
    exact (less_out (fun z => g1.go.out ht (List.mem_append_right _ z))).trans upd_same)
def uninR (d : PyData) : Res (Sum Int (List Str)) := match d with
  | .int n => .ok (.inl n)
  | _ => .bad
/-- return 's0', an int -/
theorem b_retTu {e : Expr} {m : Res PyData} {j kk} {p2 p3 pos : Pos} (he : PE X e (tP true F L O m)) (hO : List.Sublist F.O0 O) (h1 : starEach [.Constant (.str s0) j p2, e] X.env = (false, eval (.Constant (.str s0) j p2) X.env) :: starEach [e] X.env := by rfl) (h2 : starEach [e] X.env = (false, eval e X.env) :: starEach [] X.env := by rfl) :
    PSs X [.Return (some (.Tuple [.Constant (.str s0) j p2, e] kk p3)) pos] (tT F L O (m.bind uninR) (rT s0 s1 F)) := pss_one (ps_imp (ps_ret (pe_tup (pa_cons pe_str (pa_cons he pa_nil h2) h1))) fun D σ H ⟨g, q⟩ => by
  rw [out_bind] at q
  refine ⟨g, q.mono (fun d k v H1 g1 ss r1 => ?_) fun H' ⟨a, _⟩ => a.go.sub hO⟩
  refine ⟨by show 2 ≤ sizeLine; decide, fun t ht => ?_⟩
  have g2 := g1.grow (same_upd (o := .tup [.str s0, v]) ht)
  cases d with
  | int n =>
    refine k _ _ ⟨g2.go.sub (List.nil_sublist _), t, .str s0, v, rfl, .of ?_, rfl, Rep.mono ((rg_sub (List.nil_sublist _)).trans (rg_grow (same_upd ht))) r1⟩
    exact (less_out (fun z => g1.go.out ht (List.mem_append_right _ z))).trans upd_same
  | _ => exact k.elim)
/-- the slot of such a pair -/
def tv (s1 : Str) (p : Addr) : Option Asr := some ⟨fun H v => ∃ t, v = .ref t ∧ H t = some (.tup [.str s1, .ref p]), fun e ⟨t, h1, h2⟩ => ⟨t, h1, e _ _ h2⟩⟩
theorem b_told {τ D' : Type} [RepA τ] {Ret : D' → V → Hp → Prop} {mir : τ → Res (Sum Int (List Str))} {m : Res τ} {m1 : Int → Res D'} {m2 : List Str → Res D'} {k : Nat} {ps : List Str} {x y : Str} {p1 pos pos2 pos3 : Pos} {e : Expr} {es : List Expr} {rest : List Stmt} (i : Nat) (D : DefAt X.prog X.w X.K X.mg X.base CX0 k x ps (spTold s0 s1 X.K X.mg mir)) (hr : Room k X.A) (hN : X.N.Nodup) (ha : PA X (e :: es) (tA true F L O m)) (hO : List.Sublist F.O0 O)
    (h1 : ∀ n, PSs X rest (tT F (L.set i (vl F.K F.mg ((s0, PyData.int n) : Str × PyData))) O (m1 n) Ret)) (h2 : ∀ ws p, PSs X rest (tT F (L.set i (tv s1 p)) (ow F.K F.mg p ws :: O) (m2 ws) Ret))
    (hg : Gl X x := by rfl) (hE : F.E = E0 := by rfl) (hK : X.K = F.K := by rfl) (hM : X.mg = F.mg := by rfl) (hd : (x == ("__debug__" : Str)) = false := by decide)
    (hs : starEach (e :: es) X.env = (false, eval e X.env) :: starEach es X.env := by rfl) (hs2 : ((backTo pos (starEach es X.env)).any fun x => x.fst) = false := by rfl)
    (hi : X.N[i]? = some y := by rfl) (hx : L2.Loc X.env.scope y := by first | exact .inl rfl | exact .inr rfl) (hsw : swapsWith (.Call (.Name x p1) (e :: es) [] pos) (some (.Name y pos2)) pos3.line X.env = pure false := by rfl) (hf : X.fn y = true ∨ X.env.scope.names.lookup y = some .local := by first | exact .inl rfl | exact .inr rfl) :
    PSs X (.Assign [.Name y pos2] (.Call (.Name x p1) (e :: es) [] pos) pos3 :: rest) (tT F L O ((m.bind mir).bind fun r => match r with | .inl n => m1 n | .inr ws => m2 ws) Ret) := by
  obtain ⟨f, fd, Gf, hm, hk, hb⟩ := D.ex
  refine pss_imp (pss_cons (ps_set (i := i) hN hi hx (pe_call Gf hr hg hm hk hb .nil pass0 ha hd hs hs2) hsw hf) (pss_or (pss_ex h1) (pss_ex fun ws => pss_ex fun p => h2 ws p))) fun D σ H ⟨g, q⟩ => ?_
  rw [Res.bind_assoc, out_bind] at q
  refine ⟨g, q.mono (fun a qa vs H1 g1 ss r1 => ?_) fun H' ⟨a, _⟩ => a.go.sub hO⟩
  show spTold s0 s1 X.K X.mg mir (vs ++ []) H1 _ E0
  rw [List.append_nil, hK, hM]
  refine ⟨a, avoid true F O, g1.go.avoided (b := true), by rw [← rgn_avoid]; exact r1, ?_⟩
  cases e : mir a with
  | bad => rw [e] at qa; exact qa.elim
  | err c fs =>
    rw [e] at qa
    intro C d H' h1 h2 h4
    have := qa C d H' h1 (h2.older g1.go.live) ((g1.grow h4).go.sub hO)
    rw [hE] at this
    exact this
  | ok r =>
    rw [e] at qa
    cases r with
    | inl n =>
      intro v H' s2 r2
      have g2 := g1.grow s2
      exact .inl ⟨n, ⟨set_ok (p := vl F.K F.mg ((s0, PyData.int n) : Str × PyData)) r2 i g2.slots, g2.go⟩, qa⟩
    | inr ws =>
      intro t p H' s2 hp hv ht
      have g2 := g1.grow s2
      refine .inr ⟨ws, p, ⟨set_ok (p := tv s1 p) ⟨t, rfl, ?_⟩ i (L2.Paired.mapP g1.slots fun _ _ z => z.mono (rg_new rfl s2 hp)), go_new g1 g2.go s2 hp hv (reps_flat.mpr rfl)⟩, qa⟩
      exact tup_out ht
where
  tup_out {p t : Addr} {ws : List Str} {H' : Hp} (ht : less (less H' (avoid true F O)) [p] t = some (.tup [.str s1, .ref p])) : rg F (ow F.K F.mg p ws :: O) H' t = some (.tup [.str s1, .ref p]) := by
    have hp : t ≠ p := fun z => by
      rw [z, less_in List.mem_cons_self] at ht
      cases ht
    rw [less_one hp] at ht
    have hb : t ∉ addrs O ++ F.A := fun z => by
      have := less_in (H := H') z
      rw [show less H' (addrs O ++ F.A) t = some (.tup [.str s1, .ref p]) from ht] at this
      cases this
    have ht2 : H' t = some (.tup [.str s1, .ref p]) := less_same _ _ ht
    refine (less_out fun z => ?_).trans ht2
    rcases List.mem_append.mp z with z | z
    · rcases List.mem_cons.mp (show t ∈ p :: addrs O from z) with z | z
      · exact hp z
      · exact hb (List.mem_append_left _ z)
    · exact hb (List.mem_append_right _ z)
/-- the name, as a value -/
theorem n_told {y : Str} {ws : List Str} {p : Addr} {pos : Pos} (i : Nat) (hL : L[i]? = some (tv s1 p)) (hO : ow F.K F.mg p ws ∈ O) (hN : X.N[i]? = some y := by rfl) (hv : Vis X.env.scope y := by first | exact Or.inl rfl | exact Or.inr (Or.inl rfl) | exact Or.inr (Or.inr rfl)) (hd : (y == ("__debug__" : Str)) = false := by decide)
    (hcd : (y == ("__classdict__" : Str)) = false := by decide) : PE X (.Name y pos) (tP false F L O (.ok ((s1, toD ws) : Str × PyData))) := pe_imp (pe_var hN hv hd hcd) fun σ H Q ⟨g, q⟩ => by
  obtain ⟨v, h1, t, h2, h3⟩ := g.slot hL
  subst h2
  exact ⟨_, h1, q _ H g (Same.refl _) ⟨t, .str s1, .ref p, rfl, .of (less_same _ _ h3), rfl, dp_mono less_same (own_out g.go hO)⟩⟩
/-- y[1].append(e) -/
theorem s_toldApp {y : Str} {e : Expr} {ws : List Str} {p : Addr} {j : Nat} {p1 p2 p3 p4 cpos pos : Pos} (i : Nat) {b : Bool} {m : Res Str} (hL : L[i]? = some (tv s1 p)) (hO : List.Sublist F.O0 (ow F.K F.mg p ws :: O)) (he : PE X e (tP b F L (ow F.K F.mg p ws :: O) m))
    (h : ∀ {to : TE} {t : TA}, PE X (.Subscript (.Name y p1) (.Constant (.int 1) j p2) p3) to → PA X [e] t → PE X (.Call (.Attribute (.Subscript (.Name y p1) (.Constant (.int 1) j p2) p3) "append" p4) [e] [] cpos) (tBM X.K "list" rAppend to t)) (hs1 : starEach [e] X.env = (false, eval e X.env) :: starEach [] X.env := by rfl)
    (hN : X.N[i]? = some y := by rfl) (hv : Vis X.env.scope y := by first | exact Or.inl rfl | exact Or.inr (Or.inl rfl) | exact Or.inr (Or.inr rfl)) (hd : (y == ("__debug__" : Str)) = false := by decide) (hcd : (y == ("__classdict__" : Str)) = false := by decide) (hp : PlainIx (.Constant (.int 1) j p2) := by exact fun _ _ => rfl)
    (hs : swapsWith (.Call (.Attribute (.Subscript (.Name y p1) (.Constant (.int 1) j p2) p3) "append" p4) [e] [] cpos) none pos.line X.env = pure false := by rfl) :
    PS X (.Expr (.Call (.Attribute (.Subscript (.Name y p1) (.Constant (.int 1) j p2) p3) "append" p4) [e] [] cpos) pos) (tN F L (ow F.K F.mg p ws :: O) (m.bind fun a => need (ws.length < sizeLine) (.ok (ws ++ [a]))) (fun _ => L) (fun ys => ow F.K F.mg p ys :: O)) := ps_imp (ps_expr (h (pe_ix ix_tup (pe_var hN hv hd hcd) pe_int hp) (pa_cons he pa_nil hs1)) hs) fun D σ H ⟨g, q⟩ => by
  obtain ⟨w, h4, t, h5, h6⟩ := g.slot hL
  subst h5
  obtain ⟨vs, h7, h8⟩ := g.head
  rw [out_bind] at q
  refine ⟨_, h4, t, _, 1, .ref p, rfl, rfl, .of (less_same _ _ h6), rfl, .inl ⟨rfl, _, .of h7⟩, g, q.mono (fun a k v H1 g1 s1 r1 => ?_) fun H' ⟨a, _⟩ => a.go.sub hO⟩
  rw [out_need] at k
  obtain ⟨vs', h9, h10⟩ := g1.head
  have r1' : v = V.str a := Flat.iff.mp r1
  subst r1'
  refine ⟨p, vs', _, rfl, rfl, h9, by rw [h10.length]; exact k.1, ?_⟩
  exact k.2 σ _ (g_upd g1 (reps_append h10 (.cons rfl .nil))).1
/-! ### x = [comprehension that changes the owned object] -/
section
variable {p : Addr} {α β ι : Type} [Rep α] [Rep β] [OwR ι] {xs : ι} {tg iter elt : Expr} {ifs : List Expr} {scope : Scope} {own : List (Str × Nat)} {y : Str} {pos p1 pos2 : Pos} {g : TG} {bd : α → List (Option Asr) → List (Option Asr)} {m : Res (List α × ι)} {P : α → ι → Res (Bool × ι)} {f : α → ι → Res (β × ι)}
theorem s_setLcE (i : Nat) (hc : X.calm = true) (hN : X.N.Nodup) (hi : PI X tg iter (tIE F L p xs O m)) (hb : BlkOk X.N X.env.scope scope own)
    (hok : TgOk F.K F.mg g (own.map (·.2)) bd) (ht : ∀ (s : Shared) (H : Hp) (C : Addr) (cl : List (Str × Addr)) (fp : List Addr), Tg (X.blk s H scope (compEnvC scope cl C X.env) fp) F.K F.mg tg g (own.map (·.2)) bd)
    (hp : ∀ (s : Shared) (H : Hp) (C : Addr) (cl : List (Str × Addr)) (fp : List Addr) (a : α) (D : Addr) (ds : List β) (xs' : ι), PTs (X.blk s H scope (compEnvC scope cl C X.env) fp) ifs (tEB F.nox (bd a (wipeL L (own.map (·.2)))) p xs' (ow F.K F.mg D ds :: O) (P a xs')))
    (he : ∀ (s : Shared) (H : Hp) (C : Addr) (cl : List (Str × Addr)) (fp : List Addr) (a : α) (D : Addr) (ds : List β) (xs' : ι), PE (X.blk s H scope (compEnvC scope cl C X.env) fp) elt (tE true F.nox (bd a (wipeL L (own.map (·.2)))) p xs' (ow F.K F.mg D ds :: O) (f a xs')))
    (hy : X.N[i]? = some y := by rfl) (hyl : X.env.scope.names.lookup y = some .local := by rfl) (hk : X.env.scope.kind = .function := by rfl) (hl : (p1.line == pos.line) = true := by rfl) (ha : (scope.names.any fun (n, k) => n == y && (k == .local || k == .cell)) = false := by rfl) (hpl : pos2.line = pos.line := by rfl)
    (hf : ∀ x, foldedSetIterable iter X.env x = pure x := by intro _; rfl) :
    PS X (.Assign [.Name y p1] (.ListComp elt [{ target := tg, iter := iter, ifs := ifs, is_async := 0 }] scope pos) pos2) (tN F L (ow F.K F.mg p xs :: O) (m.bind fun r => need (r.1.length ≤ sizeLine) (filtE (fun a x => (P a x).quiet) (fun a x => (f a x).quiet) r.1 r.2)) (fun r => L.set i (vl F.K F.mg r.1)) (fun r => ow F.K F.mg p r.2 :: O)) := by
  refine ps_imp (ps_setLc hc hN hy hyl (sw_true hk hyl hl ha) hi hb (fun s H C cl fp => (ht s H C cl fp).pg) (fun s H C cl fp => pts_ex fun a => pts_ex fun D => pts_ex fun ds => pts_ex fun xs' => hp s H C cl fp a D ds xs') (fun s H C cl fp => pe_ex fun a => pe_ex fun D => pe_ex fun ds => pe_ex fun xs' => he s H C cl fp a D ds xs') hf) fun D σ H ⟨g0, q⟩ => ?_
  refine comp_coreE _ _ rfl hok rfl rfl σ H (fun x H1 => gName i x σ H1 D.nx) ⟨g0, q.mono (fun r k v H1 g1 s1 r1 => ?_) fun _ z => z⟩
  exact k _ _ ⟨set_ok (p := vl F.K F.mg r.1) r1 i g1.slots, g1.go⟩
end
end
theorem rT_le {F F' : Fr} {s0 s1 : Str} (h : FLe F' F) : ∀ (b : Sum Int (List Str)) (v : V) (H : Hp), rT s0 s1 F b v H → rT s0 s1 F' b v H := fun b v H ⟨g, r⟩ => ⟨h.go g, by
  cases b with
  | inl n =>
    show rp F' (rg F' [] H) v _
    rw [h.rg]
    unfold rp
    rw [h.eqs.1, h.eqs.2.1]
    exact r
  | inr ws =>
    obtain ⟨t, p, e, h1, h2, h3, h4⟩ := r
    refine ⟨t, p, e, by rw [h.eqs.2.2.2]; exact h1, by rw [h.eqs.2.2.1]; exact h2, h3, ?_⟩
    rw [h.rg]
    exact h4⟩
section
variable {X : Cx} {F : Fr} {L : List (Option Asr)} {O : List Own} {b3 : Bool} {a C : Addr} {oe : PySem.Obj} {d : Option Addr} {pn : List (Addr × PySem.Obj)} {fs : List (Str × PyData)} {n y : Str} {p1 p2 p3 pos : Pos}
/-- isinstance(e, T), T a built-in type -/
theorem n_isEB {v : Bool} {nT : String} (i : Nat) (T : ExcC X.K C) (hz : L2N.Zn (.ref C) d oe) (hd : ∃ vs, oe.data = .fields vs) (hL : L[i]? = some (rf a)) (hm : X.mg y = none) (hT : bootBuiltins y = some (.type nT)) (hk : PySem.W.kitOne X.K (.ref C) (.type nT) = some v) (hib : X.mg "isinstance" = none)
    (hN : X.N[i]? = some n := by rfl) (hv : Vis X.env.scope n := by first | exact Or.inl rfl | exact Or.inr (Or.inl rfl) | exact Or.inr (Or.inr rfl)) (hd1 : (n == ("__debug__" : Str)) = false := by decide) (hcd : (n == ("__classdict__" : Str)) = false := by decide)
    (hg : Gl X "isinstance" := by rfl) (hgy : Gl X y := by rfl) (hn : y ≠ "__name__" := by decide) (hd2 : (y == ("__debug__" : Str)) = false := by decide)
    (h1 : starEach [.Name n p2, .Name y p3] (X.suite a ((a, oe) :: pn)).env = (false, eval (.Name n p2) (X.suite a ((a, oe) :: pn)).env) :: starEach [.Name y p3] (X.suite a ((a, oe) :: pn)).env := by rfl) (h2 : starEach [.Name y p3] (X.suite a ((a, oe) :: pn)).env = (false, eval (.Name y p3) (X.suite a ((a, oe) :: pn)).env) :: starEach [] (X.suite a ((a, oe) :: pn)).env := by rfl)
    (hpl : (backTo pos (starEach [.Name y p3] (X.suite a ((a, oe) :: pn)).env)).any (·.1) = false := by rfl) :
    PE (X.suite a ((a, oe) :: pn)) (.Call (.Name "isinstance" p1) [.Name n p2, .Name y p3] [] pos) (tP b3 (F.add (xdF d fs)) L O (.ok v)) :=
  pe_imp (pe_callB (X := X.suite a ((a, oe) :: pn)) (call_isD T hz hd) hg hib (by decide +kernel) (pa_cons (pe_var (X := X.suite a ((a, oe) :: pn)) (i := i) hN hv hd1 hcd) (pa_cons (pe_bltn (X := X.suite a ((a, oe) :: pn)) (v := .ty nT) hgy hm hT rfl hn hd2) pa_nil h2) h1) (by decide) (by decide) h1 hpl) fun σ H Q ⟨g, q⟩ => by
  obtain ⟨v1, h3, h4⟩ := g.slot hL
  have e1 : v1 = V.ref a := h4
  subst e1
  refine ⟨_, h3, .ty nT, .type nT, v, rfl, fun u r => r, hk, fun dd e => ?_, q _ H g (Same.refl _) rfl⟩
  subst e
  exact ⟨_, less_same _ _ g.go.fact⟩
end
end NF

set_option Elab.async false
set_option linter.all false
set_option maxRecDepth 100000
/-! Nf33: calls with no argument; returns out of a try's body. -/
namespace NF
open PySem PySem.Spec PyProof.Rows L2
open Data (toD)
section
variable {X : Cx} {F : Fr} {L : List (Option Asr)} {O : List Own} {ρ : Type} [Rep ρ]
variable {k : Nat} {ps : List Str} {x : Str} {p1 pos : Pos} {b : Bool}
theorem nd_call0 {mir : Unit → Res ρ} (D : DefAt X.prog X.w X.K X.mg X.base CX0 k x ps (spP X.K X.mg mir)) (hr : Room k X.A) (hg : Gl X x := by rfl) (hE : F.E = E0 := by rfl) (hK : X.K = F.K := by rfl) (hM : X.mg = F.mg := by rfl) (hd : (x == ("__debug__" : Str)) = false := by decide) :
    PE X (.Call (.Name x p1) [] [] pos) (tP b F L O (mir ())) := by
  obtain ⟨f, fd, h1, h2, h3, h4⟩ := D.ex
  have h := call_core (m := .ok ()) (sp := spP X.K X.mg mir) (F := F) (L := L) (O := O) (b := b) hE (fun vs H Q q => by rw [← hK, ← hM] at q; exact q) (pe_imp (pe_call0 (p := p1) (pos := pos) h1 hr hg h2 h3 h4 .nil pass0 hd) fun σ H Q ⟨g, q⟩ => q [] H g (Same.refl _) rfl)
  exact h
end
theorem rV_ft {α : Type} [Rep α] {F : Fr} {E : XK} {O : List Own} : ∀ (b : α) (v : V) (H : Hp), rV (Ft F E O) b v H → rV F b v H := fun b v H ⟨g, r⟩ => ⟨go_tf g, r⟩
theorem rT_ft {s0 s1 : Str} {F : Fr} {E : XK} {O : List Own} : ∀ (b : Sum Int (List Str)) (v : V) (H : Hp), rT s0 s1 (Ft F E O) b v H → rT s0 s1 F b v H := fun b v H ⟨g, r⟩ => ⟨go_tf g, r⟩
end NF

set_option Elab.async false
set_option linter.all false
set_option maxRecDepth 100000
set_option maxHeartbeats 4000000
namespace K28
open PySem PySem.Spec PyProof.Rows L2 NF
open NF.Data (toD)
def topS (i : Nat) : Stmt := PySem.Challenge.pw_colonnade_k28_words_of_texts.main.body.getD i (.Pass ⟨0, 0, 0, 0⟩)
section
variable {P : Program} {w : World} {K : Fg} {mg : MG} {base : Heap}

/-! ### _stretch_end -/
noncomputable def m_stretch_end (a : (Ar Str (Ar Int (Ar Str Unit)))) : Res Int :=
  (let end_1 := a.r.x
  (whileW (fun (b2 : (Int)) => ((need (Str.length a.x ≤ sizeLine) (Res.ok (Str.length a.x : Int))).bind fun v4 => Res.ok (decide (b2 < v4))).bind fun v6 => if v6 then ((idxS a.x b2).bind fun v5 => inS v5 a.r.r.x) else Res.ok false) (fun (b2 : (Int)) => (let end_7 := (b2 + (1 : Int))
  Res.ok end_7)) end_1).bind fun b3 => Res.ok b3)
abbrev s__stretch_end : Stmt := topS 8
theorem sc__stretch_end : FnScope ["text", "start", "letters", "end"] ["text", "start", "letters"] (defScope s__stretch_end) := ⟨rfl, rfl, rfl, by decide +kernel, rfl, by decide +kernel, by decide +kernel⟩
theorem ok__stretch_end {f : Addr} {fd : FuncData} (Fu : Fun K "_stretch_end" "_stretch_end" s__stretch_end f fd) (z_len : mg "len" = none) : FnOk P w K mg base CX0 1 f fd ["text", "start", "letters"] (spP K mg m_stretch_end) := by
  refine def_P (τ := (Ar Str (Ar Int (Ar Str Unit)))) (ρ := Int) Fu sc__stretch_end (fun a => [vl K mg a.x, vl K mg a.r.x, vl K mg a.r.r.x, none]) (fun vs R a h => by
    obtain ⟨v0, w0, e0, h0, v1, w1, e1, h1, v2, w2, e2, h2, e3⟩ := h
    cases e3; cases e2; cases e1; cases e0
    exact ⟨rfl, .cons h0 (.cons h1 (.cons h2 (.cons trivial (.nil))))⟩) (fun cdv A outer s H Av E a hr => ?_)
  refine tT_cast (b_N (s_set 3 sc__stretch_end.nd (List.nil_sublist _) (n_var 1)) (fun end_1 => (b_N (s_while (Sp3.mk : Sp3 (fun b : (Int) => [vl K mg (a.x : Str), vl K mg (a.r.x : Int), vl K mg (a.r.r.x : Str), vl K mg (b : Int)]) (fun b : (Int) => ([] : List Own)) end_1) PassesOwn.never (fun b2 => (PW.pt (w_and (t_lt (n_var 3) (n_lenS (b3 := true) (pe_callB call_len_str (by rfl) z_len (by decide +kernel) (pa_cons (n_var 0) pa_nil)) rfl)) (w_and1 (t_inS (n_idxS (b3 := true) (n_var 0) (n_var 3)) (n_var 2)))))) (fun _ => (List.nil_sublist _)) ⟨.inr rfl, .inr rfl, .inr rfl, .inr rfl, trivial⟩ (List.Sublist.refl _) (fun b2 => (n_N (s_aug 3 sc__stretch_end.nd (List.nil_sublist _) rfl ip_add (n_int (b := true))) (fun end_7 => (n_end end_7 ⟨.inr rfl, .inr rfl, .inr rfl, .inr rfl, trivial⟩ (List.nil_sublist _)))))) (fun b3 => (b_ret (n_var 3) (List.nil_sublist _)))))) ?_
  try simp -implicitDefEqProofs only [Res.bind_ok]
  rfl

/-! ### _word_end -/
noncomputable def m_word_end (a : (Ar Str (Ar Int Unit))) : Res Int :=
  ((idxS a.x a.r.x).bind fun v8 => inS v8 (PySem.Str.ofString "(),")).bind fun v30 => if v30 then (Res.ok (a.r.x + (1 : Int))) else (((idxS a.x a.r.x).bind fun v9 => Res.ok (decide (v9 = (PySem.Str.ofString "'")))).bind fun v29 => if v29 then (Res.ok ((Txt.find3 a.x (PySem.Str.ofString "'") (a.r.x + (1 : Int))) + (1 : Int))) else (goOn (foldM (fun (a10 : Str) (b11 : Unit) => (((((need (Str.length a10 ≤ sizeLine) (Res.ok (Str.length a10 : Int))).bind fun v14 => Res.ok (a.r.x + v14)).bind fun v15 => Res.ok (some v15)).bind fun v16 => need (Str.length a.x ≤ sizeLine) (Res.ok (cutS a.x (some a.r.x) v16))).bind fun v17 => Res.ok (decide (v17 = a10))).bind fun v19 => if v19 then (((need (Str.length a10 ≤ sizeLine) (Res.ok (Str.length a10 : Int))).bind fun v18 => Res.ok (a.r.x + v18)).bind fun d => Res.ok (Sum.inr d)) else (Res.ok (Sum.inl ()))) (Lk.its (Tp.mk [PySem.Str.ofString "<>", PySem.Str.ofString "<=", PySem.Str.ofString ">=", PySem.Str.ofString "=", PySem.Str.ofString "<", PySem.Str.ofString ">"])) ()) (fun b13 => ((idxS a.x a.r.x).bind fun v20 => Res.ok (decide (v20 = (PySem.Str.ofString "-")))).bind fun v28 => if v28 then ((m_stretch_end (Ar.mk a.x (Ar.mk (a.r.x + (1 : Int)) (Ar.mk (PySem.Str.ofString "0123456789") ())))).bind fun end_21 => if (decide ((a.r.x + (1 : Int)) < end_21)) then Res.ok end_21 else Res.ok a.r.x) else (((((((idxS a.x a.r.x).bind fun v22 => inS v22 (PySem.Str.ofString "0123456789")).bind fun v23 => if v23 then Res.ok (PySem.Str.ofString "0123456789") else Res.ok (PySem.Str.ofString "abcdefghijklmnopqrstuvwxyz")).bind fun v24 => Res.ok (Ar.mk v24 ())).bind fun r25 => Res.ok (Ar.mk a.r.x r25)).bind fun r26 => Res.ok (Ar.mk a.x r26)).bind fun u27 => m_stretch_end u27))))
abbrev s__word_end : Stmt := topS 9
theorem sc__word_end : FnScope ["text", "start", "sign", "end"] ["text", "start"] (defScope s__word_end) := ⟨rfl, rfl, rfl, by decide +kernel, rfl, by decide +kernel, by decide +kernel⟩
theorem ok__word_end {f : Addr} {fd : FuncData} (Fu : Fun K "_word_end" "_word_end" s__word_end f fd) (g_SIGNS : GlobT K mg "SIGNS" [PySem.Str.ofString "<>", PySem.Str.ofString "<=", PySem.Str.ofString ">=", PySem.Str.ofString "=", PySem.Str.ofString "<", PySem.Str.ofString ">"]) (g_FIGURES : GlobV mg "FIGURES" (.str (PySem.Str.ofString "0123456789"))) (D__stretch_end : DefAt P w K mg base CX0 1 "_stretch_end" ["text", "start", "letters"] (spP K mg m_stretch_end)) (g_LETTERS : GlobV mg "LETTERS" (.str (PySem.Str.ofString "abcdefghijklmnopqrstuvwxyz"))) (z_len : mg "len" = none) : FnOk P w K mg base CX0 2 f fd ["text", "start"] (spP K mg m_word_end) := by
  refine def_P (τ := (Ar Str (Ar Int Unit))) (ρ := Int) Fu sc__word_end (fun a => [vl K mg a.x, vl K mg a.r.x, none, none]) (fun vs R a h => by
    obtain ⟨v0, w0, e0, h0, v1, w1, e1, h1, e2⟩ := h
    cases e2; cases e1; cases e0
    exact ⟨rfl, .cons h0 (.cons h1 (.cons trivial (.cons trivial (.nil))))⟩) (fun cdv A outer s H Av E a hr => ?_)
  refine tT_cast (b_if (t_inS (n_idxS (b3 := true) (n_var 0) (n_var 1)) (n_str (b := true))) (b_ret (n_add (b3 := true) (n_var 1) (n_int (b := true))) (List.nil_sublist _)) (b_if (t_eqS (n_idxS (b3 := true) (n_var 0) (n_var 1)) (n_str (b := true))) (b_ret (n_add (b3 := true) (n_find3 (b4 := true) (n_var 0) (n_str (b := true)) (n_add (b3 := true) (n_var 1) (n_int (b := true))) (fun h1 h2 => pe_bm PySem.F.plainAttrs_str PySem.F.slot_str_find PySem.F.type_str_find mt_find3 h1 h2)) (n_int (b := true))) (List.nil_sublist _)) (b_M (s_forM (Sp3.mk : Sp3 (fun b : Unit => [vl K mg (a.x : Str), vl K mg (a.r.x : Int), none, none]) (fun b : Unit => ([] : List Own)) ()) PassesOwn.never rfl (i_lk (n_globT (b := true) g_SIGNS)) (tg_name 2 sc__word_end.nd) (List.nil_sublist _) ⟨.inr rfl, .inr rfl, .inl rfl, .inl rfl, trivial⟩ (List.Sublist.refl _) (fun z12 a10 b11 => (m_if (t_eqS (n_sliceS (b3 := true) (n_var 0) (o_some (n_var 1)) (o_some (n_add (b3 := true) (n_var 1) (n_lenS (b3 := true) (pe_callB call_len_str (by rfl) z_len (by decide +kernel) (pa_cons (n_var 2) pa_nil)) rfl)))) (n_var 2)) (b_le (rV_le (.add (.refl _))) (b_ret (n_add (b3 := true) (n_var 1) (n_lenS (b3 := true) (pe_callB call_len_str (by rfl) z_len (by decide +kernel) (pa_cons (n_var 2) pa_nil)) rfl)) (List.nil_sublist _))) (m_end () ⟨.inr rfl, .inr rfl, .inl rfl, .inl rfl, trivial⟩ (List.nil_sublist _)) (List.nil_sublist _)))) (fun b13 => (b_if (t_eqS (n_idxS (b3 := true) (n_var 0) (n_var 1)) (n_str (b := true))) (b_N (s_set 3 sc__word_end.nd (List.nil_sublist _) (nd_call D__stretch_end (hr.mono (by decide)) (a_cons (n_var 0) (a_cons (n_add (b3 := true) (n_var 1) (n_int (b := true))) (a_cons (n_glob (b := true) (a := ((PySem.Str.ofString "0123456789") : Str)) g_FIGURES) a_nil))))) (fun end_21 => (b_ret (n_if (t_gt (n_var 3) (n_add (b3 := true) (n_var 1) (n_int (b := true)))) (n_var 3) (n_var 1)) (List.nil_sublist _)))) (b_ret (nd_call D__stretch_end (hr.mono (by decide)) (a_cons (n_var 0) (a_cons (n_var 1) (a_cons (n_if (t_inS (n_idxS (b3 := true) (n_var 0) (n_var 1)) (n_glob (b := true) (a := ((PySem.Str.ofString "0123456789") : Str)) g_FIGURES)) (n_glob (b := true) (a := ((PySem.Str.ofString "0123456789") : Str)) g_FIGURES) (n_glob (b := true) (a := ((PySem.Str.ofString "abcdefghijklmnopqrstuvwxyz") : Str)) g_LETTERS)) a_nil)))) (List.nil_sublist _)) (List.nil_sublist _)))) (List.nil_sublist _)) (List.nil_sublist _)) ?_
  try simp -implicitDefEqProofs only [Res.bind_ok]
  rfl

/-! ### split_words -/
noncomputable def m_split_words (a : (Ar Str Unit)) : Res (List Str) :=
  (need (List.length ([] : List Str) ≤ sizeLine) (Res.ok ([] : List Str))).bind fun words_31 => (let at_33 := (0 : Int)
  (whileW (fun (b34 : (Int × (List Str))) => (need (Str.length a.x ≤ sizeLine) (Res.ok (Str.length a.x : Int))).bind fun v36 => Res.ok (decide (b34.1 < v36))) (fun (b34 : (Int × (List Str))) => ((idxS a.x b34.1).bind fun v37 => Res.ok (decide (v37 = (PySem.Str.ofString " ")))).bind fun v43 => if v43 then ((let at_42 := (b34.1 + (1 : Int))
  Res.ok (at_42, b34.2))) else ((Res.quiet (m_word_end (Ar.mk a.x (Ar.mk b34.1 ())))).bind fun end_38 => if (decide (end_38 ≤ b34.1)) then (Res.err "Unread" [("at", toD (List.length b34.2 : Int))]) else (((need (Str.length a.x ≤ sizeLine) (Res.ok (cutS a.x (some b34.1) (some end_38)))).bind fun v39 => need (List.length b34.2 < sizeLine) (Res.ok (b34.2 ++ [v39]))).bind fun words_40 => (let at_41 := end_38
  Res.ok (at_41, words_40))))) (at_33, words_31)).bind fun b35 => Res.ok b35.2)
abbrev s_split_words : Stmt := topS 10
theorem sc_split_words : FnScope ["text", "words", "at", "end"] ["text"] (defScope s_split_words) := ⟨rfl, rfl, rfl, by decide +kernel, rfl, by decide +kernel, by decide +kernel⟩
theorem ok_split_words {f : Addr} {fd : FuncData} (Fu : Fun K "split_words" "split_words" s_split_words f fd) (D__word_end : DefAt P w K mg base CX0 2 "_word_end" ["text", "start"] (spP K mg m_word_end)) (R_Unread : ErrAt P w K mg base 1 "Unread" "at") (z_len : mg "len" = none) : FnOk P w K mg base (L2N.CX P w) 3 f fd ["text"] (spXF K mg m_split_words) := by
  refine def_XF (τ := (Ar Str Unit)) (α := Str) Fu sc_split_words (fun a => [vl K mg a.x, none, none, none]) (fun vs R a h => by
    obtain ⟨v0, w0, e0, h0, e1⟩ := h
    cases e1; cases e0
    exact ⟨rfl, .cons h0 (.cons trivial (.cons trivial (.cons trivial (.nil))))⟩) (fun cdv A outer s H Av E a hr htk => ?_)
  refine tT_cast (b_Np (s_own 1 sc_split_words.nd (List.nil_sublist _) (f_lst (l_nil (α := Str)))) (fun words_31 p32 => (b_N (s_set 2 sc_split_words.nd (List.nil_sublist _) (n_int (b := true))) (fun at_33 => (b_N (s_whileC (Sp3.mk : Sp3 (fun b : (Int × (List Str)) => [vl K mg (a.x : Str), rf p32, vl K mg (b.1 : Int), none]) (fun b : (Int × (List Str)) => ([ow K mg p32 (b.2 : (List Str))] : List Own)) (at_33, words_31)) (passes_of rfl) (fun b34 => (t_lt (n_var 2) (n_lenS (b3 := true) (pe_callB call_len_str (by rfl) z_len (by decide +kernel) (pa_cons (n_var 0) pa_nil)) rfl))) (fun _ => (List.nil_sublist _)) ⟨.inr rfl, .inr rfl, .inr rfl, .inl rfl, trivial⟩ (List.Sublist.refl _) (fun b34 => (c_ifQ (t_eqS (n_idxS (b3 := true) (n_var 0) (n_var 2)) (n_str (b := true))) (q_N (s_aug 2 sc_split_words.nd (List.nil_sublist _) rfl ip_add (n_int (b := true))) (fun at_42 => (q_end (at_42, b34.2) ⟨.inr rfl, .inr rfl, .inr rfl, .inl rfl, trivial⟩ (List.Sublist.cons₂ _ (List.nil_sublist _))))) (c_N (s_set 3 sc_split_words.nd (List.nil_sublist _) (nq_call D__word_end (hr.mono (by decide)) (a_cons (n_var 0) (a_cons (n_var 2) a_nil)))) (fun end_38 => (c_ifE (D' := (List Str)) (Ret := rF (F0 K mg H Av E)) (t_le (n_var 3) (n_var 2)) (b_s (s_raise R_Unread (hr.mono (by decide)) rfl (htk _ _) (List.nil_sublist _) (n_len (b3 := true) (pe_callB call_len_seq (by rfl) z_len (by decide +kernel) (pa_cons (n_own 1 rfl List.mem_cons_self) pa_nil)) rfl))) (c_N (s_app 1 rfl (fun _ => List.nil_sublist _) (n_sliceS (b3 := true) (n_var 0) (o_some (n_var 2)) (o_some (n_var 3))) (fun h1 h2 => pe_bm PySem.F.plainAttrs_list PySem.F.slot_list_append PySem.F.type_list_append mt_append h1 h2)) (fun words_40 => (c_N (s_set 2 sc_split_words.nd (List.nil_sublist _) (n_var 3)) (fun at_41 => (c_end (at_41, words_40) ⟨.inr rfl, .inr rfl, .inr rfl, .inl rfl, trivial⟩ (List.Sublist.cons₂ _ (List.nil_sublist _))))))) (List.nil_sublist _)))) (List.nil_sublist _)))) (fun b35 => (b_retO 1 rfl (List.Perm.refl _) rfl (List.nil_sublist _)))))))) ?_
  try simp -implicitDefEqProofs only [Res.bind_ok]
  rfl

/-! ### _law_digit -/
noncomputable def m_law_digit (xs0 : P3) (a : (Ar Int Unit)) : Res (Int × P3) :=
  (let cells_44 := xs0.cs
  ((if (decide (xs0.a = (0 : Int))) then ((need (List.length ([] : List Int) ≤ sizeLine) (Res.ok ([] : List Int))).bind fun v45 => need (shp cells_44 = true ∧ shp v45 = true) (Res.ok (!eqD cells_44 v45))) else Res.ok false).bind fun v57 => if v57 then ((need (CDivW xs0.b (List.length cells_44 : Int)) (Res.ok (xs0.b / (List.length cells_44 : Int)))).bind fun lap_52 => (((need (0 < (List.length cells_44 : Int)) (Res.ok (xs0.b % (List.length cells_44 : Int)))).bind fun v53 => idx cells_44 v53).bind fun v54 => Res.ok (v54 + lap_52)).bind fun v55 => (let v56 := ((({ xs0 with a := v55 } : P3).b) + (1 : Int))
  Res.ok ({ ({ xs0 with a := v55 } : P3) with b := v56 } : P3))) else (Res.ok xs0)).bind fun b51 => (need (0 < a.x) (Res.ok (b51.a % a.x))).bind fun digit_58 => (need (CDivW b51.a a.x) (Res.ok (b51.a / a.x))).bind fun v59 => Res.ok (digit_58, ({ b51 with a := v59 } : P3)))
abbrev s__law_digit : Stmt := topS 12
theorem sc__law_digit : FnScope ["pool", "many", "cells", "lap", "digit"] ["pool", "many"] (defScope s__law_digit) := ⟨rfl, rfl, rfl, by decide +kernel, rfl, by decide +kernel, by decide +kernel⟩
theorem ok__law_digit {f : Addr} {fd : FuncData} (Fu : Fun K "_law_digit" "_law_digit" s__law_digit f fd) (z_int : mg "int" = none) (z_len : mg "len" = none) : FnOk P w K mg base CX0 1 f fd ["pool", "many"] (spI K mg m_law_digit) := by
  refine def_I (τ := (Ar Int Unit)) (ρ := Int) (ι := P3) Fu sc__law_digit (fun p a => [rf p, vl K mg a.x, none, none, none]) (fun vs R p a h => by
    obtain ⟨v0, w0, e0, h0, e1⟩ := h
    cases e1; cases e0
    exact ⟨rfl, .cons rfl (.cons h0 (.cons trivial (.cons trivial (.cons trivial (.nil)))))⟩) (fun cdv A outer s H Av E p0 xs0 a hr => ?_)
  refine tT_cast (b_N (s_set 2 sc__law_digit.nd (List.nil_sublist _) (n_p3c 0 rfl List.mem_cons_self)) (fun cells_44 => (b_N (s_ifS (Sp2.mk : Sp2 (fun b : (P3) => [rf p0, vl K mg (a.x : Int), vl K mg (cells_44 : (List Int)), none, none]) (fun b : (P3) => ([ow K mg p0 (b : P3)] : List Own))) (PW.pt (w_and (t_eq (n_p3a (b := true) 0 rfl List.mem_cons_self) (n_int (b := true))) (w_and1 (t_neD (b1 := true) (b2 := true) (n_var 2) (f_val (f_lst (l_nil (α := Int)))) hr.units)))) (n_N (s_set 3 sc__law_digit.nd (List.nil_sublist _) (n_fdivW (b3 := true) (n_p3b (b := true) 0 rfl List.mem_cons_self) (n_len (b3 := true) (pe_callB call_len_seq (by rfl) z_len (by decide +kernel) (pa_cons (n_var 2) pa_nil)) rfl))) (fun lap_52 => (n_N (s_p3a 0 rfl (List.nil_sublist _) (n_add (b3 := true) (n_idx (n_var 2) (n_mod (b3 := true) (n_int1 (b3 := true) (pe_callTy call_int1 (by rfl) z_int (by decide +kernel) (pa_cons (n_p3b (b := true) 0 rfl List.mem_cons_self) pa_nil)) rfl) (n_len (b3 := true) (pe_callB call_len_seq (by rfl) z_len (by decide +kernel) (pa_cons (n_var 2) pa_nil)) rfl))) (n_var 3))) (fun v55 => (n_N (s_p3b 0 rfl (List.nil_sublist _) (n_add (b3 := true) (n_p3b (b := true) 0 rfl List.mem_cons_self) (n_int (b := true)))) (fun v56 => (n_end ({ ({ xs0 with a := v55 } : P3) with b := v56 } : P3) ⟨.inr rfl, .inr rfl, .inr rfl, .inl rfl, .inl rfl, trivial⟩ (List.Sublist.cons₂ _ (List.nil_sublist _))))))))) (n_end xs0 ⟨.inr rfl, .inr rfl, .inr rfl, .inl rfl, .inl rfl, trivial⟩ (List.Sublist.cons₂ _ (List.nil_sublist _))) (List.nil_sublist _)) (fun b51 => (b_N (s_set 4 sc__law_digit.nd (List.nil_sublist _) (n_mod (b3 := true) (n_int1 (b3 := true) (pe_callTy call_int1 (by rfl) z_int (by decide +kernel) (pa_cons (n_p3a (b := true) 0 rfl List.mem_cons_self) pa_nil)) rfl) (n_var 1))) (fun digit_58 => (b_N (s_p3a 0 rfl (List.nil_sublist _) (n_fdivW (b3 := true) (n_p3a (b := true) 0 rfl List.mem_cons_self) (n_var 1))) (fun v59 => (b_retI (n_var 4) (List.Sublist.cons₂ _ (List.nil_sublist _)) (List.nil_sublist _)))))))))) ?_
  try simp -implicitDefEqProofs only [Res.bind_ok]
  rfl

/-! ### _law_letters -/
noncomputable def m_law_letters (a : Unit) : Res Str :=
  Res.ok (PySem.Str.ofString "abcdefghijklmnopqrstuvwxyz")
abbrev s__law_letters : Stmt := topS 13
theorem sc__law_letters : FnScope [] [] (defScope s__law_letters) := ⟨rfl, rfl, rfl, by decide +kernel, rfl, by decide +kernel, by decide +kernel⟩
theorem ok__law_letters {f : Addr} {fd : FuncData} (Fu : Fun K "_law_letters" "_law_letters" s__law_letters f fd) : FnOk P w K mg base CX0 1 f fd [] (spP K mg m_law_letters) := by
  refine def_P (τ := Unit) (ρ := Str) Fu sc__law_letters (fun a => []) (fun vs R a h => by
    have e0 := h
    cases e0
    exact ⟨rfl, .nil⟩) (fun cdv A outer s H Av E a hr => ?_)
  refine tT_cast (b_ret (n_str (b := true)) (List.nil_sublist _)) ?_
  try simp -implicitDefEqProofs only [Res.bind_ok]
  rfl

/-! ### _law_strange -/
noncomputable def m_law_strange (a : Unit) : Res Str :=
  Res.ok (PySem.Str.ofString "!\"#$&*+./:;?\x40[\\]^_`{|}~ABCDEFGHIJKLMNOPQRSTUVWXYZ")
abbrev s__law_strange : Stmt := topS 14
theorem sc__law_strange : FnScope [] [] (defScope s__law_strange) := ⟨rfl, rfl, rfl, by decide +kernel, rfl, by decide +kernel, by decide +kernel⟩
theorem ok__law_strange {f : Addr} {fd : FuncData} (Fu : Fun K "_law_strange" "_law_strange" s__law_strange f fd) : FnOk P w K mg base CX0 1 f fd [] (spP K mg m_law_strange) := by
  refine def_P (τ := Unit) (ρ := Str) Fu sc__law_strange (fun a => []) (fun vs R a h => by
    have e0 := h
    cases e0
    exact ⟨rfl, .nil⟩) (fun cdv A outer s H Av E a hr => ?_)
  refine tT_cast (b_ret (n_str (b := true)) (List.nil_sublist _)) ?_
  try simp -implicitDefEqProofs only [Res.bind_ok]
  rfl

/-! ### _law_keys -/
noncomputable def m_law_keys (a : Unit) : Res (List Str) :=
  (need (List.length ((PySem.Str.ofString "from") :: ((PySem.Str.ofString "join") :: ((PySem.Str.ofString "on") :: ((PySem.Str.ofString "where") :: ((PySem.Str.ofString "and") :: ((PySem.Str.ofString "or") :: ((PySem.Str.ofString "not") :: ((PySem.Str.ofString "in") :: ((PySem.Str.ofString "group") :: ((PySem.Str.ofString "tell") :: ((PySem.Str.ofString "count") :: []))))))))))) ≤ sizeLine) (Res.ok ((PySem.Str.ofString "from") :: ((PySem.Str.ofString "join") :: ((PySem.Str.ofString "on") :: ((PySem.Str.ofString "where") :: ((PySem.Str.ofString "and") :: ((PySem.Str.ofString "or") :: ((PySem.Str.ofString "not") :: ((PySem.Str.ofString "in") :: ((PySem.Str.ofString "group") :: ((PySem.Str.ofString "tell") :: ((PySem.Str.ofString "count") :: []))))))))))))).bind fun words_60 => ((need (List.length ((PySem.Str.ofString "distinct") :: ((PySem.Str.ofString "least") :: ((PySem.Str.ofString "greatest") :: ((PySem.Str.ofString "sum") :: ((PySem.Str.ofString "order") :: ((PySem.Str.ofString "down") :: ((PySem.Str.ofString "first") :: ((PySem.Str.ofString "at") :: ((PySem.Str.ofString "inn") :: []))))))))) ≤ sizeLine) (Res.ok ((PySem.Str.ofString "distinct") :: ((PySem.Str.ofString "least") :: ((PySem.Str.ofString "greatest") :: ((PySem.Str.ofString "sum") :: ((PySem.Str.ofString "order") :: ((PySem.Str.ofString "down") :: ((PySem.Str.ofString "first") :: ((PySem.Str.ofString "at") :: ((PySem.Str.ofString "inn") :: []))))))))))).bind fun v61 => need (List.length words_60 + List.length v61 ≤ sizeLine) (Res.ok (words_60 ++ v61))).bind fun words_62 => (need (List.length ((PySem.Str.ofString "fromm") :: ((PySem.Str.ofString "price") :: ((PySem.Str.ofString "oslo") :: ((PySem.Str.ofString "aa") :: ((PySem.Str.ofString "zzzzzzzz") :: ((PySem.Str.ofString "always") :: ((PySem.Str.ofString "value") :: []))))))) ≤ sizeLine) (Res.ok ((PySem.Str.ofString "fromm") :: ((PySem.Str.ofString "price") :: ((PySem.Str.ofString "oslo") :: ((PySem.Str.ofString "aa") :: ((PySem.Str.ofString "zzzzzzzz") :: ((PySem.Str.ofString "always") :: ((PySem.Str.ofString "value") :: []))))))))).bind fun v63 => need (List.length words_62 + List.length v63 ≤ sizeLine) (Res.ok (words_62 ++ v63))
abbrev s__law_keys : Stmt := topS 15
theorem sc__law_keys : FnScope ["words"] [] (defScope s__law_keys) := ⟨rfl, rfl, rfl, by decide +kernel, rfl, by decide +kernel, by decide +kernel⟩
theorem ok__law_keys {f : Addr} {fd : FuncData} (Fu : Fun K "_law_keys" "_law_keys" s__law_keys f fd) : FnOk P w K mg base CX0 1 f fd [] (spP K mg m_law_keys) := by
  refine def_P (τ := Unit) (ρ := (List Str)) Fu sc__law_keys (fun a => [none]) (fun vs R a h => by
    have e0 := h
    cases e0
    exact ⟨rfl, .cons trivial (.nil)⟩) (fun cdv A outer s H Av E a hr => ?_)
  refine tT_cast (b_N (s_set 0 sc__law_keys.nd (List.nil_sublist _) (f_val (f_lst (l_cons (n_str (b := true)) (l_cons (n_str (b := true)) (l_cons (n_str (b := true)) (l_cons (n_str (b := true)) (l_cons (n_str (b := true)) (l_cons (n_str (b := true)) (l_cons (n_str (b := true)) (l_cons (n_str (b := true)) (l_cons (n_str (b := true)) (l_cons (n_str (b := true)) (l_cons (n_str (b := true)) (l_nil (α := Str)))))))))))))))) (fun words_60 => (b_N (s_set 0 sc__law_keys.nd (List.nil_sublist _) (f_val (f_cat (n_var 0) (f_val (f_lst (l_cons (n_str (b := true)) (l_cons (n_str (b := true)) (l_cons (n_str (b := true)) (l_cons (n_str (b := true)) (l_cons (n_str (b := true)) (l_cons (n_str (b := true)) (l_cons (n_str (b := true)) (l_cons (n_str (b := true)) (l_cons (n_str (b := true)) (l_nil (α := Str)))))))))))))))) (fun words_62 => (b_ret (f_val (f_cat (n_var 0) (f_val (f_lst (l_cons (n_str (b := true)) (l_cons (n_str (b := true)) (l_cons (n_str (b := true)) (l_cons (n_str (b := true)) (l_cons (n_str (b := true)) (l_cons (n_str (b := true)) (l_cons (n_str (b := true)) (l_nil (α := Str))))))))))))) (List.nil_sublist _)))))) ?_
  try simp -implicitDefEqProofs only [Res.bind_ok]
  rfl

/-! ### _law_signs -/
noncomputable def m_law_signs (a : Unit) : Res (List Str) :=
  need (List.length ((PySem.Str.ofString "=") :: ((PySem.Str.ofString "<>") :: ((PySem.Str.ofString "<") :: ((PySem.Str.ofString "<=") :: ((PySem.Str.ofString ">") :: ((PySem.Str.ofString ">=") :: ((PySem.Str.ofString "(") :: ((PySem.Str.ofString ")") :: ((PySem.Str.ofString ",") :: []))))))))) ≤ sizeLine) (Res.ok ((PySem.Str.ofString "=") :: ((PySem.Str.ofString "<>") :: ((PySem.Str.ofString "<") :: ((PySem.Str.ofString "<=") :: ((PySem.Str.ofString ">") :: ((PySem.Str.ofString ">=") :: ((PySem.Str.ofString "(") :: ((PySem.Str.ofString ")") :: ((PySem.Str.ofString ",") :: []))))))))))
abbrev s__law_signs : Stmt := topS 16
theorem sc__law_signs : FnScope [] [] (defScope s__law_signs) := ⟨rfl, rfl, rfl, by decide +kernel, rfl, by decide +kernel, by decide +kernel⟩
theorem ok__law_signs {f : Addr} {fd : FuncData} (Fu : Fun K "_law_signs" "_law_signs" s__law_signs f fd) : FnOk P w K mg base CX0 1 f fd [] (spP K mg m_law_signs) := by
  refine def_P (τ := Unit) (ρ := (List Str)) Fu sc__law_signs (fun a => []) (fun vs R a h => by
    have e0 := h
    cases e0
    exact ⟨rfl, .nil⟩) (fun cdv A outer s H Av E a hr => ?_)
  refine tT_cast (b_ret (f_val (f_lst (l_cons (n_str (b := true)) (l_cons (n_str (b := true)) (l_cons (n_str (b := true)) (l_cons (n_str (b := true)) (l_cons (n_str (b := true)) (l_cons (n_str (b := true)) (l_cons (n_str (b := true)) (l_cons (n_str (b := true)) (l_cons (n_str (b := true)) (l_nil (α := Str))))))))))))) (List.nil_sublist _)) ?_
  try simp -implicitDefEqProofs only [Res.bind_ok]
  rfl

/-! ### _law_drawn -/
noncomputable def m_law_drawn (xs0 : P3) (a : (Ar Str (Ar Int Unit))) : Res (Str × P3) :=
  (need (Str.length a.x ≤ sizeLine) (Res.ok (Str.length a.x : Int))).bind fun many_64 => (((need (Rg62 a.r.x) (Res.ok (irange 0 a.r.x))).bind fun v65 => Res.ok (v65, xs0)).bind fun u73 => need (List.length u73.1 ≤ sizeLine) (filtE (fun (a66 : Int) (xs69 : P3) => Res.quiet (Res.ok (true, xs69))) (fun (a66 : Int) (xs69 : P3) => Res.quiet ((m_law_digit xs69 (Ar.mk many_64 ())).bind fun u71 => (idxS a.x u71.1).bind fun v72 => Res.ok (v72, u71.2))) u73.1 u73.2)).bind fun u74 => need (((u74.1.map (fun z => Str.length z)).sum + u74.1.length * Str.length (PySem.Str.ofString "")) ≤ 16777216) (Res.ok (Txt.join (PySem.Str.ofString "") u74.1, u74.2))
abbrev s__law_drawn : Stmt := topS 17
theorem sc__law_drawn : FnScope ["pool", "signs", "size", "many", "k"] ["pool", "signs", "size"] (defScope s__law_drawn) := ⟨rfl, rfl, rfl, by decide +kernel, rfl, by decide +kernel, by decide +kernel⟩
theorem ok__law_drawn {f : Addr} {fd : FuncData} (Fu : Fun K "_law_drawn" "_law_drawn" s__law_drawn f fd) (D__law_digit : DefAt P w K mg base CX0 1 "_law_digit" ["pool", "many"] (spI K mg m_law_digit)) (z_len : mg "len" = none) (z_range : mg "range" = none) : FnOk P w K mg base CX0 2 f fd ["pool", "signs", "size"] (spI K mg m_law_drawn) := by
  refine def_I (τ := (Ar Str (Ar Int Unit))) (ρ := Str) (ι := P3) Fu sc__law_drawn (fun p a => [rf p, vl K mg a.x, vl K mg a.r.x, none, none]) (fun vs R p a h => by
    obtain ⟨v0, w0, e0, h0, v1, w1, e1, h1, e2⟩ := h
    cases e2; cases e1; cases e0
    exact ⟨rfl, .cons rfl (.cons h0 (.cons h1 (.cons trivial (.cons trivial (.nil)))))⟩) (fun cdv A outer s H Av E p0 xs0 a hr => ?_)
  refine tT_cast (b_N (s_set 3 sc__law_drawn.nd (List.nil_sublist _) (n_lenS (b3 := true) (pe_callB call_len_str (by rfl) z_len (by decide +kernel) (pa_cons (n_var 1) pa_nil)) rfl)) (fun many_64 => (b_retE (e_join (n_str (b := true)) (e_lc (own := [("k", 4)]) rfl sc__law_drawn.nd (i_pE (List.nil_sublist _) (i_range1 (b' := true) (n_var 2) z_range)) (blkOk_by (N := ["pool", "signs", "size", "many", "k"]) (sc := defScope s__law_drawn) (by decide +kernel)) (tgok_name 4) (fun _ _ _ _ _ => (tg_name 4 sc__law_drawn.nd)) (fun _ _ _ _ _ a66 D67 ds68 xs69 => ts_nilE) (fun _ _ _ _ _ a66 D67 ds68 xs69 => (e_idxS (b3 := true) (e_p (List.nil_sublist _) (n_var 1)) (fun xs70 => (e_call 0 D__law_digit (hr.mono (by decide)) rfl (ea_p (List.nil_sublist _) (a_cons (n_var 3) a_nil)))) (fun _ => List.nil_sublist _)))))))) ?_
  try simp -implicitDefEqProofs only [Res.bind_ok]
  rfl

/-! ### _law_word -/
noncomputable def m_law_word (xs0 : P3) (a : Unit) : Res (Str × P3) :=
  (m_law_digit xs0 (Ar.mk (8 : Int) ())).bind fun kind_75 => if (decide (kind_75.1 < (2 : Int))) then ((m_law_keys ()).bind fun words_76 => (m_law_digit kind_75.2 (Ar.mk (List.length words_76 : Int) ())).bind fun u78 => (idx words_76 u78.1).bind fun v79 => Res.ok (v79, u78.2)) else (if (decide (kind_75.1 = (2 : Int))) then (((m_law_letters ()).bind fun v83 => ((m_law_digit kind_75.2 (Ar.mk (12 : Int) ())).bind fun u81 => Res.ok (((1 : Int) + u81.1), u81.2)).bind fun u84 => Res.ok (Ar.mk v83 (Ar.mk u84.1 ()), u84.2)).bind fun u85 => m_law_drawn u85.2 u85.1) else (if (decide (kind_75.1 = (3 : Int))) then ((((m_law_digit kind_75.2 (Ar.mk (12 : Int) ())).bind fun u87 => Res.ok (((1 : Int) + u87.1), u87.2)).bind fun u89 => Res.ok (Ar.mk (PySem.Str.ofString "0123456789") (Ar.mk u89.1 ()), u89.2)).bind fun u90 => m_law_drawn u90.2 u90.1) else (if (decide (kind_75.1 = (4 : Int))) then (((((m_law_digit kind_75.2 (Ar.mk (12 : Int) ())).bind fun u98 => Res.ok (((1 : Int) + u98.1), u98.2)).bind fun u100 => Res.ok (Ar.mk (PySem.Str.ofString "0123456789") (Ar.mk u100.1 ()), u100.2)).bind fun u101 => m_law_drawn u101.2 u101.1).bind fun u102 => (need (Str.length (PySem.Str.ofString "-") + Str.length u102.1 ≤ sizeLine) (Res.ok ((PySem.Str.ofString "-") ++ u102.1))).bind fun v103 => Res.ok (v103, u102.2)) else (if (decide (kind_75.1 < (7 : Int))) then (((m_law_signs ()).bind fun v104 => Res.ok (v104, kind_75.2)).bind fun u106 => (m_law_digit u106.2 (Ar.mk (9 : Int) ())).bind fun u107 => (idx u106.1 u107.1).bind fun v108 => Res.ok (v108, u107.2)) else ((((m_law_letters ()).bind fun v109 => need (Str.length v109 + Str.length (PySem.Str.ofString " 0123456789(),<>=-") ≤ sizeLine) (Res.ok (v109 ++ (PySem.Str.ofString " 0123456789(),<>=-")))).bind fun v110 => (m_law_strange ()).bind fun v111 => need (Str.length v110 + Str.length v111 ≤ sizeLine) (Res.ok (v110 ++ v111))).bind fun signs_112 => (((need (List.length ((3 : Int) :: ((0 : Int) :: ((1 : Int) :: ((2 : Int) :: ((4 : Int) :: ((5 : Int) :: ((6 : Int) :: ((7 : Int) :: ((8 : Int) :: []))))))))) ≤ sizeLine) (Res.ok ((3 : Int) :: ((0 : Int) :: ((1 : Int) :: ((2 : Int) :: ((4 : Int) :: ((5 : Int) :: ((6 : Int) :: ((7 : Int) :: ((8 : Int) :: []))))))))))).bind fun v113 => Res.ok (v113, kind_75.2)).bind fun u115 => (m_law_digit u115.2 (Ar.mk (9 : Int) ())).bind fun u116 => (idx u115.1 u116.1).bind fun v117 => Res.ok (v117, u116.2)).bind fun size_118 => ((m_law_drawn size_118.2 (Ar.mk signs_112 (Ar.mk size_118.1 ()))).bind fun u124 => (need (Str.length (PySem.Str.ofString "'") + Str.length u124.1 ≤ sizeLine) (Res.ok ((PySem.Str.ofString "'") ++ u124.1))).bind fun v125 => Res.ok (v125, u124.2)).bind fun u127 => (need (Str.length u127.1 + Str.length (PySem.Str.ofString "'") ≤ sizeLine) (Res.ok (u127.1 ++ (PySem.Str.ofString "'")))).bind fun v128 => Res.ok (v128, u127.2))))))
abbrev s__law_word : Stmt := topS 18
theorem sc__law_word : FnScope ["pool", "kind", "words", "signs", "size"] ["pool"] (defScope s__law_word) := ⟨rfl, rfl, rfl, by decide +kernel, rfl, by decide +kernel, by decide +kernel⟩
theorem ok__law_word {f : Addr} {fd : FuncData} (Fu : Fun K "_law_word" "_law_word" s__law_word f fd) (D__law_digit : DefAt P w K mg base CX0 1 "_law_digit" ["pool", "many"] (spI K mg m_law_digit)) (D__law_keys : DefAt P w K mg base CX0 1 "_law_keys" [] (spP K mg m_law_keys)) (D__law_drawn : DefAt P w K mg base CX0 2 "_law_drawn" ["pool", "signs", "size"] (spI K mg m_law_drawn)) (D__law_letters : DefAt P w K mg base CX0 1 "_law_letters" [] (spP K mg m_law_letters)) (D__law_signs : DefAt P w K mg base CX0 1 "_law_signs" [] (spP K mg m_law_signs)) (D__law_strange : DefAt P w K mg base CX0 1 "_law_strange" [] (spP K mg m_law_strange)) (z_len : mg "len" = none) : FnOk P w K mg base CX0 3 f fd ["pool"] (spI K mg m_law_word) := by
  refine def_I (τ := Unit) (ρ := Str) (ι := P3) Fu sc__law_word (fun p a => [rf p, none, none, none, none]) (fun vs R p a h => by
    have e0 := h
    cases e0
    exact ⟨rfl, .cons rfl (.cons trivial (.cons trivial (.cons trivial (.cons trivial (.nil)))))⟩) (fun cdv A outer s H Av E p0 xs0 a hr => ?_)
  refine tT_cast (b_N (s_setE 1 sc__law_word.nd (e_call 0 D__law_digit (hr.mono (by decide)) rfl (ea_p (List.nil_sublist _) (a_cons (n_int (b := true)) a_nil)))) (fun kind_75 => (b_if (t_lt (n_var 1) (n_int (b := true))) (b_N (s_set 2 sc__law_word.nd (List.nil_sublist _) (nd_call0 (b := true) D__law_keys (hr.mono (by decide)))) (fun words_76 => (b_retE (e_idx (e_p (List.nil_sublist _) (n_var 2)) (fun xs77 => (e_call 0 D__law_digit (hr.mono (by decide)) rfl (ea_p (List.nil_sublist _) (a_cons (n_len (b3 := true) (pe_callB call_len_seq (by rfl) z_len (by decide +kernel) (pa_cons (n_var 2) pa_nil)) rfl) a_nil)))) (fun _ => List.nil_sublist _))))) (b_if (t_eq (n_var 1) (n_int (b := true))) (b_retE (e_call 0 D__law_drawn (hr.mono (by decide)) rfl (ea_consP (List.nil_sublist _) (nd_call0 (b := true) D__law_letters (hr.mono (by decide))) (ea_cons (e_add (b3 := true) (e_p (List.nil_sublist _) (n_int (b := true))) (fun xs80 => (e_call 0 D__law_digit (hr.mono (by decide)) rfl (ea_p (List.nil_sublist _) (a_cons (n_int (b := true)) a_nil)))) (fun _ => List.nil_sublist _)) (fun xs82 => (ea_p (List.nil_sublist _) a_nil)))))) (b_if (t_eq (n_var 1) (n_int (b := true))) (b_retE (e_call 0 D__law_drawn (hr.mono (by decide)) rfl (ea_consP (List.nil_sublist _) (n_str (b := true)) (ea_cons (e_add (b3 := true) (e_p (List.nil_sublist _) (n_int (b := true))) (fun xs86 => (e_call 0 D__law_digit (hr.mono (by decide)) rfl (ea_p (List.nil_sublist _) (a_cons (n_int (b := true)) a_nil)))) (fun _ => List.nil_sublist _)) (fun xs88 => (ea_p (List.nil_sublist _) a_nil)))))) (b_if (t_eq (n_var 1) (n_int (b := true))) (b_retE (e_catS (b3 := true) (e_p (List.nil_sublist _) (n_str (b := true))) (fun xs96 => (e_call 0 D__law_drawn (hr.mono (by decide)) rfl (ea_consP (List.nil_sublist _) (n_str (b := true)) (ea_cons (e_add (b3 := true) (e_p (List.nil_sublist _) (n_int (b := true))) (fun xs97 => (e_call 0 D__law_digit (hr.mono (by decide)) rfl (ea_p (List.nil_sublist _) (a_cons (n_int (b := true)) a_nil)))) (fun _ => List.nil_sublist _)) (fun xs99 => (ea_p (List.nil_sublist _) a_nil)))))) (fun _ => List.nil_sublist _))) (b_if (t_lt (n_var 1) (n_int (b := true))) (b_retE (e_idx (e_p (List.nil_sublist _) (nd_call0 (b := true) D__law_signs (hr.mono (by decide)))) (fun xs105 => (e_call 0 D__law_digit (hr.mono (by decide)) rfl (ea_p (List.nil_sublist _) (a_cons (n_int (b := true)) a_nil)))) (fun _ => List.nil_sublist _))) (b_N (s_set 3 sc__law_word.nd (List.nil_sublist _) (n_catS (b3 := true) (n_catS (b3 := true) (nd_call0 (b := true) D__law_letters (hr.mono (by decide))) (n_str (b := true))) (nd_call0 (b := true) D__law_strange (hr.mono (by decide))))) (fun signs_112 => (b_N (s_setE 4 sc__law_word.nd (e_idx (e_p (List.nil_sublist _) (f_val (f_lst (l_cons (n_int (b := true)) (l_cons (n_int (b := true)) (l_cons (n_int (b := true)) (l_cons (n_int (b := true)) (l_cons (n_int (b := true)) (l_cons (n_int (b := true)) (l_cons (n_int (b := true)) (l_cons (n_int (b := true)) (l_cons (n_int (b := true)) (l_nil (α := Int)))))))))))))) (fun xs114 => (e_call 0 D__law_digit (hr.mono (by decide)) rfl (ea_p (List.nil_sublist _) (a_cons (n_int (b := true)) a_nil)))) (fun _ => List.nil_sublist _))) (fun size_118 => (b_retE (e_catS (b3 := true) (e_catS (b3 := true) (e_p (List.nil_sublist _) (n_str (b := true))) (fun xs123 => (e_call 0 D__law_drawn (hr.mono (by decide)) rfl (ea_p (List.nil_sublist _) (a_cons (n_var 3) (a_cons (n_var 4) a_nil))))) (fun _ => List.nil_sublist _)) (fun xs126 => (e_p (List.nil_sublist _) (n_str (b := true)))) (fun _ => List.nil_sublist _))))))) (List.nil_sublist _)) (List.nil_sublist _)) (List.nil_sublist _)) (List.nil_sublist _)) (List.nil_sublist _)))) ?_
  unfold m_law_word
  simp -implicitDefEqProofs only [Res.bind_ok, Res.bind_assoc]
  all_goals rfl

/-! ### _law_one -/
noncomputable def m_law_one (a : (Ar Str (Ar Str Unit))) : Res Bool :=
  (m_law_letters ()).bind fun letters_129 => (let figures_130 := (PySem.Str.ofString "0123456789")
  if (decide (a.x = (PySem.Str.ofString ""))) then (Res.ok false) else ((((idxS a.x (-(1 : Int))).bind fun v131 => inS v131 letters_129).bind fun v133 => if v133 then ((idxS a.r.x (0 : Int)).bind fun v132 => inS v132 letters_129) else Res.ok false).bind fun v140 => if v140 then (Res.ok true) else ((((idxS a.x (-(1 : Int))).bind fun v134 => inS v134 figures_130).bind fun v136 => if v136 then ((idxS a.r.x (0 : Int)).bind fun v135 => inS v135 figures_130) else Res.ok false).bind fun v139 => if v139 then (Res.ok true) else (if (decide (a.x = (PySem.Str.ofString "<"))) then ((idxS a.r.x (0 : Int)).bind fun v137 => inS v137 (PySem.Str.ofString "=>")) else (if (decide (a.x = (PySem.Str.ofString ">"))) then ((idxS a.r.x (0 : Int)).bind fun v138 => Res.ok (decide (v138 = (PySem.Str.ofString "=")))) else Res.ok false)))))
abbrev s__law_one : Stmt := topS 19
theorem sc__law_one : FnScope ["last", "word", "letters", "figures"] ["last", "word"] (defScope s__law_one) := ⟨rfl, rfl, rfl, by decide +kernel, rfl, by decide +kernel, by decide +kernel⟩
theorem ok__law_one {f : Addr} {fd : FuncData} (Fu : Fun K "_law_one" "_law_one" s__law_one f fd) (D__law_letters : DefAt P w K mg base CX0 1 "_law_letters" [] (spP K mg m_law_letters)) : FnOk P w K mg base CX0 2 f fd ["last", "word"] (spP K mg m_law_one) := by
  refine def_P (τ := (Ar Str (Ar Str Unit))) (ρ := Bool) Fu sc__law_one (fun a => [vl K mg a.x, vl K mg a.r.x, none, none]) (fun vs R a h => by
    obtain ⟨v0, w0, e0, h0, v1, w1, e1, h1, e2⟩ := h
    cases e2; cases e1; cases e0
    exact ⟨rfl, .cons h0 (.cons h1 (.cons trivial (.cons trivial (.nil))))⟩) (fun cdv A outer s H Av E a hr => ?_)
  refine tT_cast (b_N (s_set 2 sc__law_one.nd (List.nil_sublist _) (nd_call0 (b := true) D__law_letters (hr.mono (by decide)))) (fun letters_129 => (b_N (s_set 3 sc__law_one.nd (List.nil_sublist _) (n_str (b := true))) (fun figures_130 => (b_if (t_eqS (n_var 0) (n_str (b := true))) (b_ret (n_bl (b := true)) (List.nil_sublist _)) (b_if (PW.pt (w_and (t_inS (n_idxS (b3 := true) (n_var 0) (n_neg (b3 := true) (n_int (b := true)))) (n_var 2)) (w_and1 (t_inS (n_idxS (b3 := true) (n_var 1) (n_int (b := true))) (n_var 2))))) (b_ret (n_bl (b := true)) (List.nil_sublist _)) (b_if (PW.pt (w_and (t_inS (n_idxS (b3 := true) (n_var 0) (n_neg (b3 := true) (n_int (b := true)))) (n_var 3)) (w_and1 (t_inS (n_idxS (b3 := true) (n_var 1) (n_int (b := true))) (n_var 3))))) (b_ret (n_bl (b := true)) (List.nil_sublist _)) (b_if (t_eqS (n_var 0) (n_str (b := true))) (b_ret (n_inS (b3 := true) (n_idxS (b3 := true) (n_var 1) (n_int (b := true))) (n_str (b := true))) (List.nil_sublist _)) (b_ret (n_and (b3 := true) (n_eqS (b3 := true) (n_var 0) (n_str (b := true))) (n_one (n_eqS (b3 := true) (n_idxS (b3 := true) (n_var 1) (n_int (b := true))) (n_str (b := true))))) (List.nil_sublist _)) (List.nil_sublist _)) (List.nil_sublist _)) (List.nil_sublist _)) (List.nil_sublist _)))))) ?_
  try simp -implicitDefEqProofs only [Res.bind_ok]
  rfl

/-! ### _law_join -/
noncomputable def m_law_join (xs0 : P3) (a : (Ar (List Str) Unit)) : Res (Str × P3) :=
  (let text_141 := (PySem.Str.ofString "")
  (let last_142 := (PySem.Str.ofString "")
  (foldR (fun (a143 : Str) (b144 : (Str × Str × P3)) => (m_law_digit b144.2.2 (Ar.mk (3 : Int) ())).bind fun gap_147 => ((if (decide (gap_147.1 = (0 : Int))) then (m_law_one (Ar.mk b144.2.1 (Ar.mk a143 ()))) else Res.ok false).bind fun v151 => if v151 then ((let gap_150 := (1 : Int)
  Res.ok gap_150)) else (Res.ok gap_147.1)).bind fun b149 => (((need (CMulS (PySem.Str.ofString " ") b149) (Res.ok (Txt.mul (PySem.Str.ofString " ") b149))).bind fun v152 => need (Str.length b144.1 + Str.length v152 ≤ sizeLine) (Res.ok (b144.1 ++ v152))).bind fun v153 => need (Str.length v153 + Str.length a143 ≤ sizeLine) (Res.ok (v153 ++ a143))).bind fun text_154 => (let last_155 := a143
  Res.ok (text_154, last_155, gap_147.2))) a.x (text_141, last_142, xs0)).bind fun b146 => Res.ok (b146.1, b146.2.2)))
abbrev s__law_join : Stmt := topS 20
theorem sc__law_join : FnScope ["pool", "words", "text", "last", "word", "gap"] ["pool", "words"] (defScope s__law_join) := ⟨rfl, rfl, rfl, by decide +kernel, rfl, by decide +kernel, by decide +kernel⟩
theorem ok__law_join {f : Addr} {fd : FuncData} (Fu : Fun K "_law_join" "_law_join" s__law_join f fd) (D__law_digit : DefAt P w K mg base CX0 1 "_law_digit" ["pool", "many"] (spI K mg m_law_digit)) (D__law_one : DefAt P w K mg base CX0 2 "_law_one" ["last", "word"] (spP K mg m_law_one)) : FnOk P w K mg base CX0 3 f fd ["pool", "words"] (spI K mg m_law_join) := by
  refine def_I (τ := (Ar (List Str) Unit)) (ρ := Str) (ι := P3) Fu sc__law_join (fun p a => [rf p, vl K mg a.x, none, none, none, none]) (fun vs R p a h => by
    obtain ⟨v0, w0, e0, h0, e1⟩ := h
    cases e1; cases e0
    exact ⟨rfl, .cons rfl (.cons h0 (.cons trivial (.cons trivial (.cons trivial (.cons trivial (.nil))))))⟩) (fun cdv A outer s H Av E p0 xs0 a hr => ?_)
  refine tT_cast (b_N (s_set 2 sc__law_join.nd (List.nil_sublist _) (n_str (b := true))) (fun text_141 => (b_N (s_set 3 sc__law_join.nd (List.nil_sublist _) (n_str (b := true))) (fun last_142 => (b_N (s_for (Sp3.mk : Sp3 (fun b : (Str × Str × P3) => [rf p0, vl K mg (a.x : (List Str)), vl K mg (b.1 : Str), vl K mg (b.2.1 : Str), none, none]) (fun b : (Str × Str × P3) => ([ow K mg p0 (b.2.2 : P3)] : List Own)) (text_141, last_142, xs0)) PassesOwn.never rfl (i_lk (n_var 1)) (tg_name 4 sc__law_join.nd) (List.nil_sublist _) ⟨.inr rfl, .inr rfl, .inr rfl, .inr rfl, .inl rfl, .inl rfl, trivial⟩ (List.Sublist.refl _) (fun z145 a143 b144 => (n_N (s_setE 5 sc__law_join.nd (e_call 0 D__law_digit (hr.mono (by decide)) rfl (ea_p (List.nil_sublist _) (a_cons (n_int (b := true)) a_nil)))) (fun gap_147 => (n_N (s_ifS (Sp2.mk : Sp2 (fun b : (Int) => [rf p0, vl K mg (a.x : (List Str)), vl K mg (b144.1 : Str), vl K mg (b144.2.1 : Str), vl K mg (a143 : Str), vl K mg (b : Int)]) (fun b : (Int) => ([ow K mg p0 (gap_147.2 : P3)] : List Own))) (PW.pt (w_and (t_eq (n_var 5) (n_int (b := true))) (w_and1 (t_val (nd_call D__law_one (hr.mono (by decide)) (a_cons (n_var 3) (a_cons (n_var 4) a_nil))))))) (n_N (s_set 5 sc__law_join.nd (List.nil_sublist _) (n_int (b := true))) (fun gap_150 => (n_end gap_150 ⟨.inr rfl, .inr rfl, .inr rfl, .inr rfl, .inr rfl, .inr rfl, trivial⟩ (List.Sublist.cons₂ _ (List.nil_sublist _))))) (n_end gap_147.1 ⟨.inr rfl, .inr rfl, .inr rfl, .inr rfl, .inr rfl, .inr rfl, trivial⟩ (List.Sublist.cons₂ _ (List.nil_sublist _))) (List.nil_sublist _)) (fun b149 => (n_N (s_set 2 sc__law_join.nd (List.nil_sublist _) (n_catS (b3 := true) (n_catS (b3 := true) (n_var 2) (n_repS (b3 := true) (n_str (b := true)) (n_var 5))) (n_var 4))) (fun text_154 => (n_N (s_set 3 sc__law_join.nd (List.nil_sublist _) (n_var 4)) (fun last_155 => (n_end (text_154, last_155, gap_147.2) ⟨.inr rfl, .inr rfl, .inr rfl, .inr rfl, .inl rfl, .inl rfl, trivial⟩ (List.Sublist.cons₂ _ (List.nil_sublist _))))))))))))) (fun b146 => (b_retI (n_var 2) (List.Sublist.cons₂ _ (List.nil_sublist _)) (List.nil_sublist _)))))))) ?_
  try simp -implicitDefEqProofs only [Res.bind_ok]
  rfl

/-! ### _law_spoilt -/
noncomputable def m_law_spoilt (xs0 : P3) (a : (Ar (List Str) (Ar Int (Ar Int Unit)))) : Res (Str × P3) :=
  ((m_law_join xs0 (Ar.mk (cut a.x none (some a.r.x)) ())).bind fun u164 => ((m_law_digit u164.2 (Ar.mk (2 : Int) ())).bind fun u162 => (need (CMulS (PySem.Str.ofString " ") u162.1) (Res.ok (Txt.mul (PySem.Str.ofString " ") u162.1))).bind fun v163 => Res.ok (v163, u162.2)).bind fun u165 => (need (Str.length u164.1 + Str.length u165.1 ≤ sizeLine) (Res.ok (u164.1 ++ u165.1))).bind fun v166 => Res.ok (v166, u165.2)).bind fun front_167 => (let rest_168 := (cut a.x (some a.r.x) none)
  (if (decide (a.r.r.x = (5 : Int))) then ((need (List.length rest_168 ≤ sizeLine) (filtR (fun (a174 : Str) => Res.quiet ((inS (PySem.Str.ofString "'") a174).bind fun b => Res.ok (!b))) (fun (a174 : Str) => Res.quiet (Res.ok a174)) rest_168)).bind fun rest_177 => Res.ok rest_177) else (Res.ok rest_168)).bind fun b173 => (m_law_join front_167.2 (Ar.mk b173 ())).bind fun back_178 => if (decide (a.r.r.x = (3 : Int))) then ((((((m_law_strange ()).bind fun v193 => Res.ok (Ar.mk v193 (Ar.mk (1 : Int) ()))).bind fun v194 => Res.ok (v194, back_178.2)).bind fun u195 => m_law_drawn u195.2 u195.1).bind fun u196 => (need (Str.length front_167.1 + Str.length u196.1 ≤ sizeLine) (Res.ok (front_167.1 ++ u196.1))).bind fun v197 => Res.ok (v197, u196.2)).bind fun u199 => (need (Str.length u199.1 + Str.length back_178.1 ≤ sizeLine) (Res.ok (u199.1 ++ back_178.1))).bind fun v200 => Res.ok (v200, u199.2)) else (if (decide (a.r.r.x = (5 : Int))) then (((need (Str.length front_167.1 + Str.length (PySem.Str.ofString "'") ≤ sizeLine) (Res.ok (front_167.1 ++ (PySem.Str.ofString "'")))).bind fun v201 => need (Str.length v201 + Str.length back_178.1 ≤ sizeLine) (Res.ok (v201 ++ back_178.1))).bind fun v202 => Res.ok (v202, back_178.2)) else (((if (!decide (back_178.1 = (PySem.Str.ofString ""))) then ((idxS back_178.1 (0 : Int)).bind fun v203 => inS v203 (PySem.Str.ofString "0123456789")) else Res.ok false).bind fun v207 => if v207 then ((need (Str.length (PySem.Str.ofString " ") + Str.length back_178.1 ≤ sizeLine) (Res.ok ((PySem.Str.ofString " ") ++ back_178.1))).bind fun back_206 => Res.ok back_206) else (Res.ok back_178.1)).bind fun b205 => ((need (Str.length front_167.1 + Str.length (PySem.Str.ofString "-") ≤ sizeLine) (Res.ok (front_167.1 ++ (PySem.Str.ofString "-")))).bind fun v208 => need (Str.length v208 + Str.length b205 ≤ sizeLine) (Res.ok (v208 ++ b205))).bind fun v209 => Res.ok (v209, back_178.2))))
abbrev s__law_spoilt : Stmt := topS 21
theorem sc__law_spoilt : FnScope ["pool", "words", "at", "mode", "front", "rest", "back", "word"] ["pool", "words", "at", "mode"] (defScope s__law_spoilt) := ⟨rfl, rfl, rfl, by decide +kernel, rfl, by decide +kernel, by decide +kernel⟩
theorem ok__law_spoilt {f : Addr} {fd : FuncData} (Fu : Fun K "_law_spoilt" "_law_spoilt" s__law_spoilt f fd) (D__law_join : DefAt P w K mg base CX0 3 "_law_join" ["pool", "words"] (spI K mg m_law_join)) (D__law_digit : DefAt P w K mg base CX0 1 "_law_digit" ["pool", "many"] (spI K mg m_law_digit)) (D__law_drawn : DefAt P w K mg base CX0 2 "_law_drawn" ["pool", "signs", "size"] (spI K mg m_law_drawn)) (D__law_strange : DefAt P w K mg base CX0 1 "_law_strange" [] (spP K mg m_law_strange)) : FnOk P w K mg base CX0 4 f fd ["pool", "words", "at", "mode"] (spI K mg m_law_spoilt) := by
  refine def_I (τ := (Ar (List Str) (Ar Int (Ar Int Unit)))) (ρ := Str) (ι := P3) Fu sc__law_spoilt (fun p a => [rf p, vl K mg a.x, vl K mg a.r.x, vl K mg a.r.r.x, none, none, none, none]) (fun vs R p a h => by
    obtain ⟨v0, w0, e0, h0, v1, w1, e1, h1, v2, w2, e2, h2, e3⟩ := h
    cases e3; cases e2; cases e1; cases e0
    exact ⟨rfl, .cons rfl (.cons h0 (.cons h1 (.cons h2 (.cons trivial (.cons trivial (.cons trivial (.cons trivial (.nil))))))))⟩) (fun cdv A outer s H Av E p0 xs0 a hr => ?_)
  refine tT_cast (b_N (s_setE 4 sc__law_spoilt.nd (e_catS (b3 := true) (e_call 0 D__law_join (hr.mono (by decide)) rfl (ea_p (List.nil_sublist _) (a_cons (f_val (f_slice (n_var 1) o_none (o_some (n_var 2)))) a_nil))) (fun xs160 => (e_repS (b3 := true) (e_p (List.nil_sublist _) (n_str (b := true))) (fun xs161 => (e_call 0 D__law_digit (hr.mono (by decide)) rfl (ea_p (List.nil_sublist _) (a_cons (n_int (b := true)) a_nil)))) (fun _ => List.nil_sublist _))) (fun _ => List.nil_sublist _))) (fun front_167 => (b_N (s_set 5 sc__law_spoilt.nd (List.nil_sublist _) (f_val (f_slice (n_var 1) (o_some (n_var 2)) o_none))) (fun rest_168 => (b_N (s_ifS (Sp2.mk : Sp2 (fun b : ((List Str)) => [rf p0, vl K mg (a.x : (List Str)), vl K mg (a.r.x : Int), vl K mg (a.r.r.x : Int), vl K mg (front_167.1 : Str), vl K mg (b : (List Str)), none, none]) (fun b : ((List Str)) => ([ow K mg p0 (front_167.2 : P3)] : List Own))) (t_eq (n_var 3) (n_int (b := true))) (n_N (s_setLc 5 (own := [("word", 7)]) rfl sc__law_spoilt.nd (List.nil_sublist _) (i_lk (n_var 5)) (.inl rfl) (blkOk_by (N := ["pool", "words", "at", "mode", "front", "rest", "back", "word"]) (sc := defScope s__law_spoilt) (by decide +kernel)) (tgok_name 7) (fun _ _ _ _ _ => (tg_name 7 sc__law_spoilt.nd)) (fun _ _ _ _ _ a174 D175 ds176 => (ts_one (t_ninS (n_str (b := true)) (n_var 7)))) (fun _ _ _ _ _ a174 D175 ds176 => (n_var 7))) (fun rest_177 => (n_end rest_177 ⟨.inr rfl, .inr rfl, .inr rfl, .inr rfl, .inr rfl, .inr rfl, .inl rfl, .inl rfl, trivial⟩ (List.Sublist.cons₂ _ (List.nil_sublist _))))) (n_end rest_168 ⟨.inr rfl, .inr rfl, .inr rfl, .inr rfl, .inr rfl, .inr rfl, .inl rfl, .inl rfl, trivial⟩ (List.Sublist.cons₂ _ (List.nil_sublist _))) (List.nil_sublist _)) (fun b173 => (b_N (s_setE 6 sc__law_spoilt.nd (e_call 0 D__law_join (hr.mono (by decide)) rfl (ea_p (List.nil_sublist _) (a_cons (n_var 5) a_nil)))) (fun back_178 => (b_if (t_eq (n_var 3) (n_int (b := true))) (b_retE (e_catS (b3 := true) (e_catS (b3 := true) (e_p (List.nil_sublist _) (n_var 4)) (fun xs192 => (e_call 0 D__law_drawn (hr.mono (by decide)) rfl (ea_p (List.nil_sublist _) (a_cons (nd_call0 (b := true) D__law_strange (hr.mono (by decide))) (a_cons (n_int (b := true)) a_nil))))) (fun _ => List.nil_sublist _)) (fun xs198 => (e_p (List.nil_sublist _) (n_var 6))) (fun _ => List.nil_sublist _))) (b_if (t_eq (n_var 3) (n_int (b := true))) (b_retI (n_catS (b3 := true) (n_catS (b3 := true) (n_var 4) (n_str (b := true))) (n_var 6)) (List.Sublist.cons₂ _ (List.nil_sublist _)) (List.nil_sublist _)) (b_N (s_ifS (Sp2.mk : Sp2 (fun b : (Str) => [rf p0, vl K mg (a.x : (List Str)), vl K mg (a.r.x : Int), vl K mg (a.r.r.x : Int), vl K mg (front_167.1 : Str), vl K mg (b173 : (List Str)), vl K mg (b : Str), none]) (fun b : (Str) => ([ow K mg p0 (back_178.2 : P3)] : List Own))) (PW.pt (w_and (t_neS (n_var 6) (n_str (b := true))) (w_and1 (t_inS (n_idxS (b3 := true) (n_var 6) (n_int (b := true))) (n_str (b := true)))))) (n_N (s_set 6 sc__law_spoilt.nd (List.nil_sublist _) (n_catS (b3 := true) (n_str (b := true)) (n_var 6))) (fun back_206 => (n_end back_206 ⟨.inr rfl, .inr rfl, .inr rfl, .inr rfl, .inr rfl, .inr rfl, .inr rfl, .inl rfl, trivial⟩ (List.Sublist.cons₂ _ (List.nil_sublist _))))) (n_end back_178.1 ⟨.inr rfl, .inr rfl, .inr rfl, .inr rfl, .inr rfl, .inr rfl, .inr rfl, .inl rfl, trivial⟩ (List.Sublist.cons₂ _ (List.nil_sublist _))) (List.nil_sublist _)) (fun b205 => (b_retI (n_catS (b3 := true) (n_catS (b3 := true) (n_var 4) (n_str (b := true))) (n_var 6)) (List.Sublist.cons₂ _ (List.nil_sublist _)) (List.nil_sublist _)))) (List.nil_sublist _)) (List.nil_sublist _)))))))))) ?_
  try simp -implicitDefEqProofs only [Res.bind_ok]
  rfl

/-! ### _law_raw -/
noncomputable def m_law_raw (xs0 : P3) (a : Unit) : Res (Str × P3) :=
  ((((m_law_letters ()).bind fun v210 => need (Str.length ((PySem.Str.ofString "ab z0'1<>=-(),(<>= -9'")) + Str.length v210 ≤ sizeLine) (Res.ok (((PySem.Str.ofString "ab z0'1<>=-(),(<>= -9'")) ++ v210))).bind fun v211 => need (Str.length v211 + Str.length (PySem.Str.ofString "23456780") ≤ sizeLine) (Res.ok (v211 ++ (PySem.Str.ofString "23456780")))).bind fun v212 => (m_law_strange ()).bind fun v213 => need (Str.length v212 + Str.length v213 ≤ sizeLine) (Res.ok (v212 ++ v213))).bind fun signs_214 => (let text_215 := (PySem.Str.ofString "")
  (((m_law_digit xs0 (Ar.mk (41 : Int) ())).bind fun u216 => need (Rg62 u216.1) (Res.ok (irange 0 u216.1, u216.2))).bind fun u247 => foldR (fun (a217 : Int) (b218 : (Str × P3)) => ((((((((need (Str.length signs_214 ≤ sizeLine) (Res.ok (Str.length signs_214 : Int))).bind fun v226 => Res.ok (v226 :: [])).bind fun v227 => Res.ok ((56 : Int) :: v227)).bind fun v228 => Res.ok ((22 : Int) :: v228)).bind fun v229 => Res.ok ((22 : Int) :: v229)).bind fun v230 => need (List.length v230 ≤ sizeLine) (Res.ok v230)).bind fun v231 => Res.ok (v231, b218.2)).bind fun u233 => (m_law_digit u233.2 (Ar.mk (4 : Int) ())).bind fun u234 => (idx u233.1 u234.1).bind fun v235 => Res.ok (v235, u234.2)).bind fun size_236 => (((m_law_digit size_236.2 (Ar.mk size_236.1 ())).bind fun u242 => (idxS signs_214 u242.1).bind fun v243 => Res.ok (v243, u242.2)).bind fun u244 => (need (Str.length b218.1 + Str.length u244.1 ≤ sizeLine) (Res.ok (b218.1 ++ u244.1))).bind fun v245 => Res.ok (v245, u244.2)).bind fun text_246 => Res.ok (text_246.1, text_246.2)) u247.1 (text_215, u247.2)).bind fun b220 => Res.ok (b220.1, b220.2))
abbrev s__law_raw : Stmt := topS 22
theorem sc__law_raw : FnScope ["pool", "signs", "text", "k", "size"] ["pool"] (defScope s__law_raw) := ⟨rfl, rfl, rfl, by decide +kernel, rfl, by decide +kernel, by decide +kernel⟩
theorem ok__law_raw {f : Addr} {fd : FuncData} (Fu : Fun K "_law_raw" "_law_raw" s__law_raw f fd) (D__law_letters : DefAt P w K mg base CX0 1 "_law_letters" [] (spP K mg m_law_letters)) (D__law_strange : DefAt P w K mg base CX0 1 "_law_strange" [] (spP K mg m_law_strange)) (D__law_digit : DefAt P w K mg base CX0 1 "_law_digit" ["pool", "many"] (spI K mg m_law_digit)) (z_len : mg "len" = none) (z_range : mg "range" = none) : FnOk P w K mg base CX0 2 f fd ["pool"] (spI K mg m_law_raw) := by
  refine def_I (τ := Unit) (ρ := Str) (ι := P3) Fu sc__law_raw (fun p a => [rf p, none, none, none, none]) (fun vs R p a h => by
    have e0 := h
    cases e0
    exact ⟨rfl, .cons rfl (.cons trivial (.cons trivial (.cons trivial (.cons trivial (.nil)))))⟩) (fun cdv A outer s H Av E p0 xs0 a hr => ?_)
  refine tT_cast (b_N (s_set 1 sc__law_raw.nd (List.nil_sublist _) (n_catS (b3 := true) (n_catS (b3 := true) (n_catS (b3 := true) (n_str (b := true)) (nd_call0 (b := true) D__law_letters (hr.mono (by decide)))) (n_str (b := true))) (nd_call0 (b := true) D__law_strange (hr.mono (by decide))))) (fun signs_214 => (b_N (s_set 2 sc__law_raw.nd (List.nil_sublist _) (n_str (b := true))) (fun text_215 => (b_N (s_forE (b0 := fun xs248 => (text_215, xs248)) (fun _ => (Sp3.mk : Sp3 (fun b : (Str × P3) => [rf p0, vl K mg (signs_214 : Str), vl K mg (b.1 : Str), none, none]) (fun b : (Str × P3) => ([ow K mg p0 (b.2 : P3)] : List Own)) _)) PassesOwn.never rfl (i_range1E (e_call 0 D__law_digit (hr.mono (by decide)) rfl (ea_p (List.nil_sublist _) (a_cons (n_int (b := true)) a_nil))) z_range) (tg_name 3 sc__law_raw.nd) (fun _ => (List.nil_sublist _)) (fun _ => ⟨.inr rfl, .inr rfl, .inr rfl, .inl rfl, .inl rfl, trivial⟩) (fun _ => List.Sublist.refl _) (fun z219 a217 b218 => (n_N (s_setE 4 sc__law_raw.nd (e_idx (e_p (List.nil_sublist _) (f_val (f_lst (l_cons (n_int (b := true)) (l_cons (n_int (b := true)) (l_cons (n_int (b := true)) (l_cons (n_lenS (b3 := true) (pe_callB call_len_str (by rfl) z_len (by decide +kernel) (pa_cons (n_var 1) pa_nil)) rfl) (l_nil (α := Int))))))))) (fun xs232 => (e_call 0 D__law_digit (hr.mono (by decide)) rfl (ea_p (List.nil_sublist _) (a_cons (n_int (b := true)) a_nil)))) (fun _ => List.nil_sublist _))) (fun size_236 => (n_N (s_setE 2 sc__law_raw.nd (e_catS (b3 := true) (e_p (List.nil_sublist _) (n_var 2)) (fun xs240 => (e_idxS (b3 := true) (e_p (List.nil_sublist _) (n_var 1)) (fun xs241 => (e_call 0 D__law_digit (hr.mono (by decide)) rfl (ea_p (List.nil_sublist _) (a_cons (n_var 4) a_nil)))) (fun _ => List.nil_sublist _))) (fun _ => List.nil_sublist _))) (fun text_246 => (n_end (text_246.1, text_246.2) ⟨.inr rfl, .inr rfl, .inr rfl, .inl rfl, .inl rfl, trivial⟩ (List.Sublist.cons₂ _ (List.nil_sublist _))))))))) (fun b220 => (b_retI (n_var 2) (List.Sublist.cons₂ _ (List.nil_sublist _)) (List.nil_sublist _)))))))) ?_
  try simp -implicitDefEqProofs only [Res.bind_ok]
  rfl

/-! ### _law_stretch -/
noncomputable def m_law_stretch (a : (Ar Str (Ar Int (Ar Str Unit)))) : Res Int :=
  (let size_249 := (0 : Int)
  goOn (((need (Str.length a.x ≤ sizeLine) (Res.ok (cutS a.x (some a.r.x) none))).bind fun v250 => Res.ok (txChars v250)).bind fun v257 => foldM (fun (a251 : Str) (b252 : (Int)) => ((inS a251 a.r.r.x).bind fun b => Res.ok (!b)).bind fun v256 => if v256 then ((Res.ok b252).bind fun d => Res.ok (Sum.inr d)) else ((let size_255 := (b252 + (1 : Int))
  Res.ok (Sum.inl size_255)))) v257 size_249) (fun b254 => Res.ok b254))
abbrev s__law_stretch : Stmt := topS 23
theorem sc__law_stretch : FnScope ["text", "at", "signs", "size", "sign"] ["text", "at", "signs"] (defScope s__law_stretch) := ⟨rfl, rfl, rfl, by decide +kernel, rfl, by decide +kernel, by decide +kernel⟩
theorem ok__law_stretch {f : Addr} {fd : FuncData} (Fu : Fun K "_law_stretch" "_law_stretch" s__law_stretch f fd) : FnOk P w K mg base CX0 1 f fd ["text", "at", "signs"] (spP K mg m_law_stretch) := by
  refine def_P (τ := (Ar Str (Ar Int (Ar Str Unit)))) (ρ := Int) Fu sc__law_stretch (fun a => [vl K mg a.x, vl K mg a.r.x, vl K mg a.r.r.x, none, none]) (fun vs R a h => by
    obtain ⟨v0, w0, e0, h0, v1, w1, e1, h1, v2, w2, e2, h2, e3⟩ := h
    cases e3; cases e2; cases e1; cases e0
    exact ⟨rfl, .cons h0 (.cons h1 (.cons h2 (.cons trivial (.cons trivial (.nil)))))⟩) (fun cdv A outer s H Av E a hr => ?_)
  refine tT_cast (b_N (s_set 3 sc__law_stretch.nd (List.nil_sublist _) (n_int (b := true))) (fun size_249 => (b_M (s_forM (Sp3.mk : Sp3 (fun b : (Int) => [vl K mg (a.x : Str), vl K mg (a.r.x : Int), vl K mg (a.r.r.x : Str), vl K mg (b : Int), none]) (fun b : (Int) => ([] : List Own)) size_249) PassesOwn.never rfl (i_str (b' := true) (n_sliceS (b3 := true) (n_var 0) (o_some (n_var 1)) o_none)) (tg_name 4 sc__law_stretch.nd) (List.nil_sublist _) ⟨.inr rfl, .inr rfl, .inr rfl, .inr rfl, .inl rfl, trivial⟩ (List.Sublist.refl _) (fun z253 a251 b252 => (m_if (t_ninS (n_var 4) (n_var 2)) (b_le (rV_le (.add (.refl _))) (b_ret (n_var 3) (List.nil_sublist _))) (m_N (s_set 3 sc__law_stretch.nd (List.nil_sublist _) (n_add (b3 := true) (n_var 3) (n_int (b := true)))) (fun size_255 => (m_end size_255 ⟨.inr rfl, .inr rfl, .inr rfl, .inr rfl, .inl rfl, trivial⟩ (List.nil_sublist _)))) (List.nil_sublist _)))) (fun b254 => (b_ret (n_var 3) (List.nil_sublist _)))))) ?_
  try simp -implicitDefEqProofs only [Res.bind_ok]
  rfl

/-! ### _law_size -/
noncomputable def m_law_size (a : (Ar Str (Ar Int Unit))) : Res Int :=
  (idxS a.x a.r.x).bind fun sign_258 => (need (Str.length a.x ≤ sizeLine) (Res.ok (cutS a.x (some (a.r.x + (1 : Int))) (some (a.r.x + (2 : Int)))))).bind fun after_259 => (inS sign_258 (PySem.Str.ofString "(),=")).bind fun v268 => if v268 then (Res.ok (1 : Int)) else (if (decide (sign_258 = (PySem.Str.ofString "<"))) then (((need (List.length ((PySem.Str.ofString "=") :: ((PySem.Str.ofString ">") :: [])) ≤ sizeLine) (Res.ok ((PySem.Str.ofString "=") :: ((PySem.Str.ofString ">") :: [])))).bind fun v260 => Res.ok (decide (after_259 ∈ v260))).bind fun v261 => if v261 then Res.ok (2 : Int) else Res.ok (1 : Int)) else (if (decide (sign_258 = (PySem.Str.ofString ">"))) then (if (decide (after_259 = (PySem.Str.ofString "="))) then Res.ok (2 : Int) else Res.ok (1 : Int)) else (if (decide (sign_258 = (PySem.Str.ofString "'"))) then (Res.ok (((Txt.find3 a.x (PySem.Str.ofString "'") (a.r.x + (1 : Int))) - a.r.x) + (1 : Int))) else (if (decide (sign_258 = (PySem.Str.ofString "-"))) then ((m_law_stretch (Ar.mk a.x (Ar.mk (a.r.x + (1 : Int)) (Ar.mk (PySem.Str.ofString "0123456789") ())))).bind fun size_262 => if (decide ((0 : Int) < size_262)) then Res.ok (size_262 + (1 : Int)) else Res.ok (0 : Int)) else ((m_law_stretch (Ar.mk a.x (Ar.mk a.r.x (Ar.mk (PySem.Str.ofString "0123456789") ())))).bind fun size_263 => if (decide ((0 : Int) < size_263)) then (Res.ok size_263) else (((((m_law_letters ()).bind fun v264 => Res.ok (Ar.mk v264 ())).bind fun r265 => Res.ok (Ar.mk a.r.x r265)).bind fun r266 => Res.ok (Ar.mk a.x r266)).bind fun u267 => m_law_stretch u267))))))
abbrev s__law_size : Stmt := topS 24
theorem sc__law_size : FnScope ["text", "at", "sign", "after", "size"] ["text", "at"] (defScope s__law_size) := ⟨rfl, rfl, rfl, by decide +kernel, rfl, by decide +kernel, by decide +kernel⟩
theorem ok__law_size {f : Addr} {fd : FuncData} (Fu : Fun K "_law_size" "_law_size" s__law_size f fd) (D__law_stretch : DefAt P w K mg base CX0 1 "_law_stretch" ["text", "at", "signs"] (spP K mg m_law_stretch)) (D__law_letters : DefAt P w K mg base CX0 1 "_law_letters" [] (spP K mg m_law_letters)) : FnOk P w K mg base CX0 2 f fd ["text", "at"] (spP K mg m_law_size) := by
  refine def_P (τ := (Ar Str (Ar Int Unit))) (ρ := Int) Fu sc__law_size (fun a => [vl K mg a.x, vl K mg a.r.x, none, none, none]) (fun vs R a h => by
    obtain ⟨v0, w0, e0, h0, v1, w1, e1, h1, e2⟩ := h
    cases e2; cases e1; cases e0
    exact ⟨rfl, .cons h0 (.cons h1 (.cons trivial (.cons trivial (.cons trivial (.nil)))))⟩) (fun cdv A outer s H Av E a hr => ?_)
  refine tT_cast (b_N (s_set 2 sc__law_size.nd (List.nil_sublist _) (n_idxS (b3 := true) (n_var 0) (n_var 1))) (fun sign_258 => (b_N (s_set 3 sc__law_size.nd (List.nil_sublist _) (n_sliceS (b3 := true) (n_var 0) (o_some (n_add (b3 := true) (n_var 1) (n_int (b := true)))) (o_some (n_add (b3 := true) (n_var 1) (n_int (b := true)))))) (fun after_259 => (b_if (t_inS (n_var 2) (n_str (b := true))) (b_ret (n_int (b := true)) (List.nil_sublist _)) (b_if (t_eqS (n_var 2) (n_str (b := true))) (b_ret (n_if (t_inL (n_var 3) (f_val (f_lst (l_cons (n_str (b := true)) (l_cons (n_str (b := true)) (l_nil (α := Str))))))) (n_int (b := true)) (n_int (b := true))) (List.nil_sublist _)) (b_if (t_eqS (n_var 2) (n_str (b := true))) (b_ret (n_if (t_eqS (n_var 3) (n_str (b := true))) (n_int (b := true)) (n_int (b := true))) (List.nil_sublist _)) (b_if (t_eqS (n_var 2) (n_str (b := true))) (b_ret (n_add (b3 := true) (n_sub (b3 := true) (n_find3 (b4 := true) (n_var 0) (n_str (b := true)) (n_add (b3 := true) (n_var 1) (n_int (b := true))) (fun h1 h2 => pe_bm PySem.F.plainAttrs_str PySem.F.slot_str_find PySem.F.type_str_find mt_find3 h1 h2)) (n_var 1)) (n_int (b := true))) (List.nil_sublist _)) (b_if (t_eqS (n_var 2) (n_str (b := true))) (b_N (s_set 4 sc__law_size.nd (List.nil_sublist _) (nd_call D__law_stretch (hr.mono (by decide)) (a_cons (n_var 0) (a_cons (n_add (b3 := true) (n_var 1) (n_int (b := true))) (a_cons (n_str (b := true)) a_nil))))) (fun size_262 => (b_ret (n_if (t_gt (n_var 4) (n_int (b := true))) (n_add (b3 := true) (n_var 4) (n_int (b := true))) (n_int (b := true))) (List.nil_sublist _)))) (b_N (s_set 4 sc__law_size.nd (List.nil_sublist _) (nd_call D__law_stretch (hr.mono (by decide)) (a_cons (n_var 0) (a_cons (n_var 1) (a_cons (n_str (b := true)) a_nil))))) (fun size_263 => (b_if (t_gt (n_var 4) (n_int (b := true))) (b_ret (n_var 4) (List.nil_sublist _)) (b_ret (nd_call D__law_stretch (hr.mono (by decide)) (a_cons (n_var 0) (a_cons (n_var 1) (a_cons (nd_call0 (b := true) D__law_letters (hr.mono (by decide))) a_nil)))) (List.nil_sublist _)) (List.nil_sublist _)))) (List.nil_sublist _)) (List.nil_sublist _)) (List.nil_sublist _)) (List.nil_sublist _)) (List.nil_sublist _)))))) ?_
  try simp -implicitDefEqProofs only [Res.bind_ok]
  rfl

/-! ### _law_divided -/
noncomputable def m_law_divided (a : (Ar Str Unit)) : Res (Str × PyData) :=
  (need (List.length ([] : List Str) ≤ sizeLine) (Res.ok ([] : List Str))).bind fun words_269 => (let skip_271 := (0 : Int)
  goOn (((need (Str.length a.x ≤ sizeLine) (Res.ok (Str.length a.x : Int))).bind fun v272 => need (Rg62 v272) (Res.ok (irange 0 v272))).bind fun v284 => foldM (fun (a273 : Int) (b274 : (Int × (List Str))) => if (decide ((0 : Int) < b274.1)) then ((let skip_277 := (b274.1 - (1 : Int))
  Res.ok (Sum.inl (skip_277, b274.2)))) else (((idxS a.x a273).bind fun v278 => Res.ok (!decide (v278 = (PySem.Str.ofString " ")))).bind fun v283 => if v283 then ((m_law_size (Ar.mk a.x (Ar.mk a273 ()))).bind fun size_279 => if (decide (size_279 < (1 : Int))) then ((Res.ok ((PySem.Str.ofString "unread"), (toD (List.length b274.2 : Int)))).bind fun d => Res.ok (Sum.inr d)) else (((need (Str.length a.x ≤ sizeLine) (Res.ok (cutS a.x (some a273) (some (a273 + size_279))))).bind fun v280 => need (List.length b274.2 < sizeLine) (Res.ok (b274.2 ++ [v280]))).bind fun words_281 => (let skip_282 := (size_279 - (1 : Int))
  Res.ok (Sum.inl (skip_282, words_281))))) else (Res.ok (Sum.inl (b274.1, b274.2))))) v284 (skip_271, words_269)) (fun b276 => Res.ok ((PySem.Str.ofString "words"), toD b276.2)))
abbrev s__law_divided : Stmt := topS 25
theorem sc__law_divided : FnScope ["text", "words", "skip", "at", "size"] ["text"] (defScope s__law_divided) := ⟨rfl, rfl, rfl, by decide +kernel, rfl, by decide +kernel, by decide +kernel⟩
theorem ok__law_divided {f : Addr} {fd : FuncData} (Fu : Fun K "_law_divided" "_law_divided" s__law_divided f fd) (D__law_size : DefAt P w K mg base CX0 2 "_law_size" ["text", "at"] (spP K mg m_law_size)) (z_len : mg "len" = none) (z_range : mg "range" = none) : FnOk P w K mg base CX0 3 f fd ["text"] (spP K mg m_law_divided) := by
  refine def_P (τ := (Ar Str Unit)) (ρ := (Str × PyData)) Fu sc__law_divided (fun a => [vl K mg a.x, none, none, none, none]) (fun vs R a h => by
    obtain ⟨v0, w0, e0, h0, e1⟩ := h
    cases e1; cases e0
    exact ⟨rfl, .cons h0 (.cons trivial (.cons trivial (.cons trivial (.cons trivial (.nil)))))⟩) (fun cdv A outer s H Av E a hr => ?_)
  refine tT_cast (b_Np (s_own 1 sc__law_divided.nd (List.nil_sublist _) (f_lst (l_nil (α := Str)))) (fun words_269 p270 => (b_N (s_set 2 sc__law_divided.nd (List.nil_sublist _) (n_int (b := true))) (fun skip_271 => (b_M (s_forM (Sp3.mk : Sp3 (fun b : (Int × (List Str)) => [vl K mg (a.x : Str), rf p270, vl K mg (b.1 : Int), none, none]) (fun b : (Int × (List Str)) => ([ow K mg p270 (b.2 : (List Str))] : List Own)) (skip_271, words_269)) PassesOwn.never rfl (i_range1 (b' := true) (n_lenS (b3 := true) (pe_callB call_len_str (by rfl) z_len (by decide +kernel) (pa_cons (n_var 0) pa_nil)) rfl) z_range) (tg_name 3 sc__law_divided.nd) (List.nil_sublist _) ⟨.inr rfl, .inr rfl, .inr rfl, .inl rfl, .inl rfl, trivial⟩ (List.Sublist.refl _) (fun z275 a273 b274 => (m_ife (t_gt (n_var 2) (n_int (b := true))) (m_N (s_set 2 sc__law_divided.nd (List.nil_sublist _) (n_sub (b3 := true) (n_var 2) (n_int (b := true)))) (fun skip_277 => (m_end (skip_277, b274.2) ⟨.inr rfl, .inr rfl, .inr rfl, .inl rfl, .inl rfl, trivial⟩ (List.Sublist.cons₂ _ (List.nil_sublist _))))) (m_ife (t_neS (n_idxS (b3 := true) (n_var 0) (n_var 3)) (n_str (b := true))) (m_N (s_set 4 sc__law_divided.nd (List.nil_sublist _) (nd_call D__law_size (hr.mono (by decide)) (a_cons (n_var 0) (a_cons (n_var 3) a_nil)))) (fun size_279 => (m_if (t_lt (n_var 4) (n_int (b := true))) (b_le (rV_le (.add (.refl _))) (b_ret (n_tup2 (n_str (b := true)) (n_toD (n_len (b3 := true) (pe_callB call_len_seq (by rfl) z_len (by decide +kernel) (pa_cons (n_own 1 rfl List.mem_cons_self) pa_nil)) rfl))) (List.nil_sublist _))) (m_N (s_app 1 rfl (fun _ => List.nil_sublist _) (n_sliceS (b3 := true) (n_var 0) (o_some (n_var 3)) (o_some (n_add (b3 := true) (n_var 3) (n_var 4)))) (fun h1 h2 => pe_bm PySem.F.plainAttrs_list PySem.F.slot_list_append PySem.F.type_list_append mt_append h1 h2)) (fun words_281 => (m_N (s_set 2 sc__law_divided.nd (List.nil_sublist _) (n_sub (b3 := true) (n_var 4) (n_int (b := true)))) (fun skip_282 => (m_end (skip_282, words_281) ⟨.inr rfl, .inr rfl, .inr rfl, .inl rfl, .inl rfl, trivial⟩ (List.Sublist.cons₂ _ (List.nil_sublist _))))))) (List.nil_sublist _)))) (m_end (b274.1, b274.2) ⟨.inr rfl, .inr rfl, .inr rfl, .inl rfl, .inl rfl, trivial⟩ (List.Sublist.cons₂ _ (List.nil_sublist _))) (List.nil_sublist _)) (List.nil_sublist _)))) (fun b276 => (b_retTO (k := id) 1 rfl List.mem_cons_self (n_str (b := true)) (List.nil_sublist _)))))))) ?_
  try simp -implicitDefEqProofs only [Res.bind_ok]
  rfl

/-! ### _law_told -/
noncomputable def m_law_told (a : (Ar Str Unit)) : Res (Str × PyData) :=
  goOn ((tryR "Unread" ((((m_split_words (Ar.mk a.x ())).bind fun v288 => Res.ok (toD v288)).bind fun v289 => Res.ok ((PySem.Str.ofString "words"), v289)).bind fun d => Res.ok (Sum.inr d)) (fun fs286 => ((xfR fs286 "at").bind fun v290 => Res.ok ((PySem.Str.ofString "unread"), v290)).bind fun d => Res.ok (Sum.inr d)) : Res (Sum Unit (Str × PyData)))) (fun b291 => Res.bad)
abbrev s__law_told : Stmt := topS 26
theorem sc__law_told : FnScope ["text", "e"] ["text"] (defScope s__law_told) := ⟨rfl, rfl, rfl, by decide +kernel, rfl, by decide +kernel, by decide +kernel⟩
theorem ok__law_told {f : Addr} {fd : FuncData} (Fu : Fun K "_law_told" "_law_told" s__law_told f fd) {C_Unread : Addr} (D_split_words : DefAt P w K mg base (L2N.CX P w) 3 "split_words" ["text"] (spXF K mg m_split_words)) (m_Unread : mg "Unread" = some (.ref C_Unread)) (xf_Unread : XfC K C_Unread) (nf_Unread_at : PySem.W.findIn K (.ref C_Unread) "at" = some none) (ex_Unread : PySem.W.exmOne K (.ref C_Unread) (.ref C_Unread) = some true) : FnOk P w K mg base CX0 4 f fd ["text"] (spP K mg m_law_told) := by
  refine def_P (τ := (Ar Str Unit)) (ρ := (Str × PyData)) Fu sc__law_told (fun a => [vl K mg a.x, none]) (fun vs R a h => by
    obtain ⟨v0, w0, e0, h0, e1⟩ := h
    cases e1; cases e0
    exact ⟨rfl, .cons h0 (.cons trivial (.nil))⟩) (fun cdv A outer s H Av E a hr => ?_)
  refine tT_cast (b_M (s_try (Lh := [vl K mg (a.x : Str), none]) (L' := (fun b : Unit => [vl K mg (a.x : Str), none])) (O' := (fun b : Unit => ([] : List Own))) 1 m_Unread ex_Unread takes0N sc__law_told.nd noxd_nil (List.nil_sublist _) (fun _ => rfl) (fun _ _ _ tk285 => (m_T (b_le rV_ft (b_ret (n_tup2 (n_str (b := true)) (n_toD (f_val (f_callX D_split_words (hr.mono (by decide)) (TkX.to tk285 ⟨.inr rfl, .inl rfl, trivial⟩ (List.Sublist.refl _)) (a_cons (n_var 0) a_nil))))) (List.nil_sublist _))))) (fun ae287 _ _ _ fs286 hz hd => (m_T (b_le (rV_le (.add (.refl _))) (b_ret (n_tup2 (n_str (b := true)) (n_xf (b3 := true) 1 xf_Unread nf_Unread_at hz hd rfl)) (List.nil_sublist _)))))) (fun b291 => b_bad)) ?_
  try simp -implicitDefEqProofs only [Res.bind_ok]
  rfl

/-! ### _law_told@T -/
noncomputable def m_law_told_at_T (a : (Ar Str Unit)) : Res (Sum Int (List Str)) :=
  goOn ((tryR "Unread" (((m_split_words (Ar.mk a.x ())).bind fun v295 => Res.ok (Sum.inr v295)).bind fun d => Res.ok (Sum.inr d)) (fun fs293 => ((xfR fs293 "at").bind uninR).bind fun d => Res.ok (Sum.inr d)) : Res (Sum Unit (Sum Int (List Str))))) (fun b296 => Res.bad)
abbrev s_law_told_at_T : Stmt := topS 26
theorem sc_law_told_at_T : FnScope ["text", "e"] ["text"] (defScope s_law_told_at_T) := ⟨rfl, rfl, rfl, by decide +kernel, rfl, by decide +kernel, by decide +kernel⟩
theorem ok_law_told_at_T {f : Addr} {fd : FuncData} (Fu : Fun K "_law_told" "_law_told" s_law_told_at_T f fd) {C_Unread : Addr} (D_split_words : DefAt P w K mg base (L2N.CX P w) 3 "split_words" ["text"] (spXF K mg m_split_words)) (m_Unread : mg "Unread" = some (.ref C_Unread)) (xf_Unread : XfC K C_Unread) (nf_Unread_at : PySem.W.findIn K (.ref C_Unread) "at" = some none) (ex_Unread : PySem.W.exmOne K (.ref C_Unread) (.ref C_Unread) = some true) : FnOk P w K mg base CX0 4 f fd ["text"] (spTold (PySem.Str.ofString "unread") (PySem.Str.ofString "words") K mg m_law_told_at_T) := by
  refine def_T (τ := (Ar Str Unit)) (s0 := PySem.Str.ofString "unread") (s1 := PySem.Str.ofString "words") Fu sc_law_told_at_T (fun a => [vl K mg a.x, none]) (fun vs R a h => by
    obtain ⟨v0, w0, e0, h0, e1⟩ := h
    cases e1; cases e0
    exact ⟨rfl, .cons h0 (.cons trivial (.nil))⟩) (fun cdv A outer s H Av E a hr => ?_)
  refine tT_cast (b_M (s_try (Lh := [vl K mg (a.x : Str), none]) (L' := (fun b : Unit => [vl K mg (a.x : Str), none])) (O' := (fun b : Unit => ([] : List Own))) 1 m_Unread ex_Unread takes0N sc_law_told_at_T.nd noxd_nil (List.nil_sublist _) (fun _ => rfl) (fun _ _ _ tk292 => (m_T (b_le rT_ft (b_retTf (f_callX D_split_words (hr.mono (by decide)) (TkX.to tk292 ⟨.inr rfl, .inl rfl, trivial⟩ (List.Sublist.refl _)) (a_cons (n_var 0) a_nil)) (List.nil_sublist _))))) (fun ae294 _ _ _ fs293 hz hd => (m_T (b_le (rT_le (.add (.refl _))) (b_retTu (n_xf (b3 := true) 1 xf_Unread nf_Unread_at hz hd rfl) (List.nil_sublist _)))))) (fun b296 => b_bad)) ?_
  try simp -implicitDefEqProofs only [Res.bind_ok]
  rfl

/-! ### _law_alone -/
noncomputable def m_law_alone (a : (Ar Str Unit)) : Res Bool :=
  goOn (tryR2 "Unread" "Unread" (((m_split_words (Ar.mk a.x ())).bind fun _ => Res.ok ()).bind fun v301 => Res.ok (Sum.inl ())) (fun fs298 => (if true then (if (!false) then (Res.ok true) else Res.ok false) else Res.ok false).bind fun d => Res.ok (Sum.inr d)) (fun fs298 => (if true then (if (!false) then (Res.ok true) else Res.ok false) else Res.ok false).bind fun d => Res.ok (Sum.inr d))) (fun b302 => Res.ok false)
abbrev s__law_alone : Stmt := topS 27
theorem sc__law_alone : FnScope ["text", "e"] ["text"] (defScope s__law_alone) := ⟨rfl, rfl, rfl, by decide +kernel, rfl, by decide +kernel, by decide +kernel⟩
theorem ok__law_alone {f : Addr} {fd : FuncData} (Fu : Fun K "_law_alone" "_law_alone" s__law_alone f fd) {C_Unread C_TooMany C_ColonnadeError : Addr} (D_split_words : DefAt P w K mg base (L2N.CX P w) 3 "split_words" ["text"] (spXF K mg m_split_words)) (m_Unread : mg "Unread" = some (.ref C_Unread)) (ec_Unread : ExcC K C_Unread) (k_Unread_Unread : PySem.W.kitOne K (.ref C_Unread) (.ref C_Unread) = some true) (m_TooMany : mg "TooMany" = some (.ref C_TooMany)) (k_Unread_TooMany : PySem.W.kitOne K (.ref C_Unread) (.ref C_TooMany) = some false) (kb_Unread_ValueError : PySem.W.kitOne K (.ref C_Unread) (.type "ValueError") = some true) (z_ValueError : mg "ValueError" = none) (z_isinstance : mg "isinstance" = none) (ex2_Unread_ColonnadeError : PySem.W.exmOne K (.ref C_Unread) (.ref C_ColonnadeError) = some true) (m_ColonnadeError : mg "ColonnadeError" = some (.ref C_ColonnadeError)) : FnOk P w K mg base CX0 4 f fd ["text"] (spP K mg m_law_alone) := by
  refine def_P (τ := (Ar Str Unit)) (ρ := Bool) Fu sc__law_alone (fun a => [vl K mg a.x, none]) (fun vs R a h => by
    obtain ⟨v0, w0, e0, h0, e1⟩ := h
    cases e1; cases e0
    exact ⟨rfl, .cons h0 (.cons trivial (.nil))⟩) (fun cdv A outer s H Av E a hr => ?_)
  refine tT_cast (b_M (s_try2 (Lh := [vl K mg (a.x : Str), none]) (L' := (fun b : Unit => [vl K mg (a.x : Str), none])) (O' := (fun b : Unit => ([] : List Own))) 1 m_ColonnadeError m_Unread m_Unread ex2_Unread_ColonnadeError ex2_Unread_ColonnadeError takes0N sc__law_alone.nd noxd_nil (List.nil_sublist _) (fun _ => rfl) (fun _ _ _ tk297 => (m_N (s_expr (f_val (f_callX D_split_words (hr.mono (by decide)) (TkX.to tk297 ⟨.inr rfl, .inl rfl, trivial⟩ (List.Sublist.refl _)) (a_cons (n_var 0) a_nil))) (List.Sublist.refl _)) (fun v301 => (m_end () ⟨.inr rfl, .inl rfl, trivial⟩ (List.nil_sublist _))))) (fun ae299 _ _ _ fs298 hz hd => (m_T (b_le (rV_le (.add (.refl _))) (b_ret (n_and (b3 := true) (n_isE (b3 := true) (v := true) 1 ec_Unread hz hd rfl m_Unread k_Unread_Unread z_isinstance) (n_and (b3 := true) (n_not (b3 := true) (n_isE (b3 := true) (v := false) 1 ec_Unread hz hd rfl m_TooMany k_Unread_TooMany z_isinstance)) (n_one (n_isEB (b3 := true) (v := true) (nT := "ValueError") 1 ec_Unread hz hd rfl z_ValueError (by rfl) kb_Unread_ValueError z_isinstance)))) (List.nil_sublist _))))) (fun ae299 _ _ _ fs298 hz hd => (m_T (b_le (rV_le (.add (.refl _))) (b_ret (n_and (b3 := true) (n_isE (b3 := true) (v := true) 1 ec_Unread hz hd rfl m_Unread k_Unread_Unread z_isinstance) (n_and (b3 := true) (n_not (b3 := true) (n_isE (b3 := true) (v := false) 1 ec_Unread hz hd rfl m_TooMany k_Unread_TooMany z_isinstance)) (n_one (n_isEB (b3 := true) (v := true) (nT := "ValueError") 1 ec_Unread hz hd rfl z_ValueError (by rfl) kb_Unread_ValueError z_isinstance)))) (List.nil_sublist _)))))) (fun b302 => (b_ret (n_bl (b := true)) (List.nil_sublist _)))) ?_
  try simp -implicitDefEqProofs only [Res.bind_ok]
  rfl

/-! ### _law_right -/
noncomputable def m_law_right (a : (Ar (Str × PyData) (Ar (Str × PyData) Unit))) : Res Bool :=
  (if (decide (a.x.1 = (PySem.Str.ofString "unread"))) then ((isT "int" (Ty.tyN a.x.2)).bind fun v303 => Res.ok (!v303)) else Res.ok false).bind fun v306 => if v306 then (Res.ok false) else (((isT "bool" (Ty.tyN a.x.2)).bind fun v304 => Res.ok (!v304)).bind fun v305 => if v305 then (need (shp a.x = true ∧ shp a.r.x = true) (Res.ok (eqD a.x a.r.x))) else Res.ok false)
abbrev s__law_right : Stmt := topS 28
theorem sc__law_right : FnScope ["told", "due"] ["told", "due"] (defScope s__law_right) := ⟨rfl, rfl, rfl, by decide +kernel, rfl, by decide +kernel, by decide +kernel⟩
theorem ok__law_right {f : Addr} {fd : FuncData} (Fu : Fun K "_law_right" "_law_right" s__law_right f fd) (z_bool : mg "bool" = none) (z_int : mg "int" = none) (z_isinstance : mg "isinstance" = none) : FnOk P w K mg base CX0 1 f fd ["told", "due"] (spP K mg m_law_right) := by
  refine def_P (τ := (Ar (Str × PyData) (Ar (Str × PyData) Unit))) (ρ := Bool) Fu sc__law_right (fun a => [vl K mg a.x, vl K mg a.r.x]) (fun vs R a h => by
    obtain ⟨v0, w0, e0, h0, v1, w1, e1, h1, e2⟩ := h
    cases e2; cases e1; cases e0
    exact ⟨rfl, .cons h0 (.cons h1 (.nil))⟩) (fun cdv A outer s H Av E a hr => ?_)
  refine tT_cast (b_if (PW.pt (w_and (t_eqS (n_fst (n_var 0)) (n_str (b := true))) (w_and1 (t_not (t_val (n_isi (b3 := true) (n := "int") (n_snd (n_var 0)) (by decide +kernel) z_int z_isinstance rfl rfl rfl rfl (by decide) (by decide) rfl rfl (fun h1 h2 => pe_callB h1 (by rfl) z_isinstance (by decide +kernel) h2))))))) (b_ret (n_bl (b := true)) (List.nil_sublist _)) (b_ret (n_and (b3 := true) (n_not (b3 := true) (n_isi (b3 := true) (n := "bool") (n_snd (n_var 0)) (by decide +kernel) z_bool z_isinstance rfl rfl rfl rfl (by decide) (by decide) rfl rfl (fun h1 h2 => pe_callB h1 (by rfl) z_isinstance (by decide +kernel) h2))) (n_one (n_eqD (b1 := true) (b2 := true) (b3 := true) (n_var 0) (n_var 1) hr.units))) (List.nil_sublist _)) (List.nil_sublist _)) ?_
  try simp -implicitDefEqProofs only [Res.bind_ok]
  rfl

/-! ### law -/
noncomputable def m_law (a : (Ar Scr Unit)) : Res Bool :=
  ((need (List.length (cut a.x.ns none (some (63 : Int))) ≤ sizeLine) (filtR (fun (a307 : Int) => Res.quiet (Res.ok true)) (fun (a307 : Int) => Res.quiet (Res.ok (if a307 < 0 then -a307 else a307))) (cut a.x.ns none (some (63 : Int))))).bind fun v310 => Res.ok (P3.mk (0 : Int) (0 : Int) v310)).bind fun pool311 => (m_law_digit pool311 (Ar.mk (8 : Int) ())).bind fun mode_313 => (if (decide ((5 : Int) < mode_313.1)) then (Res.ok ((0 : Int), mode_313.2)) else ((((m_law_digit mode_313.2 (Ar.mk (21 : Int) ())).bind fun u323 => Res.ok ((u323.1 + (5 : Int)), u323.2)).bind fun u324 => Res.ok (u324.1, u324.2)).bind fun u326 => (need (0 < (21 : Int)) (Res.ok (u326.1 % (21 : Int)))).bind fun v327 => Res.ok (v327, u326.2))).bind fun many_328 => (((need (Rg62 many_328.1) (Res.ok (irange 0 many_328.1))).bind fun v329 => Res.ok (v329, many_328.2)).bind fun u334 => need (List.length u334.1 ≤ sizeLine) (filtE (fun (a330 : Int) (xs333 : P3) => Res.quiet (Res.ok (true, xs333))) (fun (a330 : Int) (xs333 : P3) => Res.quiet (m_law_word xs333 ())) u334.1 u334.2)).bind fun words_335 => (((m_law_digit words_335.2 (Ar.mk (8 : Int) ())).bind fun u338 => Res.ok ((decide (u338.1 = (7 : Int))), u338.2)).bind fun u344 => if u344.1 then ((need (Rg63 (3 : Int) ∧ List.length words_335.1 * ((3 : Int)).toNat ≤ sizeLine) (Res.ok (List.replicate ((3 : Int)).toNat words_335.1).flatten)).bind fun words_343 => Res.ok (words_343, u344.2)) else (Res.ok (words_335.1, u344.2))).bind fun b340 => (if (decide ((5 : Int) < mode_313.1)) then ((m_law_raw b340.2 ()).bind fun text_381 => (m_law_divided (Ar.mk text_381.1 ())).bind fun due_382 => Res.ok (text_381.1, due_382, text_381.2)) else ((if (decide ((2 : Int) < mode_313.1)) then ((m_law_digit b340.2 (Ar.mk ((List.length b340.1 : Int) + (1 : Int)) ())).bind fun at_400 => (m_law_spoilt at_400.2 (Ar.mk b340.1 (Ar.mk at_400.1 (Ar.mk mode_313.1 ())))).bind fun text_401 => (let due_402 := ((PySem.Str.ofString "unread"), (toD at_400.1))
  Res.ok (text_401.1, due_402, text_401.2))) else (((m_law_join b340.2 (Ar.mk b340.1 ())).bind fun u411 => ((m_law_digit u411.2 (Ar.mk (3 : Int) ())).bind fun u409 => (need (CMulS (PySem.Str.ofString " ") u409.1) (Res.ok (Txt.mul (PySem.Str.ofString " ") u409.1))).bind fun v410 => Res.ok (v410, u409.2)).bind fun u412 => (need (Str.length u411.1 + Str.length u412.1 ≤ sizeLine) (Res.ok (u411.1 ++ u412.1))).bind fun v413 => Res.ok (v413, u412.2)).bind fun text_414 => (let due_415 := ((PySem.Str.ofString "words"), (toD b340.1))
  Res.ok (text_414.1, due_415, text_414.2)))).bind fun b399 => Res.ok (b399.1, b399.2.1, b399.2.2))).bind fun b380 => ((Res.ok (Ar.mk b380.1 ())).bind m_law_told_at_T).bind fun r => match r with | Sum.inl n416 => (((m_law_right (Ar.mk ((PySem.Str.ofString "unread", PyData.int n416) : Str × PyData) (Ar.mk b380.2.1 ()))).bind fun v419 => Res.ok (!v419)).bind fun v420 => if v420 then (Res.ok false) else (if (decide (b380.2.1.1 = (PySem.Str.ofString "unread"))) then (m_law_alone (Ar.mk b380.1 ())) else (Res.bad))) | Sum.inr ws417 => (((m_law_right (Ar.mk ((PySem.Str.ofString "words", toD ws417) : Str × PyData) (Ar.mk b380.2.1 ()))).bind fun v421 => Res.ok (!v421)).bind fun v425 => if v425 then (Res.ok false) else (if (decide (b380.2.1.1 = (PySem.Str.ofString "unread"))) then (m_law_alone (Ar.mk b380.1 ())) else ((need (List.length ws417 < sizeLine) (Res.ok (ws417 ++ [(PySem.Str.ofString "zz")]))).bind fun ws422 => ((m_law_told (Ar.mk b380.1 ())).bind fun v423 => Res.ok (Ar.mk v423 (Ar.mk b380.2.1 ()))).bind fun u424 => m_law_right u424)))
abbrev s_law : Stmt := topS 29
theorem sc_law : FnScope ["script", "pool", "mode", "many", "words", "text", "due", "at", "told", "cell", "k"] ["script"] (defScope s_law) := ⟨rfl, rfl, rfl, by decide +kernel, rfl, by decide +kernel, by decide +kernel⟩
theorem ok_law {f : Addr} {fd : FuncData} (Fu : Fun K "law" "law" s_law f fd) (D__law_digit : DefAt P w K mg base CX0 1 "_law_digit" ["pool", "many"] (spI K mg m_law_digit)) (D__law_word : DefAt P w K mg base CX0 3 "_law_word" ["pool"] (spI K mg m_law_word)) (D__law_raw : DefAt P w K mg base CX0 2 "_law_raw" ["pool"] (spI K mg m_law_raw)) (D__law_divided : DefAt P w K mg base CX0 3 "_law_divided" ["text"] (spP K mg m_law_divided)) (D__law_spoilt : DefAt P w K mg base CX0 4 "_law_spoilt" ["pool", "words", "at", "mode"] (spI K mg m_law_spoilt)) (D__law_join : DefAt P w K mg base CX0 3 "_law_join" ["pool", "words"] (spI K mg m_law_join)) (DT_law_told_at_T : DefAt P w K mg base CX0 4 "_law_told" ["text"] (spTold (PySem.Str.ofString "unread") (PySem.Str.ofString "words") K mg m_law_told_at_T)) (D__law_right : DefAt P w K mg base CX0 1 "_law_right" ["told", "due"] (spP K mg m_law_right)) (D__law_alone : DefAt P w K mg base CX0 4 "_law_alone" ["text"] (spP K mg m_law_alone)) (D__law_told : DefAt P w K mg base CX0 4 "_law_told" ["text"] (spP K mg m_law_told)) (z_abs : mg "abs" = none) (z_int : mg "int" = none) (z_len : mg "len" = none) (z_range : mg "range" = none) : FnOk P w K mg base CX0 5 f fd ["script"] (spP K mg m_law) := by
  refine def_P (τ := (Ar Scr Unit)) (ρ := Bool) Fu sc_law (fun a => [vl K mg a.x, none, none, none, none, none, none, none, none, none, none]) (fun vs R a h => by
    obtain ⟨v0, w0, e0, h0, e1⟩ := h
    cases e1; cases e0
    exact ⟨rfl, .cons h0 (.cons trivial (.cons trivial (.cons trivial (.cons trivial (.cons trivial (.cons trivial (.cons trivial (.cons trivial (.cons trivial (.cons trivial (.nil)))))))))))⟩) (fun cdv A outer s H Av E a hr => ?_)
  refine tT_cast (b_Np (s_ownP3 1 sc_law.nd (List.nil_sublist _) (n_int (b := true)) (n_int (b := true)) (f_val (f_lcf (own := [("cell", 9)]) rfl sc_law.nd (i_lk (f_val (f_sliceS (n_var 0) o_none (o_some (n_int (b := true)))))) (.inl rfl) (blkOk_by (N := ["script", "pool", "mode", "many", "words", "text", "due", "at", "told", "cell", "k"]) (sc := defScope s_law) (by decide +kernel)) (tgok_name 9) (fun _ _ _ _ _ => (tg_name 9 sc_law.nd)) (fun _ _ _ _ _ a307 D308 ds309 => ts_nil) (fun _ _ _ _ _ a307 D308 ds309 => (n_abs (b3 := true) (pe_callB call_abs (by rfl) z_abs (by decide +kernel) (pa_cons (n_var 9) pa_nil)) rfl))))) (fun pool311 p312 => (b_N (s_setE 2 sc_law.nd (e_call 1 D__law_digit (hr.mono (by decide)) rfl (ea_p (List.nil_sublist _) (a_cons (n_int (b := true)) a_nil)))) (fun mode_313 => (b_N (s_setE 3 sc_law.nd (e_if (eb_p (List.nil_sublist _) (t_gt (n_var 2) (n_int (b := true)))) (fun xs314 => (e_p (List.nil_sublist _) (n_int (b := true)))) (fun xs315 => (e_mod (b3 := true) (e_int1 (b3 := true) (pe_callTy call_int1 (by rfl) z_int (by decide +kernel) (pa_cons (e_add (b3 := true) (e_call 1 D__law_digit (hr.mono (by decide)) rfl (ea_p (List.nil_sublist _) (a_cons (n_int (b := true)) a_nil))) (fun xs322 => (e_p (List.nil_sublist _) (n_int (b := true)))) (fun _ => List.nil_sublist _)) pa_nil)) rfl (fun _ => List.nil_sublist _)) (fun xs325 => (e_p (List.nil_sublist _) (n_int (b := true)))) (fun _ => List.nil_sublist _))))) (fun many_328 => (b_N (s_setLcE 4 (own := [("k", 10)]) rfl sc_law.nd (i_pE (List.nil_sublist _) (i_range1 (b' := true) (n_var 3) z_range)) (blkOk_by (N := ["script", "pool", "mode", "many", "words", "text", "due", "at", "told", "cell", "k"]) (sc := defScope s_law) (by decide +kernel)) (tgok_name 10) (fun _ _ _ _ _ => (tg_name 10 sc_law.nd)) (fun _ _ _ _ _ a330 D331 ds332 xs333 => ts_nilE) (fun _ _ _ _ _ a330 D331 ds332 xs333 => (e_call 1 D__law_word (hr.mono (by decide)) rfl (ea_p (List.nil_sublist _) a_nil)))) (fun words_335 => (b_N (se_if (Sp2.mk : Sp2 (fun b : ((List Str) × P3) => [vl K mg (a.x : Scr), rf p312, vl K mg (mode_313.1 : Int), vl K mg (many_328.1 : Int), vl K mg (b.1 : (List Str)), none, none, none, none, none, none]) (fun b : ((List Str) × P3) => ([ow K mg p312 (b.2 : P3)] : List Own))) (et_eq (e_call 1 D__law_digit (hr.mono (by decide)) rfl (ea_p (List.nil_sublist _) (a_cons (n_int (b := true)) a_nil))) (fun xs337 => (e_p (List.nil_sublist _) (n_int (b := true)))) (fun _ => List.nil_sublist _)) (fun xs341 => (n_N (s_set 4 sc_law.nd (List.nil_sublist _) (f_val (f_rep (n_var 4) (n_int (b := true))))) (fun words_343 => (n_end (words_343, xs341) ⟨.inr rfl, .inr rfl, .inr rfl, .inr rfl, .inr rfl, .inl rfl, .inl rfl, .inl rfl, .inl rfl, .inl rfl, .inl rfl, trivial⟩ (List.Sublist.cons₂ _ (List.nil_sublist _)))))) (fun xs342 => (n_end (words_335.1, xs342) ⟨.inr rfl, .inr rfl, .inr rfl, .inr rfl, .inr rfl, .inl rfl, .inl rfl, .inl rfl, .inl rfl, .inl rfl, .inl rfl, trivial⟩ (List.Sublist.cons₂ _ (List.nil_sublist _))))) (fun b340 => (b_N (s_ifS (Sp2.mk : Sp2 (fun b : (Str × (Str × PyData) × P3) => [vl K mg (a.x : Scr), rf p312, vl K mg (mode_313.1 : Int), vl K mg (many_328.1 : Int), vl K mg (b340.1 : (List Str)), vl K mg (b.1 : Str), vl K mg (b.2.1 : (Str × PyData)), none, none, none, none]) (fun b : (Str × (Str × PyData) × P3) => ([ow K mg p312 (b.2.2 : P3)] : List Own))) (t_gt (n_var 2) (n_int (b := true))) (n_N (s_setE 5 sc_law.nd (e_call 1 D__law_raw (hr.mono (by decide)) rfl (ea_p (List.nil_sublist _) a_nil))) (fun text_381 => (n_N (s_set 6 sc_law.nd (List.nil_sublist _) (nd_call D__law_divided (hr.mono (by decide)) (a_cons (n_var 5) a_nil))) (fun due_382 => (n_end (text_381.1, due_382, text_381.2) ⟨.inr rfl, .inr rfl, .inr rfl, .inr rfl, .inr rfl, .inr rfl, .inr rfl, .inl rfl, .inl rfl, .inl rfl, .inl rfl, trivial⟩ (List.Sublist.cons₂ _ (List.nil_sublist _))))))) (n_N (s_ifS (Sp2.mk : Sp2 (fun b : (Str × (Str × PyData) × P3) => [vl K mg (a.x : Scr), rf p312, vl K mg (mode_313.1 : Int), vl K mg (many_328.1 : Int), vl K mg (b340.1 : (List Str)), vl K mg (b.1 : Str), vl K mg (b.2.1 : (Str × PyData)), none, none, none, none]) (fun b : (Str × (Str × PyData) × P3) => ([ow K mg p312 (b.2.2 : P3)] : List Own))) (t_gt (n_var 2) (n_int (b := true))) (n_N (s_setE 7 sc_law.nd (e_call 1 D__law_digit (hr.mono (by decide)) rfl (ea_p (List.nil_sublist _) (a_cons (n_add (b3 := true) (n_len (b3 := true) (pe_callB call_len_seq (by rfl) z_len (by decide +kernel) (pa_cons (n_var 4) pa_nil)) rfl) (n_int (b := true))) a_nil)))) (fun at_400 => (n_N (s_setE 5 sc_law.nd (e_call 1 D__law_spoilt (hr.mono (by decide)) rfl (ea_p (List.nil_sublist _) (a_cons (n_var 4) (a_cons (n_var 7) (a_cons (n_var 2) a_nil)))))) (fun text_401 => (n_N (s_set 6 sc_law.nd (List.nil_sublist _) (n_tup2 (n_str (b := true)) (n_toD (n_var 7)))) (fun due_402 => (n_end (text_401.1, due_402, text_401.2) ⟨.inr rfl, .inr rfl, .inr rfl, .inr rfl, .inr rfl, .inr rfl, .inr rfl, .inl rfl, .inl rfl, .inl rfl, .inl rfl, trivial⟩ (List.Sublist.cons₂ _ (List.nil_sublist _))))))))) (n_N (s_setE 5 sc_law.nd (e_catS (b3 := true) (e_call 1 D__law_join (hr.mono (by decide)) rfl (ea_p (List.nil_sublist _) (a_cons (n_var 4) a_nil))) (fun xs407 => (e_repS (b3 := true) (e_p (List.nil_sublist _) (n_str (b := true))) (fun xs408 => (e_call 1 D__law_digit (hr.mono (by decide)) rfl (ea_p (List.nil_sublist _) (a_cons (n_int (b := true)) a_nil)))) (fun _ => List.nil_sublist _))) (fun _ => List.nil_sublist _))) (fun text_414 => (n_N (s_set 6 sc_law.nd (List.nil_sublist _) (n_tup2 (n_str (b := true)) (n_toD (n_var 4)))) (fun due_415 => (n_end (text_414.1, due_415, text_414.2) ⟨.inr rfl, .inr rfl, .inr rfl, .inr rfl, .inr rfl, .inr rfl, .inr rfl, .inl rfl, .inl rfl, .inl rfl, .inl rfl, trivial⟩ (List.Sublist.cons₂ _ (List.nil_sublist _))))))) (List.nil_sublist _)) (fun b399 => (n_end (b399.1, b399.2.1, b399.2.2) ⟨.inr rfl, .inr rfl, .inr rfl, .inr rfl, .inr rfl, .inr rfl, .inr rfl, .inl rfl, .inl rfl, .inl rfl, .inl rfl, trivial⟩ (List.Sublist.cons₂ _ (List.nil_sublist _))))) (List.nil_sublist _)) (fun b380 => (b_told (s0 := PySem.Str.ofString "unread") (s1 := PySem.Str.ofString "words") 8 DT_law_told_at_T (hr.mono (by decide)) sc_law.nd (a_cons (n_var 5) a_nil) (List.nil_sublist _) (fun n416 => (b_if (t_not (t_val (nd_call D__law_right (hr.mono (by decide)) (a_cons (n_var 8) (a_cons (n_var 6) a_nil))))) (b_ret (n_bl (b := true)) (List.nil_sublist _)) (b_if (t_eqS (n_fst (n_var 6)) (n_str (b := true))) (b_ret (nd_call D__law_alone (hr.mono (by decide)) (a_cons (n_var 5) a_nil)) (List.nil_sublist _)) b_bad (List.nil_sublist _)) (List.nil_sublist _))) (fun ws417 p418 => (b_if (t_not (t_val (nd_call D__law_right (hr.mono (by decide)) (a_cons (n_told 8 rfl List.mem_cons_self) (a_cons (weak (n_var 6)) a_nil))))) (b_ret (n_bl (b := true)) (List.nil_sublist _)) (b_if (t_eqS (n_fst (n_var 6)) (n_str (b := true))) (b_ret (nd_call D__law_alone (hr.mono (by decide)) (a_cons (n_var 5) a_nil)) (List.nil_sublist _)) (b_N (s_toldApp 8 rfl (List.nil_sublist _) (n_str (b := true)) (fun h1 h2 => pe_bm PySem.F.plainAttrs_list PySem.F.slot_list_append PySem.F.type_list_append mt_append h1 h2)) (fun ws422 => (b_ret (nd_call D__law_right (hr.mono (by decide)) (a_cons (nd_call D__law_told (hr.mono (by decide)) (a_cons (n_var 5) a_nil)) (a_cons (n_var 6) a_nil))) (List.nil_sublist _)))) (List.nil_sublist _)) (List.nil_sublist _)))))))))))))))) ?_
  unfold m_law
  simp -implicitDefEqProofs only [Res.bind_ok, Res.bind_assoc]
  all_goals rfl

end
end K28
set_option Elab.async false
set_option linter.all false
set_option maxRecDepth 100000
/-! M28a: k28: words of texts as lists of signs. -/
namespace K28
open PySem PySem.Spec PyProof.Rows L2 NF
def isL (c : Nat) : Bool := decide (97 ≤ c) && decide (c ≤ 122)
def isD (c : Nat) : Bool := decide (48 ≤ c) && decide (c ≤ 57)
theorem isL_iff {c : Nat} : isL c = true ↔ 97 ≤ c ∧ c ≤ 122 := by unfold isL; simp
theorem isD_iff {c : Nat} : isD c = true ↔ 48 ≤ c ∧ c ≤ 57 := by unfold isD; simp
theorem isL_no {c : Nat} (h : c < 97 ∨ 122 < c) : isL c = false := by
  cases e : isL c with
  | false => rfl
  | true => have := isL_iff.mp e; omega
theorem isD_no {c : Nat} (h : c < 48 ∨ 57 < c) : isD c = false := by
  cases e : isD c with
  | false => rfl
  | true => have := isD_iff.mp e; omega
def tw (p : Nat → Bool) (l : List Nat) : Nat := (l.takeWhile p).length
theorem tw_le (p : Nat → Bool) : ∀ l : List Nat, tw p l ≤ l.length
  | [] => Nat.le_refl _
  | c :: r => by
    unfold tw
    rw [List.takeWhile_cons]
    have := tw_le p r
    unfold tw at this
    split
    · simp; omega
    · simp
theorem tw_cons (p : Nat → Bool) (c : Nat) (r : List Nat) : tw p (c :: r) = if p c then tw p r + 1 else 0 := by
  unfold tw
  rw [List.takeWhile_cons]
  split <;> simp
theorem tw_app {p : Nat → Bool} : ∀ {w r : List Nat}, (∀ c ∈ w, p c = true) → (∀ c, r.head? = some c → p c = false) → tw p (w ++ r) = w.length
  | [], [], _, _ => rfl
  | [], c :: r, _, h => by
    show tw p (c :: r) = 0
    rw [tw_cons, h c rfl]
    rfl
  | a :: w, r, h, h2 => by
    show tw p (a :: (w ++ r)) = _
    rw [tw_cons, h a List.mem_cons_self, if_pos rfl, tw_app (fun c hc => h c (List.mem_cons_of_mem _ hc)) h2]
    rfl
def idq : List Nat → Option Nat
  | [] => none
  | c :: r => if c = 39 then some 0 else (idq r).map (· + 1)
theorem idq_lt : ∀ {l : List Nat} {j : Nat}, idq l = some j → j < l.length
  | [], _, h => by cases h
  | c :: r, j, h => by
    unfold idq at h
    split at h
    · cases h; simp
    · cases e : idq r with
      | none => rw [e] at h; cases h
      | some k =>
        rw [e] at h
        have := idq_lt e
        cases h
        simp; omega
theorem idq_none : ∀ {l : List Nat}, 39 ∉ l → idq l = none
  | [], _ => rfl
  | c :: r, h => by
    unfold idq
    rw [if_neg (fun z => h (by rw [z]; exact List.mem_cons_self)), idq_none fun z => h (List.mem_cons_of_mem _ z)]
    rfl
theorem idq_app : ∀ {w : List Nat} (r : List Nat), 39 ∉ w → idq (w ++ 39 :: r) = some w.length
  | [], r, _ => by unfold idq; simp
  | c :: w, r, h => by
    show idq (c :: (w ++ 39 :: r)) = _
    unfold idq
    rw [if_neg (fun z => h (by rw [z]; exact List.mem_cons_self)), idq_app r fun z => h (List.mem_cons_of_mem _ z)]
    rfl
def sz : List Nat → Nat
  | [] => 0
  | c :: r =>
    if c = 40 ∨ c = 41 ∨ c = 44 then 1
    else if c = 39 then (match idq r with | some j => j + 2 | none => 0)
    else if c = 60 then (if r.head? = some 61 ∨ r.head? = some 62 then 2 else 1)
    else if c = 62 then (if r.head? = some 61 then 2 else 1)
    else if c = 61 then 1
    else if c = 45 then (if 0 < tw isD r then tw isD r + 1 else 0)
    else if isD c then tw isD r + 1
    else if isL c then tw isL r + 1 else 0
theorem sz_cons (c : Nat) (r : List Nat) : sz (c :: r) = if c = 40 ∨ c = 41 ∨ c = 44 then 1
    else if c = 39 then (match idq r with | some j => j + 2 | none => 0)
    else if c = 60 then (if r.head? = some 61 ∨ r.head? = some 62 then 2 else 1)
    else if c = 62 then (if r.head? = some 61 then 2 else 1)
    else if c = 61 then 1
    else if c = 45 then (if 0 < tw isD r then tw isD r + 1 else 0)
    else if isD c then tw isD r + 1
    else if isL c then tw isL r + 1 else 0 := rfl
theorem head_len {r : List Nat} {c : Nat} (h : r.head? = some c) : 1 ≤ r.length := by
  cases r with
  | nil => cases h
  | cons => simp
theorem sz_le (l : List Nat) : sz l ≤ l.length := by
  cases l with
  | nil => exact Nat.le_refl _
  | cons c r =>
    have a := tw_le isD r
    have b := tw_le isL r
    rw [List.length_cons]
    rw [sz_cons]
    split
    · omega
    · split
      · cases e : idq r with
        | none => simp
        | some j => have := idq_lt e; simp; omega
      · split
        · split
          · rename_i h
            have : 1 ≤ r.length := h.elim head_len head_len
            omega
          · omega
        · split
          · split
            · rename_i h
              have : 1 ≤ r.length := head_len h
              omega
            · omega
          · split
            · omega
            · split
              · split <;> omega
              · split
                · omega
                · split <;> omega
inductive Tk : List Nat → List (List Nat) → Bool → Prop
  | nil : Tk [] [] true
  | sp {r : List Nat} {ws : List (List Nat)} {b : Bool} : Tk r ws b → Tk (32 :: r) ws b
  | bad {c : Nat} {r : List Nat} : c ≠ 32 → sz (c :: r) = 0 → Tk (c :: r) [] false
  | word {c : Nat} {r : List Nat} {ws : List (List Nat)} {b : Bool} : c ≠ 32 → 0 < sz (c :: r) → Tk ((c :: r).drop (sz (c :: r))) ws b → Tk (c :: r) ((c :: r).take (sz (c :: r)) :: ws) b
theorem tk_total : ∀ (n : Nat) (l : List Nat), l.length ≤ n → ∃ ws b, Tk l ws b
  | _, [], _ => ⟨_, _, .nil⟩
  | 0, c :: r, h => by simp at h
  | n + 1, c :: r, h => by
    rw [List.length_cons] at h
    by_cases e : c = 32
    · subst e
      obtain ⟨ws, b, t⟩ := tk_total n r (by omega)
      exact ⟨_, _, .sp t⟩
    · by_cases z : sz (c :: r) = 0
      · exact ⟨_, _, .bad e z⟩
      · obtain ⟨ws, b, t⟩ := tk_total n ((c :: r).drop (sz (c :: r))) (by rw [List.length_drop, List.length_cons]; omega)
        exact ⟨_, _, .word e (by omega) t⟩
theorem tk_len {l : List Nat} {ws : List (List Nat)} {b : Bool} (t : Tk l ws b) : ws.length ≤ l.length := by
  induction t with
  | nil => exact Nat.le_refl _
  | sp _ ih => simp; omega
  | bad => simp
  | word h1 h2 _ ih =>
    rw [List.length_drop] at ih
    simp only [List.length_cons] at ih ⊢
    omega
theorem tk_mem {l : List Nat} {ws : List (List Nat)} {b : Bool} (t : Tk l ws b) : ∀ w ∈ ws, ∀ c ∈ w, c ∈ l := by
  induction t with
  | nil => exact fun w h => (List.not_mem_nil h).elim
  | sp _ ih => exact fun w h c hc => List.mem_cons_of_mem _ (ih w h c hc)
  | bad => exact fun w h => (List.not_mem_nil h).elim
  | word h1 h2 _ ih =>
    intro w h c hc
    rcases List.mem_cons.mp h with e | h
    · subst e; exact List.mem_of_mem_take hc
    · exact List.mem_of_mem_drop (ih w h c hc)
theorem tk_sps {r : List Nat} {ws : List (List Nat)} {b : Bool} (t : Tk r ws b) : ∀ g : Nat, Tk (List.replicate g 32 ++ r) ws b
  | 0 => t
  | g + 1 => .sp (tk_sps t g)
/-! words -/
inductive Wd : List Nat → Prop
  | let {w : List Nat} : w ≠ [] → (∀ c ∈ w, isL c = true) → Wd w
  | dig {w : List Nat} : w ≠ [] → (∀ c ∈ w, isD c = true) → Wd w
  | neg {w : List Nat} : w ≠ [] → (∀ c ∈ w, isD c = true) → Wd (45 :: w)
  | sg {w : List Nat} : w ∈ [[61], [60, 62], [60], [60, 61], [62], [62, 61], [40], [41], [44]] → Wd w
  | q {w : List Nat} : 39 ∉ w → Wd (39 :: (w ++ [39]))
def glue (w : List Nat) (c : Nat) : Bool :=
  (match w.getLast? with | some z => (isL z && isL c) || (isD z && isD c) | none => false) || (decide (w = [60]) && (decide (c = 61) || decide (c = 62))) || (decide (w = [62]) && decide (c = 61))
theorem glue_no {c : Nat} (h1 : isL c = false) (h2 : isD c = false) (h3 : c ≠ 61) (h4 : c ≠ 62) (w : List Nat) : glue w c = false := by
  unfold glue
  rw [h1, h2]
  cases w.getLast? <;> simp [h3, h4]
theorem glue_nil (c : Nat) : glue [] c = false := by unfold glue; simp
theorem wd_cons {w : List Nat} (h : Wd w) : ∃ c r, w = c :: r ∧ c ≠ 32 := by
  cases h with
  | «let» h1 h2 =>
    cases w with
    | nil => exact (h1 rfl).elim
    | cons c r => exact ⟨c, r, rfl, by have := isL_iff.mp (h2 c List.mem_cons_self); omega⟩
  | dig h1 h2 =>
    cases w with
    | nil => exact (h1 rfl).elim
    | cons c r => exact ⟨c, r, rfl, by have := isD_iff.mp (h2 c List.mem_cons_self); omega⟩
  | neg h1 h2 => exact ⟨_, _, rfl, by decide⟩
  | sg h =>
    simp only [List.mem_cons, List.not_mem_nil, or_false] at h
    rcases h with h | h | h | h | h | h | h | h | h <;> subst h <;> exact ⟨_, _, rfl, by decide⟩
  | q h => exact ⟨_, _, rfl, by decide⟩
theorem last_all {p : Nat → Bool} {w : List Nat} (h : w ≠ []) (ha : ∀ c ∈ w, p c = true) : ∃ z, w.getLast? = some z ∧ p z = true :=
  ⟨w.getLast h, List.getLast?_eq_some_getLast h, ha _ (List.getLast_mem h)⟩
theorem sz_word {w r : List Nat} (h : Wd w) (hr : ∀ c, r.head? = some c → glue w c = false) : sz (w ++ r) = w.length := by
  cases h with
  | «let» h1 h2 =>
    obtain ⟨z, e, hz⟩ := last_all h1 h2
    have hh : ∀ c, r.head? = some c → isL c = false := fun c hc => by
      have := hr c hc
      unfold glue at this
      rw [e] at this
      simp only [hz, Bool.true_and, Bool.or_eq_false_iff] at this
      exact this.1.1.1
    have ht := tw_app h2 hh
    cases w with
    | nil => exact (h1 rfl).elim
    | cons c w =>
      have hc := h2 c List.mem_cons_self
      have hc' := isL_iff.mp hc
      show sz (c :: (w ++ r)) = _
      have ht' : tw isL (c :: (w ++ r)) = w.length + 1 := ht
      rw [tw_cons, hc, if_pos rfl] at ht'
      rw [sz_cons]
      rw [if_neg (by omega), if_neg (by omega), if_neg (by omega), if_neg (by omega), if_neg (by omega), if_neg (by omega), isD_no (by omega), if_neg (by decide), hc, if_pos rfl, ht']
      rfl
  | dig h1 h2 =>
    obtain ⟨z, e, hz⟩ := last_all h1 h2
    have hh : ∀ c, r.head? = some c → isD c = false := fun c hc => by
      have := hr c hc
      unfold glue at this
      rw [e] at this
      simp only [hz, Bool.true_and, Bool.or_eq_false_iff] at this
      exact this.1.1.2
    have ht := tw_app h2 hh
    cases w with
    | nil => exact (h1 rfl).elim
    | cons c w =>
      have hc := h2 c List.mem_cons_self
      have hc' := isD_iff.mp hc
      show sz (c :: (w ++ r)) = _
      have ht' : tw isD (c :: (w ++ r)) = w.length + 1 := ht
      rw [tw_cons, hc, if_pos rfl] at ht'
      rw [sz_cons]
      rw [if_neg (by omega), if_neg (by omega), if_neg (by omega), if_neg (by omega), if_neg (by omega), if_neg (by omega), hc, if_pos rfl, ht']
      rfl
  | @neg v h1 h2 =>
    obtain ⟨z, e, hz⟩ := last_all h1 h2
    have hh : ∀ c, r.head? = some c → isD c = false := fun c hc => by
      have := hr c hc
      unfold glue at this
      have e' : (45 :: v).getLast? = some z := by
        cases v with
        | nil => exact (h1 rfl).elim
        | cons a v => exact e
      rw [e'] at this
      simp only [hz, Bool.true_and, Bool.or_eq_false_iff] at this
      exact this.1.1.2
    have ht := tw_app h2 hh
    have hp : 0 < v.length := List.length_pos_iff.mpr h1
    show sz (45 :: (v ++ r)) = _
    rw [sz_cons]
    rw [if_neg (by omega), if_neg (by omega), if_neg (by omega), if_neg (by omega), if_neg (by omega), if_pos rfl, ht, if_pos hp]
    rfl
  | sg h =>
    simp only [List.mem_cons, List.not_mem_nil, or_false] at h
    rcases h with h | h | h | h | h | h | h | h | h <;> subst h
    · rfl
    · simp [sz]
    · have h1 : r.head? ≠ some 61 := fun z => by have := hr _ z; revert this; decide
      have h2 : r.head? ≠ some 62 := fun z => by have := hr _ z; revert this; decide
      simp [sz, h1, h2]
    · simp [sz]
    · have h1 : r.head? ≠ some 61 := fun z => by have := hr _ z; revert this; decide
      simp [sz, h1]
    · simp [sz]
    · rfl
    · rfl
    · rfl
  | @q v h =>
    have e : (39 :: (v ++ [39])) ++ r = 39 :: (v ++ 39 :: r) := by simp
    rw [e]
    rw [sz_cons]
    rw [if_neg (by omega), if_pos rfl, idq_app r h]
    simp
def joinL : List (Nat × List Nat) → List Nat
  | [] => []
  | p :: ps => List.replicate p.1 32 ++ (p.2 ++ joinL ps)
def Ch : List Nat → List (Nat × List Nat) → Prop
  | _, [] => True
  | last, p :: ps => (p.1 = 0 → ∀ c, p.2.head? = some c → glue last c = false) ∧ Ch p.2 ps
def lastw : List Nat → List (Nat × List Nat) → List Nat
  | l, [] => l
  | _, p :: ps => lastw p.2 ps
theorem glue_sp (w : List Nat) : glue w 32 = false := glue_no (by decide) (by decide) (by decide) (by decide) w
theorem join_tk : ∀ (ps : List (Nat × List Nat)) (last r : List Nat) (ws : List (List Nat)) (b : Bool), (∀ p ∈ ps, Wd p.2) → Ch last ps → (∀ c, r.head? = some c → glue (lastw last ps) c = false) → Tk r ws b →
    Tk (joinL ps ++ r) (ps.map (·.2) ++ ws) b ∧ ∀ c, (joinL ps ++ r).head? = some c → glue last c = false
  | [], last, r, ws, b, _, _, hr, t => ⟨t, hr⟩
  | (g, w) :: ps, last, r, ws, b, hw, hc, hr, t => by
    obtain ⟨ih1, ih2⟩ := join_tk ps w r ws b (fun p hp => hw p (List.mem_cons_of_mem _ hp)) hc.2 hr t
    have w1 : Wd w := hw (g, w) List.mem_cons_self
    obtain ⟨c, v, e, hc32⟩ := wd_cons w1
    have hs := sz_word w1 ih2
    have e1 : joinL ((g, w) :: ps) ++ r = List.replicate g 32 ++ (w ++ (joinL ps ++ r)) := by
      show List.replicate g 32 ++ (w ++ joinL ps) ++ r = _
      simp
    rw [e1]
    have t1 : Tk (w ++ (joinL ps ++ r)) (w :: (ps.map (·.2) ++ ws)) b := by
      subst e
      have q : Tk (c :: (v ++ (joinL ps ++ r))) ((c :: (v ++ (joinL ps ++ r))).take (sz (c :: (v ++ (joinL ps ++ r)))) :: (ps.map (·.2) ++ ws)) b := by
        refine Tk.word hc32 ?_ ?_
        · have : sz (c :: (v ++ (joinL ps ++ r))) = (c :: v).length := hs
          rw [this]; simp
        · have : sz (c :: (v ++ (joinL ps ++ r))) = (c :: v).length := hs
          rw [this]
          have e2 : (c :: (v ++ (joinL ps ++ r))).drop (c :: v).length = joinL ps ++ r := List.drop_left (l₁ := c :: v)
          rw [e2]; exact ih1
      have e3 : sz (c :: (v ++ (joinL ps ++ r))) = (c :: v).length := hs
      rw [e3] at q
      have e2 : (c :: (v ++ (joinL ps ++ r))).take (c :: v).length = c :: v := List.take_left (l₁ := c :: v)
      rw [e2] at q
      exact q
    refine ⟨tk_sps t1 g, fun z hz => ?_⟩
    cases g with
    | zero =>
      subst e
      have : z = c := by simpa using hz.symm
      subst this
      exact hc.1 rfl _ rfl
    | succ g =>
      have : z = 32 := by
        have h' : (32 :: (List.replicate g 32 ++ (w ++ (joinL ps ++ r)))).head? = some z := hz
        simpa using h'.symm
      subst this
      exact glue_sp _
end K28

set_option Elab.async false
set_option linter.all false
set_option maxRecDepth 100000
/-! M28b: k28: texts as lists of signs; the program's words. -/
namespace K28
open PySem PySem.Spec PyProof.Rows L2 NF
open NF.Data (toD)
abbrev S (l : List Nat) : Str := ⟨l.toArray⟩
theorem S_eta (t : Str) : S t.cps.toList = t := by cases t; simp
theorem S_inj {a b : List Nat} : S a = S b ↔ a = b := ⟨fun h => by
  have : a.toArray = b.toArray := by injection h
  simpa using this, fun h => by rw [h]⟩
theorem S_dec (a b : List Nat) : decide (S a = S b) = decide (a = b) := by
  by_cases h : a = b
  · subst h; simp
  · rw [decide_eq_false h, decide_eq_false fun z => h (S_inj.mp z)]
theorem S_len (l : List Nat) : (S l).length = l.length := by
  show l.toArray.size = l.length
  simp
theorem S_app (a b : List Nat) : S a ++ S b = S (a ++ b) := by
  show (⟨a.toArray ++ b.toArray⟩ : Str) = _
  rw [List.append_toArray]
theorem idxS_ok {l : List Nat} {j c : Nat} (h : l[j]? = some c) (hl : l.length ≤ 100000) : idxS (S l) (j : Int) = .ok (S [c]) := by
  have := sl_ge
  unfold idxS
  rw [atI_nat (v := c) h]
  exact need_ok (by rw [S_len]; omega)
theorem inS_ok (c : Nat) (l : List Nat) : inS (S [c]) (S l) = .ok (decide (c ∈ l)) := rfl
theorem cutS_ok (l : List Nat) (i j : Nat) : cutS (S l) (some (i : Int)) (some (j : Int)) = S ((l.drop i).take (j - i)) := by
  unfold cutS
  rw [S_len]
  unfold HT.sIx
  dsimp only
  rw [if_neg (by omega), if_neg (by omega)]
  show S _ = _
  rw [S_inj]
  show List.take (min (j : Int).toNat l.length - min (i : Int).toNat l.length) (List.drop (min (i : Int).toNat l.length) l) = _
  rw [Int.toNat_natCast, Int.toNat_natCast]
  by_cases h : i ≤ l.length
  · rw [Nat.min_eq_left h]
    by_cases h2 : j ≤ l.length
    · rw [Nat.min_eq_left h2]
    · rw [Nat.min_eq_right (by omega), List.take_of_length_le (by rw [List.length_drop]; omega), List.take_of_length_le (by rw [List.length_drop]; omega)]
  · rw [Nat.min_eq_right (show l.length ≤ i by omega), List.drop_of_length_le (Nat.le_refl _), List.drop_of_length_le (show l.length ≤ i by omega)]
    simp
theorem cutS_from (l : List Nat) (i : Nat) : cutS (S l) (some (i : Int)) none = S (l.drop i) := by
  unfold cutS
  rw [S_len]
  unfold HT.sIx
  dsimp only
  rw [if_neg (by omega)]
  show S _ = _
  rw [S_inj]
  show List.take (l.length - min (i : Int).toNat l.length) (List.drop (min (i : Int).toNat l.length) l) = _
  rw [Int.toNat_natCast]
  by_cases h : i ≤ l.length
  · rw [Nat.min_eq_left h, List.take_of_length_le (by rw [List.length_drop]; omega)]
  · rw [Nat.min_eq_right (show l.length ≤ i by omega), List.drop_of_length_le (Nat.le_refl _), List.drop_of_length_le (show l.length ≤ i by omega)]
    simp
/-! find -/
open Builtin.Str StrLaws in
theorem occ_full (s sub : Str) (hi : Nat) : ∀ (l : List Nat) (st : Array Nat × Nat), st.fst.size = 1 → (forIn l st (occBody s sub hi 1)).run.fst = st.fst
  | [], st, _ => rfl
  | a :: l, st, h => by
    rw [List.forIn_cons]
    unfold occBody
    rw [if_neg (by omega)]
    exact occ_full s sub hi l (st.fst, st.snd) h
open Builtin.Str StrLaws in
theorem occ_first (l : List Nat) : ∀ (n a free : Nat), free ≤ a → a + n = l.length + 1 → (forIn (List.range' a n) ((#[] : Array Nat), free) (occBody (S l) ⟨#[39]⟩ l.length 1)).run.fst.toList = (match idq (l.drop a) with | some j => [a + j] | none => [])
  | 0, a, free, h1, h2 => by
    rw [List.drop_of_length_le (by omega)]
    rfl
  | n + 1, a, free, h1, h2 => by
    rw [List.range'_succ, List.forIn_cons]
    have hs := subAt_one (S l) 39 a
    rw [S_len] at hs
    unfold occBody
    by_cases hc : l[a]? = some 39
    · obtain ⟨ha, hv⟩ := List.getElem?_eq_some_iff.mp hc
      have hq := hs.mpr (by simpa using hc)
      rw [if_pos ⟨⟨⟨by simp, h1⟩, hq.1⟩, hq.2⟩]
      have := occ_full (S l) ⟨#[39]⟩ l.length (List.range' (a + 1) n) ((#[] : Array Nat).push a, a + (⟨#[39]⟩ : Str).length) (by simp)
      have e : List.drop a l = 39 :: List.drop (a + 1) l := by rw [List.drop_eq_getElem_cons ha, hv]
      rw [e]
      unfold idq
      rw [if_pos rfl]
      refine (congrArg Array.toList this).trans ?_
      simp
    · rw [if_neg (fun z => hc (by simpa using hs.mp ⟨z.1.2, z.2⟩))]
      refine (occ_first l n (a + 1) free (by omega) (by omega)).trans ?_
      by_cases ha : a < l.length
      · have e : List.drop a l = l[a] :: List.drop (a + 1) l := List.drop_eq_getElem_cons ha
        rw [e]
        show _ = (match (if l[a] = 39 then some 0 else (idq (List.drop (a + 1) l)).map (· + 1)) with | some j => [a + j] | none => [])
        rw [if_neg (fun z => hc (by rw [List.getElem?_eq_getElem ha, z]))]
        cases idq (List.drop (a + 1) l) with
        | none => rfl
        | some j => show [a + 1 + j] = [a + (j + 1)]; congr 1; omega
      · rw [List.drop_of_length_le (by omega), List.drop_of_length_le (by omega)]
        rfl
theorem find_ok (l : List Nat) (i : Nat) (h : i ≤ l.length) : Txt.find3 (S l) (S [39]) (i : Int) = (match idq (l.drop i) with | some j => ((i + j : Nat) : Int) | none => -1) := by
  have e : fromIndex (S l).length (i : Int) = i := by unfold fromIndex; rw [if_neg (by omega)]; omega
  unfold Txt.find3
  rw [e, StrLaws.occ_eq, S_len]
  have q := occ_first l (l.length + 1 - i) i i (Nat.le_refl _) (by omega)
  have q' : (forIn (List.range' i (l.length + 1 - i)) ((#[] : Array Nat), i) (StrLaws.occBody (S l) (S [39]) l.length 1)).run.fst.toList = _ := q
  rw [q']
  cases idq (l.drop i) with
  | none => rfl
  | some j => rfl
/-! the letters, the figures -/
def lets : List Nat := (List.range 26).map (· + 97)
def figs : List Nat := (List.range 10).map (· + 48)
theorem o_lets : PySem.Str.ofString "abcdefghijklmnopqrstuvwxyz" = S lets := by decide +kernel
theorem o_figs : PySem.Str.ofString "0123456789" = S figs := by decide +kernel
theorem in_lets (c : Nat) : decide (c ∈ lets) = isL c := by
  have : c ∈ lets ↔ isL c = true := by
    rw [isL_iff]
    unfold lets
    rw [List.mem_map]
    exact ⟨fun ⟨i, h1, h2⟩ => by rw [List.mem_range] at h1; omega, fun h => ⟨c - 97, by rw [List.mem_range]; omega, by omega⟩⟩
  rw [Bool.eq_iff_iff, decide_eq_true_eq]
  exact this
theorem in_figs (c : Nat) : decide (c ∈ figs) = isD c := by
  have : c ∈ figs ↔ isD c = true := by
    rw [isD_iff]
    unfold figs
    rw [List.mem_map]
    exact ⟨fun ⟨i, h1, h2⟩ => by rw [List.mem_range] at h1; omega, fun h => ⟨c - 48, by rw [List.mem_range]; omega, by omega⟩⟩
  rw [Bool.eq_iff_iff, decide_eq_true_eq]
  exact this
/-! the program's stretch -/
def sC (l ls : List Nat) (b2 : Int) : Res Bool := ((need (Str.length (S l) ≤ sizeLine) (Res.ok (Str.length (S l) : Int))).bind fun v4 => Res.ok (decide (b2 < v4))).bind fun v6 => if v6 then ((idxS (S l) b2).bind fun v5 => inS v5 (S ls)) else Res.ok false
def sF (b2 : Int) : Res Int := Res.ok (b2 + (1 : Int))
theorem sC_ok {l ls : List Nat} {p : Nat → Bool} (hp : ∀ c, decide (c ∈ ls) = p c) (hl : l.length ≤ 100000) {i : Nat} (h : i < l.length) : sC l ls (i : Int) = .ok (p l[i]) := by
  have hs := sl_ge
  unfold sC
  rw [need_ok (by rw [S_len]; omega), Res.bind_ok, Res.bind_ok, S_len, decide_eq_true (by omega), if_pos rfl, idxS_ok (List.getElem?_eq_getElem h) hl, Res.bind_ok, inS_ok, hp]
theorem sC_end {l ls : List Nat} (hl : l.length ≤ 100000) : sC l ls (l.length : Int) = .ok false := by
  have hs := sl_ge
  unfold sC
  rw [need_ok (by rw [S_len]; omega), Res.bind_ok, Res.bind_ok, S_len, decide_eq_false (by omega), if_neg (by decide)]
theorem s_loop {l ls : List Nat} {p : Nat → Bool} (hp : ∀ c, decide (c ∈ ls) = p c) (hl : l.length ≤ 100000) : ∀ (n i : Nat), i ≤ l.length → l.length - i ≤ n → whileN (sC l ls) sF (n + 1) (i : Int) = .ok ((i + tw p (l.drop i) : Nat) : Int)
  | 0, i, h1, h2 => by
    have : i = l.length := by omega
    subst this
    show ((sC l ls (l.length : Int)).bind fun t => if t then _ else _) = _
    rw [sC_end hl, Res.bind_ok, if_neg (by decide), List.drop_of_length_le (Nat.le_refl _)]
    rfl
  | n + 1, i, h1, h2 => by
    show ((sC l ls (i : Int)).bind fun t => if t then (sF (i : Int)).bind fun b => whileN (sC l ls) sF (n + 1) b else .ok (i : Int)) = _
    by_cases h3 : i < l.length
    · rw [sC_ok hp hl h3, Res.bind_ok, List.drop_eq_getElem_cons h3, tw_cons]
      by_cases h4 : p l[i] = true
      · rw [if_pos h4, if_pos h4]
        have e : sF (i : Int) = .ok ((i + 1 : Nat) : Int) := rfl
        rw [e, Res.bind_ok, s_loop hp hl n (i + 1) (by omega) (by omega)]
        congr 2
        omega
      · rw [if_neg h4, if_neg h4]
        rfl
    · have : i = l.length := by omega
      subst this
      rw [sC_end hl, Res.bind_ok, if_neg (by decide), List.drop_of_length_le (Nat.le_refl _)]
      rfl
theorem stretch_ok {l ls : List Nat} {p : Nat → Bool} (hp : ∀ c, decide (c ∈ ls) = p c) (hl : l.length ≤ 100000) (i : Nat) (hi : i ≤ l.length) : m_stretch_end ⟨S l, (i : Int), S ls, ()⟩ = .ok ((i + tw p (l.drop i) : Nat) : Int) := by
  show (whileW (sC l ls) sF (i : Int)).bind _ = _
  have k := s_loop hp hl (l.length - i) i hi (Nat.le_refl _)
  rw [whileW_of (n := l.length - i + 1) (by rw [k]; exact fun z => by cases z), k]
  rfl
end K28

set_option Elab.async false
set_option linter.all false
set_option maxRecDepth 100000
/-! M28c: k28: the program divides a text. -/
namespace K28
open PySem PySem.Spec PyProof.Rows L2 NF
open NF.Data (toD)
theorem goOn_inl {B D : Type} (b : B) (f : B → Res D) : goOn (.ok (.inl b)) f = f b := rfl
theorem goOn_inr {B D : Type} (d : D) (f : B → Res D) : goOn (.ok (.inr d)) f = .ok d := rfl
theorem o_par : PySem.Str.ofString "()," = S [40, 41, 44] := by decide +kernel
theorem o_q : PySem.Str.ofString "'" = S [39] := by decide +kernel
theorem o_mi : PySem.Str.ofString "-" = S [45] := by decide +kernel
theorem o_sp : PySem.Str.ofString " " = S [32] := by decide +kernel
theorem o_lt : PySem.Str.ofString "<" = S [60] := by decide +kernel
theorem o_gt : PySem.Str.ofString ">" = S [62] := by decide +kernel
theorem o_eq : PySem.Str.ofString "=" = S [61] := by decide +kernel
theorem o_ne : PySem.Str.ofString "<>" = S [60, 62] := by decide +kernel
theorem o_le : PySem.Str.ofString "<=" = S [60, 61] := by decide +kernel
theorem o_ge : PySem.Str.ofString ">=" = S [62, 61] := by decide +kernel
theorem drop_at {l r : List Nat} {c i : Nat} (h : l.drop i = c :: r) : i < l.length ∧ l[i]? = some c ∧ l.drop (i + 1) = r := by
  have h1 : i < l.length := Decidable.byContradiction fun z => by rw [List.drop_of_length_le (by omega)] at h; cases h
  rw [List.drop_eq_getElem_cons h1] at h
  injection h with h2 h3
  exact ⟨h1, by rw [List.getElem?_eq_getElem h1, h2], h3⟩
def wF (l : List Nat) (i : Int) : Str → Unit → Res (Sum Unit Int) := fun (a10 : Str) (b11 : Unit) => (((((need (Str.length a10 ≤ sizeLine) (Res.ok (Str.length a10 : Int))).bind fun v14 => Res.ok (i + v14)).bind fun v15 => Res.ok (some v15)).bind fun v16 => need (Str.length (S l) ≤ sizeLine) (Res.ok (cutS (S l) (some i) v16))).bind fun v17 => Res.ok (decide (v17 = a10))).bind fun v19 => if v19 then (((need (Str.length a10 ≤ sizeLine) (Res.ok (Str.length a10 : Int))).bind fun v18 => Res.ok (i + v18)).bind fun d => Res.ok (Sum.inr d)) else (Res.ok (Sum.inl ()))
theorem wF_ok {l : List Nat} (hl : l.length ≤ 100000) (i : Nat) (z : List Nat) (hz : z.length ≤ 2) : wF l (i : Int) (S z) () = if (l.drop i).take z.length = z then .ok (.inr ((i + z.length : Nat) : Int)) else .ok (.inl ()) := by
  have hs := sl_ge
  have e : (i : Int) + ((S z).length : Nat) = ((i + z.length : Nat) : Int) := by rw [S_len]; omega
  unfold wF
  rw [need_ok (by rw [S_len]; omega), Res.bind_ok, Res.bind_ok, Res.bind_ok, need_ok (by rw [S_len]; omega), Res.bind_ok, Res.bind_ok, Res.bind_ok, e, cutS_ok, S_dec, show i + z.length - i = z.length by omega]
  by_cases h : (l.drop i).take z.length = z
  · rw [if_pos h, if_pos (by simpa using h)]
  · rw [if_neg h, if_neg (by simpa using h)]
def sgs : List Str := [S [60, 62], S [60, 61], S [62, 61], S [61], S [60], S [62]]
theorem signs_ok {l r : List Nat} {c i : Nat} (hl : l.length ≤ 100000) (h : l.drop i = c :: r) : foldM (wF l (i : Int)) sgs () =
    if c = 60 then .ok (.inr ((i + (if r.head? = some 61 ∨ r.head? = some 62 then 2 else 1) : Nat) : Int)) else if c = 62 then .ok (.inr ((i + (if r.head? = some 61 then 2 else 1) : Nat) : Int)) else if c = 61 then .ok (.inr ((i + 1 : Nat) : Int)) else .ok (.inl ()) := by
  have f2 : ∀ a b : Nat, wF l (i : Int) (S [a, b]) () = if c = a ∧ r.head? = some b then .ok (.inr ((i + 2 : Nat) : Int)) else .ok (.inl ()) := fun a b => by
    rw [wF_ok hl i [a, b] (Nat.le_refl _), h]
    have : (List.take [a, b].length (c :: r) = [a, b]) ↔ (c = a ∧ r.head? = some b) := by
      cases r <;> simp
    by_cases q : c = a ∧ r.head? = some b
    · rw [if_pos q, if_pos (this.mpr q)]; rfl
    · rw [if_neg q, if_neg (fun z => q (this.mp z))]
  have f1 : ∀ a : Nat, wF l (i : Int) (S [a]) () = if c = a then .ok (.inr ((i + 1 : Nat) : Int)) else .ok (.inl ()) := fun a => by
    rw [wF_ok hl i [a] (by simp), h]
    have : (List.take [a].length (c :: r) = [a]) ↔ c = a := by simp
    by_cases q : c = a
    · rw [if_pos q, if_pos (this.mpr q)]; rfl
    · rw [if_neg q, if_neg (fun z => q (this.mp z))]
  unfold sgs
  simp only [foldM, f2, f1]
  by_cases h1 : c = 60
  · subst h1
    by_cases q1 : r.head? = some 62
    · simp [q1, Res.bind_ok]
    · by_cases q2 : r.head? = some 61
      · simp [q2, Res.bind_ok]
      · simp [q1, q2, Res.bind_ok]
  · by_cases h2 : c = 62
    · subst h2
      by_cases q2 : r.head? = some 61
      · simp [q2, Res.bind_ok]
      · simp [q2, Res.bind_ok]
    · by_cases h3 : c = 61
      · subst h3; simp [Res.bind_ok]
      · simp [h1, h2, h3, Res.bind_ok]
theorem word_end_ok {l r : List Nat} {c i : Nat} (hl : l.length ≤ 100000) (h : l.drop i = c :: r) : ∃ e : Int, m_word_end ⟨S l, (i : Int), ()⟩ = .ok e ∧ (0 < sz (c :: r) → e = ((i + sz (c :: r) : Nat) : Int)) ∧ (sz (c :: r) = 0 → e ≤ (i : Int)) := by
  have hs := sl_ge
  obtain ⟨hi, hc, hr⟩ := drop_at h
  have ix := idxS_ok hc hl
  rw [sz_cons]
  unfold m_word_end
  dsimp only
  rw [o_par, o_q, o_mi, o_ne, o_le, o_ge, o_eq, o_lt, o_gt, o_figs, o_lets, ix, Res.bind_ok, inS_ok, Res.bind_ok]
  by_cases c1 : c = 40 ∨ c = 41 ∨ c = 44
  · rw [if_pos (by simpa using c1), if_pos c1]
    exact ⟨_, rfl, fun _ => by omega, fun z => by omega⟩
  rw [if_neg (by simpa using c1), if_neg c1, Res.bind_ok, Res.bind_ok, S_dec]
  by_cases c2 : c = 39
  · subst c2
    rw [if_pos (by simp), if_pos rfl]
    have f := find_ok l (i + 1) (by omega)
    rw [hr] at f
    rw [show ((i : Int) + 1) = ((i + 1 : Nat) : Int) by omega, f]
    cases e : idq r with
    | none => exact ⟨_, rfl, fun z => (Nat.lt_irrefl _ z).elim, fun _ => by show (-1 : Int) + 1 ≤ _; omega⟩
    | some j => exact ⟨((i + 1 + j : Nat) : Int) + 1, rfl, fun _ => by show _ = ((i + (j + 2) : Nat) : Int); omega, fun z => by have z' : j + 2 = 0 := z; omega⟩
  rw [if_neg (by simpa using c2), if_neg c2]
  show ∃ e : Int, (goOn (foldM (wF l (i : Int)) sgs ()) _) = _ ∧ _
  rw [signs_ok hl h]
  by_cases c3 : c = 60
  · rw [if_pos c3, if_pos c3]
    refine ⟨_, rfl, fun _ => rfl, fun z => ?_⟩
    split at z <;> omega
  rw [if_neg c3, if_neg c3]
  by_cases c4 : c = 62
  · rw [if_pos c4, if_pos c4]
    refine ⟨_, rfl, fun _ => rfl, fun z => ?_⟩
    split at z <;> omega
  rw [if_neg c4, if_neg c4]
  by_cases c5 : c = 61
  · rw [if_pos c5, if_pos c5]
    exact ⟨_, rfl, fun _ => rfl, fun z => by omega⟩
  rw [if_neg c5, if_neg c5]
  rw [goOn_inl, Res.bind_ok, Res.bind_ok, S_dec]
  by_cases c6 : c = 45
  · subst c6
    rw [if_pos (by simp), if_pos rfl]
    have f := stretch_ok in_figs hl (i + 1) (by omega)
    rw [hr] at f
    rw [show ((i : Int) + 1) = ((i + 1 : Nat) : Int) by omega, f, Res.bind_ok]
    by_cases k : 0 < tw isD r
    · rw [if_pos k, if_pos (by simp; omega)]
      exact ⟨_, rfl, fun _ => by omega, fun z => by omega⟩
    · rw [if_neg k, if_neg (by simp; omega)]
      exact ⟨_, rfl, fun z => (Nat.lt_irrefl _ z).elim, fun _ => Int.le_refl _⟩
  rw [if_neg (by simpa using c6), if_neg c6, Res.bind_ok, inS_ok, Res.bind_ok, in_figs]
  by_cases c7 : isD c = true
  · rw [if_pos c7, if_pos c7, Res.bind_ok, Res.bind_ok, Res.bind_ok, Res.bind_ok]
    have f := stretch_ok in_figs hl i (by omega)
    rw [h, tw_cons, if_pos c7] at f
    exact ⟨_, f, fun _ => rfl, fun z => by omega⟩
  rw [if_neg c7, if_neg c7, Res.bind_ok, Res.bind_ok, Res.bind_ok, Res.bind_ok]
  have f := stretch_ok in_lets hl i (by omega)
  rw [h, tw_cons] at f
  by_cases c8 : isL c = true
  · rw [if_pos c8] at f
    rw [if_pos c8]
    exact ⟨_, f, fun _ => rfl, fun z => by omega⟩
  · rw [if_neg c8] at f
    rw [if_neg c8]
    exact ⟨_, f, fun z => (Nat.lt_irrefl _ z).elim, fun _ => by omega⟩
/-! split_words -/
def pC (l : List Nat) (b34 : Int × List Str) : Res Bool := (need (Str.length (S l) ≤ sizeLine) (Res.ok (Str.length (S l) : Int))).bind fun v36 => Res.ok (decide (b34.1 < v36))
noncomputable def pF (l : List Nat) (b34 : Int × List Str) : Res (Int × List Str) := ((idxS (S l) b34.1).bind fun v37 => Res.ok (decide (v37 = (PySem.Str.ofString " ")))).bind fun v43 => if v43 then ((let at_42 := (b34.1 + (1 : Int))
  Res.ok (at_42, b34.2))) else ((Res.quiet (m_word_end (Ar.mk (S l) (Ar.mk b34.1 ())))).bind fun end_38 => if (decide (end_38 ≤ b34.1)) then (Res.err "Unread" [("at", toD (List.length b34.2 : Int))]) else (((need (Str.length (S l) ≤ sizeLine) (Res.ok (cutS (S l) (some b34.1) (some end_38)))).bind fun v39 => need (List.length b34.2 < sizeLine) (Res.ok (b34.2 ++ [v39]))).bind fun words_40 => (let at_41 := end_38
  Res.ok (at_41, words_40))))
theorem pC_ok {l : List Nat} (hl : l.length ≤ 100000) (i : Nat) (acc : List Str) : pC l ((i : Int), acc) = .ok (decide (i < l.length)) := by
  have hs := sl_ge
  unfold pC
  rw [need_ok (by rw [S_len]; omega), Res.bind_ok, S_len]
  congr 1
  by_cases h : i < l.length
  · rw [decide_eq_true h, decide_eq_true (by show (i : Int) < _; omega)]
  · rw [decide_eq_false h, decide_eq_false (by show ¬ (i : Int) < _; omega)]
def sayS (acc : List Str) (ws : List (List Nat)) (b : Bool) (n : Nat) : Res (Int × List Str) := if b then .ok ((n : Int), acc ++ ws.map S) else .err "Unread" [("at", toD ((acc.length + ws.length : Nat) : Int))]
theorem p_loop {l : List Nat} (hl : l.length ≤ 100000) {suf : List Nat} {ws : List (List Nat)} {b : Bool} (t : Tk suf ws b) : ∀ (i : Nat) (acc : List Str) (n : Nat), i ≤ l.length → l.drop i = suf → suf.length < n → acc.length + ws.length ≤ 100000 → whileN (pC l) (pF l) n ((i : Int), acc) = sayS acc ws b l.length := by
  have hs := sl_ge
  induction t with
  | nil =>
    intro i acc n h1 h2 h3 _
    cases n with
    | zero => omega
    | succ n =>
      have : i = l.length := by
        have := congrArg List.length h2
        rw [List.length_drop] at this
        simp at this; omega
      subst this
      show ((pC l _).bind fun t => if t then _ else _) = _
      rw [pC_ok hl, Res.bind_ok, if_neg (by simp)]
      show Res.ok _ = Res.ok _
      simp
  | @sp r ws b t ih =>
    intro i acc n h1 h2 h3 h4
    cases n with
    | zero => omega
    | succ n =>
      obtain ⟨hi, hc, hr⟩ := drop_at h2
      show ((pC l _).bind fun t => if t then (pF l ((i : Int), acc)).bind fun b => whileN (pC l) (pF l) n b else _) = _
      rw [pC_ok hl, Res.bind_ok, if_pos (by simpa using hi)]
      have e : pF l ((i : Int), acc) = .ok (((i + 1 : Nat) : Int), acc) := by
        unfold pF
        rw [o_sp, idxS_ok hc hl, Res.bind_ok, Res.bind_ok, if_pos (by simp)]
        rfl
      rw [e, Res.bind_ok]
      rw [List.length_cons] at h3
      exact ih (i + 1) acc n (by omega) hr (by omega) h4
  | @bad c r hc32 hz =>
    intro i acc n h1 h2 h3 h4
    cases n with
    | zero => omega
    | succ n =>
      obtain ⟨hi, hc, hr⟩ := drop_at h2
      obtain ⟨e, e1, e2, e3⟩ := word_end_ok hl h2
      show ((pC l _).bind fun t => if t then (pF l ((i : Int), acc)).bind fun b => whileN (pC l) (pF l) n b else _) = _
      rw [pC_ok hl, Res.bind_ok, if_pos (by simpa using hi)]
      have e : pF l ((i : Int), acc) = Res.err "Unread" [("at", toD (List.length acc : Int))] := by
        unfold pF
        rw [o_sp, idxS_ok hc hl, Res.bind_ok, Res.bind_ok, S_dec, if_neg (by simpa using hc32)]
        dsimp only
        rw [e1]
        show (if decide (e ≤ (i : Int)) = true then _ else _) = _
        rw [if_pos (by simpa using e3 hz)]
      rw [e]
      rfl
  | @word c r ws b hc32 hz t ih =>
    intro i acc n h1 h2 h3 h4
    cases n with
    | zero => omega
    | succ n =>
      obtain ⟨hi, hc, hr⟩ := drop_at h2
      obtain ⟨e, e1, e2, e3⟩ := word_end_ok hl h2
      have e2' := e2 hz
      subst e2'
      have hle := sz_le (c :: r)
      have hlen := congrArg List.length h2
      rw [List.length_drop] at hlen
      rw [List.length_cons] at h4
      show ((pC l _).bind fun t => if t then (pF l ((i : Int), acc)).bind fun b => whileN (pC l) (pF l) n b else _) = _
      rw [pC_ok hl, Res.bind_ok, if_pos (by simpa using hi)]
      have e : pF l ((i : Int), acc) = .ok (((i + sz (c :: r) : Nat) : Int), acc ++ [S ((c :: r).take (sz (c :: r)))]) := by
        unfold pF
        rw [o_sp, idxS_ok hc hl, Res.bind_ok, Res.bind_ok, S_dec, if_neg (by simpa using hc32)]
        dsimp only
        rw [e1]
        show (if decide (((i + sz (c :: r) : Nat) : Int) ≤ (i : Int)) = true then _ else _) = _
        rw [if_neg (by simp; omega), need_ok (by rw [S_len]; omega), Res.bind_ok, need_ok (by omega), Res.bind_ok, cutS_ok, h2, show i + sz (c :: r) - i = sz (c :: r) by omega]
      rw [e, Res.bind_ok, ih (i + sz (c :: r)) _ n (by omega) (by rw [← h2, List.drop_drop]) (by rw [List.length_drop]; omega) (by rw [List.length_append, List.length_singleton]; omega)]
      unfold sayS
      cases b with
      | true => simp
      | false =>
        show Res.err _ _ = Res.err _ _
        rw [List.length_append, List.length_singleton, List.length_cons, show acc.length + 1 + ws.length = acc.length + (ws.length + 1) by omega]
theorem split_ok {l : List Nat} (hl : l.length ≤ 100000) {ws : List (List Nat)} {b : Bool} (t : Tk l ws b) : m_split_words ⟨S l, ()⟩ = if b then .ok (ws.map S) else .err "Unread" [("at", toD ((ws.length : Nat) : Int))] := by
  have hs := sl_ge
  have htl := tk_len t
  unfold m_split_words
  rw [need_ok (by simp), Res.bind_ok]
  show (whileW (pC l) (pF l) ((0 : Int), ([] : List Str))).bind _ = _
  have k := p_loop hl t 0 [] (l.length + 1) (Nat.zero_le _) rfl (by omega) (by simp; omega)
  have k' : whileN (pC l) (pF l) (l.length + 1) ((0 : Int), ([] : List Str)) = _ := k
  rw [whileW_of (n := l.length + 1) (by rw [k']; unfold sayS; split <;> exact fun z => by cases z), k']
  unfold sayS
  cases b with
  | true => simp [Res.bind_ok]
  | false => simp [Res.bind]
end K28

set_option Elab.async false
set_option linter.all false
set_option maxRecDepth 100000
/-! M28d: k28: the law divides a text. -/
namespace K28
open PySem PySem.Spec PyProof.Rows L2 NF
open NF.Data (toD)
theorem o_pare : PySem.Str.ofString "(),=" = S [40, 41, 44, 61] := by decide +kernel
theorem lets_ok : m_law_letters () = .ok (S lets) := by
  show Res.ok _ = _
  rw [o_lets]
def gF (ls : List Nat) : Str → Int → Res (Sum Int Int) := (fun (a251 : Str) (b252 : (Int)) => ((inS a251 (S ls)).bind fun b => Res.ok (!b)).bind fun v256 => if v256 then ((Res.ok b252).bind fun d => Res.ok (Sum.inr d)) else ((let size_255 := (b252 + (1 : Int))
  Res.ok (Sum.inl size_255))))
theorem g_loop {ls : List Nat} {p : Nat → Bool} (hp : ∀ c, decide (c ∈ ls) = p c) : ∀ (suf : List Nat) (k : Int), goOn (foldM (gF ls) (suf.map fun c => S [c]) k) (fun b => .ok b) = .ok (k + (tw p suf : Nat))
  | [], k => by show Res.ok k = Res.ok (k + ((0 : Nat) : Int)); congr 1; omega
  | c :: r, k => by
    show goOn ((gF ls (S [c]) k).bind _) _ = _
    unfold gF
    rw [inS_ok, hp, Res.bind_ok, Res.bind_ok, tw_cons]
    by_cases h : p c = true
    · rw [h, if_neg (by decide), if_pos rfl]
      have := g_loop hp r (k + 1)
      unfold gF at this
      refine this.trans ?_
      congr 1
      omega
    · have h' : p c = false := by simpa using h
      rw [h', if_pos (by decide), if_neg (by decide)]
      show Res.ok k = Res.ok (k + ((0 : Nat) : Int)); congr 1; omega
theorem lstretch_ok {l ls : List Nat} {p : Nat → Bool} (hp : ∀ c, decide (c ∈ ls) = p c) (hl : l.length ≤ 100000) (i : Nat) : m_law_stretch ⟨S l, (i : Int), S ls, ()⟩ = .ok ((tw p (l.drop i) : Nat) : Int) := by
  have hs := sl_ge
  unfold m_law_stretch
  dsimp only
  rw [need_ok (by rw [S_len]; omega), Res.bind_ok, cutS_from, Res.bind_ok]
  have := g_loop hp (l.drop i) 0
  refine Eq.trans this ?_
  congr 1
  omega
theorem size_ok {l r : List Nat} {c i : Nat} (hl : l.length ≤ 100000) (h : l.drop i = c :: r) : ∃ e : Int, m_law_size ⟨S l, (i : Int), ()⟩ = .ok e ∧ (0 < sz (c :: r) → e = ((sz (c :: r) : Nat) : Int)) ∧ (sz (c :: r) = 0 → e < 1) := by
  have hs := sl_ge
  obtain ⟨hi, hc, hr⟩ := drop_at h
  have ix := idxS_ok hc hl
  have ea : cutS (S l) (some ((i : Int) + 1)) (some ((i : Int) + 2)) = S (r.take 1) := by
    rw [show (i : Int) + 1 = ((i + 1 : Nat) : Int) by omega, show (i : Int) + 2 = ((i + 2 : Nat) : Int) by omega, cutS_ok, hr, show i + 2 - (i + 1) = 1 by omega]
  have e1 : ∀ a : Nat, (r.take 1 = [a]) ↔ r.head? = some a := fun a => by cases r <;> simp
  rw [sz_cons]
  unfold m_law_size
  dsimp only
  rw [ix, Res.bind_ok, need_ok (by rw [S_len]; omega), Res.bind_ok, ea, o_pare, o_q, o_mi, o_eq, o_lt, o_gt, o_figs, inS_ok, Res.bind_ok]
  simp only [S_dec]
  by_cases c1 : c = 40 ∨ c = 41 ∨ c = 44
  · rw [if_pos (by simp; omega), if_pos c1]
    exact ⟨_, rfl, fun _ => rfl, fun z => by omega⟩
  by_cases c5 : c = 61
  · subst c5
    rw [if_pos (by simp), if_neg c1, if_neg (by decide), if_neg (by decide), if_neg (by decide), if_pos rfl]
    exact ⟨_, rfl, fun _ => rfl, fun z => by omega⟩
  rw [if_neg (by simp; omega), if_neg c1]
  by_cases c3 : c = 60
  · subst c3
    rw [if_pos (by simp), if_neg (by decide), if_pos rfl, need_ok (by show 2 ≤ sizeLine; omega), Res.bind_ok, Res.bind_ok]
    have : (S (r.take 1) ∈ [S [61], S [62]]) ↔ (r.head? = some 61 ∨ r.head? = some 62) := by
      rw [← e1, ← e1, ← S_inj, ← S_inj]; simp
    by_cases q : r.head? = some 61 ∨ r.head? = some 62
    · rw [if_pos (by rw [decide_eq_true_eq]; exact this.mpr q), if_pos q]
      exact ⟨_, rfl, fun _ => rfl, fun z => by omega⟩
    · rw [if_neg (by rw [decide_eq_true_eq]; exact fun z => q (this.mp z)), if_neg q]
      exact ⟨_, rfl, fun _ => rfl, fun z => by omega⟩
  rw [if_neg (by simpa using c3)]
  by_cases c4 : c = 62
  · subst c4
    rw [if_pos (by simp), if_neg (show ¬ (62 : Nat) = 39 by decide), if_neg (show ¬ (62 : Nat) = 60 by decide), if_pos (show (62 : Nat) = 62 from rfl)]
    by_cases q : r.head? = some 61
    · rw [if_pos (by rw [decide_eq_true_eq]; exact (e1 61).mpr q), if_pos q]
      exact ⟨_, rfl, fun _ => rfl, fun z => by omega⟩
    · rw [if_neg (by rw [decide_eq_true_eq]; exact fun z => q ((e1 61).mp z)), if_neg q]
      exact ⟨_, rfl, fun _ => rfl, fun z => by omega⟩
  rw [if_neg (by simpa using c4)]
  by_cases c2 : c = 39
  · subst c2
    rw [if_pos (by simp), if_pos rfl]
    have f := find_ok l (i + 1) (by omega)
    rw [hr] at f
    rw [show ((i : Int) + 1) = ((i + 1 : Nat) : Int) by omega, f]
    cases e : idq r with
    | none => exact ⟨_, rfl, fun z => (Nat.lt_irrefl _ z).elim, fun _ => by show (-1 : Int) - i + 1 < _; omega⟩
    | some j => exact ⟨((i + 1 + j : Nat) : Int) - i + 1, rfl, fun _ => by show _ = ((j + 2 : Nat) : Int); omega, fun z => by have z' : j + 2 = 0 := z; omega⟩
  rw [if_neg (by simpa using c2), if_neg c2, if_neg c3, if_neg c4, if_neg c5]
  by_cases c6 : c = 45
  · subst c6
    rw [if_pos (by simp), if_pos rfl]
    have f := lstretch_ok in_figs hl (i + 1)
    rw [hr] at f
    rw [show ((i : Int) + 1) = ((i + 1 : Nat) : Int) by omega, f, Res.bind_ok]
    by_cases k : 0 < tw isD r
    · rw [if_pos k, if_pos (by simp; omega)]
      exact ⟨_, rfl, fun _ => by omega, fun z => by omega⟩
    · rw [if_neg k, if_neg (by simp; omega)]
      exact ⟨_, rfl, fun z => (Nat.lt_irrefl _ z).elim, fun _ => by decide⟩
  rw [if_neg (by simpa using c6), if_neg c6]
  have f := lstretch_ok in_figs hl i
  rw [h, tw_cons] at f
  rw [f, Res.bind_ok]
  by_cases c7 : isD c = true
  · rw [if_pos c7, if_pos c7, if_pos (by simp)]
    exact ⟨_, rfl, fun _ => rfl, fun z => by omega⟩
  rw [if_neg c7, if_neg c7, if_neg (by simp), lets_ok, Res.bind_ok, Res.bind_ok, Res.bind_ok, Res.bind_ok]
  have f := lstretch_ok in_lets hl i
  rw [h, tw_cons] at f
  by_cases c8 : isL c = true
  · rw [if_pos c8] at f
    rw [if_pos c8]
    exact ⟨_, f, fun _ => rfl, fun z => by omega⟩
  · rw [if_neg c8] at f
    rw [if_neg c8]
    exact ⟨_, f, fun z => (Nat.lt_irrefl _ z).elim, fun _ => by decide⟩
/-! divided -/
noncomputable def dF (l : List Nat) : Int → Int × List Str → Res (Sum (Int × List Str) (Str × PyData)) := (fun (a273 : Int) (b274 : (Int × (List Str))) => if (decide ((0 : Int) < b274.1)) then ((let skip_277 := (b274.1 - (1 : Int))
  Res.ok (Sum.inl (skip_277, b274.2)))) else (((idxS (S l) a273).bind fun v278 => Res.ok (!decide (v278 = (PySem.Str.ofString " ")))).bind fun v283 => if v283 then ((m_law_size (Ar.mk (S l) (Ar.mk a273 ()))).bind fun size_279 => if (decide (size_279 < (1 : Int))) then ((Res.ok ((PySem.Str.ofString "unread"), (toD (List.length b274.2 : Int)))).bind fun d => Res.ok (Sum.inr d)) else (((need (Str.length (S l) ≤ sizeLine) (Res.ok (cutS (S l) (some a273) (some (a273 + size_279))))).bind fun v280 => need (List.length b274.2 < sizeLine) (Res.ok (b274.2 ++ [v280]))).bind fun words_281 => (let skip_282 := (size_279 - (1 : Int))
  Res.ok (Sum.inl (skip_282, words_281))))) else (Res.ok (Sum.inl (b274.1, b274.2)))))
def rg (a n : Nat) : List Int := (List.range' a n).map fun i : Nat => (i : Int)
theorem rg_succ (a n : Nat) : rg a (n + 1) = (a : Int) :: rg (a + 1) n := by unfold rg; rw [List.range'_succ]; rfl
theorem irange_rg (n : Nat) : irange 0 (n : Int) = rg 0 n := by
  unfold irange rg
  rw [show ((n : Int) - 0).toNat = n by omega, List.range_eq_range']
  apply List.map_congr_left
  intro a _
  omega
theorem d_skip {l : List Nat} : ∀ (k a n : Nat) (acc : List Str), k ≤ n → foldM (dF l) (rg a n) ((k : Int), acc) = foldM (dF l) (rg (a + k) (n - k)) ((0 : Int), acc)
  | 0, a, n, acc, _ => rfl
  | k + 1, a, n, acc, h => by
    cases n with
    | zero => omega
    | succ n =>
      rw [rg_succ]
      show ((dF l (a : Int) (((k + 1 : Nat) : Int), acc)).bind _) = _
      have e : dF l (a : Int) (((k + 1 : Nat) : Int), acc) = .ok (.inl ((k : Int), acc)) := by
        unfold dF
        dsimp only
        rw [if_pos (by simp), show ((k + 1 : Nat) : Int) - 1 = (k : Int) by omega]
      rw [e, Res.bind_ok]
      refine (d_skip k (a + 1) n acc (by omega)).trans ?_
      rw [show a + 1 + k = a + (k + 1) by omega, show n + 1 - (k + 1) = n - k by omega]
def sayD (acc : List Str) (ws : List (List Nat)) (b : Bool) : Str × PyData := if b then (PySem.Str.ofString "words", toD (acc ++ ws.map S)) else (PySem.Str.ofString "unread", toD ((acc.length + ws.length : Nat) : Int))
theorem d_loop {l : List Nat} (hl : l.length ≤ 100000) {suf : List Nat} {ws : List (List Nat)} {b : Bool} (t : Tk suf ws b) : ∀ (i : Nat) (acc : List Str), i ≤ l.length → l.drop i = suf → acc.length + ws.length ≤ 100000 → goOn (foldM (dF l) (rg i (l.length - i)) ((0 : Int), acc)) (fun b276 => Res.ok ((PySem.Str.ofString "words"), toD b276.2)) = .ok (sayD acc ws b) := by
  have hs := sl_ge
  induction t with
  | nil =>
    intro i acc h1 h2 _
    have : i = l.length := by
      have := congrArg List.length h2
      rw [List.length_drop] at this
      simp at this; omega
    subst this
    rw [Nat.sub_self]
    show Res.ok (_, toD acc) = Res.ok (_, toD (acc ++ []))
    rw [List.append_nil]
  | @sp r ws b t ih =>
    intro i acc h1 h2 h4
    obtain ⟨hi, hc, hr⟩ := drop_at h2
    rw [show l.length - i = (l.length - (i + 1)) + 1 by omega, rg_succ]
    show goOn ((dF l (i : Int) ((0 : Int), acc)).bind _) _ = _
    have e : dF l (i : Int) ((0 : Int), acc) = .ok (.inl ((0 : Int), acc)) := by
      unfold dF
      dsimp only
      rw [if_neg (show ¬ (decide ((0 : Int) < 0) = true) by decide), o_sp, idxS_ok hc hl, Res.bind_ok, Res.bind_ok, if_neg (by simp)]
    rw [e, Res.bind_ok]
    exact ih (i + 1) acc (by omega) hr h4
  | @bad c r hc32 hz =>
    intro i acc h1 h2 h4
    obtain ⟨hi, hc, hr⟩ := drop_at h2
    obtain ⟨z, e1, e2, e3⟩ := size_ok hl h2
    rw [show l.length - i = (l.length - (i + 1)) + 1 by omega, rg_succ]
    show goOn ((dF l (i : Int) ((0 : Int), acc)).bind _) _ = _
    have e : dF l (i : Int) ((0 : Int), acc) = .ok (.inr (PySem.Str.ofString "unread", toD (List.length acc : Int))) := by
      unfold dF
      dsimp only
      rw [if_neg (show ¬ (decide ((0 : Int) < 0) = true) by decide), o_sp, idxS_ok hc hl, Res.bind_ok, Res.bind_ok, S_dec, if_pos (by simpa using hc32), e1, Res.bind_ok, if_pos (by simpa using e3 hz)]
      rfl
    rw [e]
    rfl
  | @word c r ws b hc32 hz t ih =>
    intro i acc h1 h2 h4
    obtain ⟨hi, hc, hr⟩ := drop_at h2
    obtain ⟨z, e1, e2, e3⟩ := size_ok hl h2
    have e2' := e2 hz
    subst e2'
    have hle := sz_le (c :: r)
    have hlen := congrArg List.length h2
    rw [List.length_drop] at hlen
    rw [List.length_cons] at h4
    rw [show l.length - i = (l.length - (i + 1)) + 1 by omega, rg_succ]
    show goOn ((dF l (i : Int) ((0 : Int), acc)).bind _) _ = _
    have e : dF l (i : Int) ((0 : Int), acc) = .ok (.inl (((sz (c :: r) - 1 : Nat) : Int), acc ++ [S ((c :: r).take (sz (c :: r)))])) := by
      unfold dF
      dsimp only
      rw [if_neg (show ¬ (decide ((0 : Int) < 0) = true) by decide), o_sp, idxS_ok hc hl, Res.bind_ok, Res.bind_ok, S_dec, if_pos (by simpa using hc32), e1, Res.bind_ok, if_neg (by simp; omega), need_ok (by rw [S_len]; omega), Res.bind_ok, need_ok (by omega), Res.bind_ok,
        show (i : Int) + ((sz (c :: r) : Nat) : Int) = ((i + sz (c :: r) : Nat) : Int) by omega, cutS_ok, h2, show i + sz (c :: r) - i = sz (c :: r) by omega, show ((sz (c :: r) : Nat) : Int) - 1 = ((sz (c :: r) - 1 : Nat) : Int) by omega]
    rw [e, Res.bind_ok]
    dsimp only
    rw [d_skip (sz (c :: r) - 1) (i + 1) _ _ (by omega), show i + 1 + (sz (c :: r) - 1) = i + sz (c :: r) by omega, show l.length - (i + 1) - (sz (c :: r) - 1) = l.length - (i + sz (c :: r)) by omega,
      ih (i + sz (c :: r)) _ (by omega) (by rw [← h2, List.drop_drop]) (by rw [List.length_append, List.length_singleton]; omega)]
    unfold sayD
    cases b with
    | true => simp
    | false =>
      show Res.ok (_, _) = Res.ok (_, _)
      rw [List.length_append, List.length_singleton, List.length_cons, show acc.length + 1 + ws.length = acc.length + (ws.length + 1) by omega]
theorem divided_ok {l : List Nat} (hl : l.length ≤ 100000) {ws : List (List Nat)} {b : Bool} (t : Tk l ws b) : m_law_divided ⟨S l, ()⟩ = .ok (sayD [] ws b) := by
  have hs := sl_ge
  have htl := tk_len t
  unfold m_law_divided
  rw [need_ok (by simp), Res.bind_ok]
  dsimp only
  rw [need_ok (by rw [S_len]; omega), Res.bind_ok, need_ok (by rw [S_len]; unfold Rg62; omega), Res.bind_ok, S_len, irange_rg]
  have := d_loop hl t 0 [] (Nat.zero_le _) rfl (by simp; omega)
  exact this
end K28

set_option Elab.async false
set_option linter.all false
set_option maxRecDepth 100000
/-! M28e: k28: draws, words. -/
namespace K28
open PySem PySem.Spec PyProof.Rows L2 NF
open NF.Data (toD)
abbrev Pl (p : P3) : Prop := p.cs.length ≤ 1000
theorem need_nil {α : Type} : (need (List.length ([] : List α) ≤ sizeLine) (Res.ok ([] : List α))) = .ok [] := need_ok (by simp)
theorem eqv_ints (xs ys : List Int) : PyData.eqvAll (xs.map toD) (ys.map toD) = decide (xs = ys) := by
  induction xs generalizing ys with
  | nil => cases ys <;> simp [PyData.eqvAll]
  | cons x xs ih =>
    cases ys with
    | nil => simp [PyData.eqvAll]
    | cons y ys =>
      show (PyData.eqv (.int x) (.int y) && PyData.eqvAll (xs.map toD) (ys.map toD)) = _
      rw [ih]
      show ((x == y) && _) = _
      by_cases h : x = y <;> by_cases h2 : xs = ys <;> simp [h, h2]
theorem lay_ints : ∀ xs : List Int, PyData.canLayAll0 (xs.map toD) = true
  | [] => rfl
  | x :: r => by show (PyData.canLay0 (.int x) && PyData.canLayAll0 (r.map toD)) = true; rw [lay_ints r]; rfl
theorem dep_ints : ∀ xs : List Int, PyData.depthAll (xs.map toD) = 0
  | [] => rfl
  | x :: r => by show max (PyData.depth (.int x)) (PyData.depthAll (r.map toD)) = 0; rw [dep_ints r]; rfl
theorem shp_ints (xs : List Int) : shp xs = true := by
  show (PyData.canLayAll0 (xs.map toD) && decide (PyData.depthAll (xs.map toD) + 1 ≤ 64)) = true
  rw [lay_ints, dep_ints]; rfl
theorem idx_in {α : Type} {xs : List α} {d : Int} (h0 : 0 ≤ d) (h1 : d < xs.length) : ∃ a, idx xs d = .ok a ∧ a ∈ xs := by
  obtain ⟨k, rfl⟩ := Int.eq_ofNat_of_zero_le h0
  have hk : k < xs.length := by omega
  refine ⟨xs[k], ?_, List.getElem_mem hk⟩
  unfold idx
  rw [atI_nat (List.getElem?_eq_getElem hk)]
theorem digit_ok (p : P3) (hp : Pl p) {m : Int} (h0 : 0 < m) (h1 : m < 2 ^ 40) : ∃ d p', m_law_digit p ⟨m, ()⟩ = .ok (d, p') ∧ 0 ≤ d ∧ d < m ∧ Pl p' := by
  have hw : ∀ x, CDivW x m := fun x => wide_div (b := 40) h0 (by omega) (by decide) (by decide)
  have fin : ∀ q : P3, Pl q → ∃ d p', ((need (0 < m) (Res.ok (q.a % m))).bind fun digit_58 => (need (CDivW q.a m) (Res.ok (q.a / m))).bind fun v59 => Res.ok (digit_58, ({ q with a := v59 } : P3))) = .ok (d, p') ∧ 0 ≤ d ∧ d < m ∧ Pl p' := fun q hq => by
    rw [need_ok h0, Res.bind_ok, need_ok (hw _), Res.bind_ok]
    exact ⟨_, _, rfl, Int.emod_nonneg _ (by omega), Int.emod_lt_of_pos _ h0, hq⟩
  unfold m_law_digit
  dsimp only
  by_cases ha : p.a = 0
  · rw [if_pos (by simpa using ha), need_nil, Res.bind_ok, need_ok ⟨shp_ints _, shp_ints _⟩, Res.bind_ok]
    by_cases hc : p.cs = []
    · have e : eqD p.cs ([] : List Int) = true := by
        show PyData.eqvAll (p.cs.map toD) (([] : List Int).map toD) = true
        rw [eqv_ints]; simpa using hc
      rw [e, if_neg (by decide), Res.bind_ok]
      exact fin p hp
    · have e : eqD p.cs ([] : List Int) = false := by
        show PyData.eqvAll (p.cs.map toD) (([] : List Int).map toD) = false
        rw [eqv_ints]; simpa using hc
      have hl : 0 < p.cs.length := List.length_pos_iff.mpr hc
      have hl2 : p.cs.length ≤ 1000 := hp
      obtain ⟨v, ev, _⟩ := idx_in (xs := p.cs) (d := p.b % (p.cs.length : Int)) (Int.emod_nonneg _ (by omega)) (Int.emod_lt_of_pos _ (by omega))
      rw [e, if_pos (by decide), need_ok (wide_div (b := 40) (by omega) (by omega) (by decide) (by decide)), Res.bind_ok, need_ok (by omega), Res.bind_ok, ev, Res.bind_ok, Res.bind_ok, Res.bind_ok]
      exact fin _ hp
  · rw [if_neg (by simpa using ha), Res.bind_ok, if_neg (by decide), Res.bind_ok]
    exact fin p hp
/-! texts drawn -/
theorem fold_join (r : List Nat) : ∀ a : Array Nat, (r.map fun c => S [c]).foldl (fun acc p => acc ++ (PySem.Str.ofString "").cps ++ p.cps) a = (a.toList ++ r).toArray := by
  have e0 : (PySem.Str.ofString "").cps = #[] := by decide +kernel
  rw [e0]
  induction r with
  | nil => intro a; simp
  | cons c r ih =>
    intro a
    rw [List.map_cons, List.foldl_cons, ih]
    simp
theorem join_ones (zs : List Nat) : Txt.join (PySem.Str.ofString "") (zs.map fun c => S [c]) = S zs := by
  cases zs with
  | nil => rfl
  | cons c r =>
    show (⟨(r.map fun c => S [c]).foldl (fun acc p => acc ++ (PySem.Str.ofString "").cps ++ p.cps) (#[c] : Array Nat)⟩ : Str) = _
    rw [fold_join]
    rfl
theorem sum_ones : ∀ zs : List Nat, ((zs.map fun c => S [c]).map fun z => Str.length z).sum = zs.length
  | [] => rfl
  | c :: r => by
    show 1 + ((r.map fun c => S [c]).map fun z => Str.length z).sum = r.length + 1
    rw [sum_ones r]; omega
noncomputable def eF (ls : List Nat) (many : Int) : Int → P3 → Res (Str × P3) := fun (a66 : Int) (xs69 : P3) => Res.quiet ((m_law_digit xs69 (Ar.mk many ())).bind fun u71 => (idxS (S ls) u71.1).bind fun v72 => Res.ok (v72, u71.2))
def eP : Int → P3 → Res (Bool × P3) := fun (a66 : Int) (xs69 : P3) => Res.quiet (Res.ok (true, xs69))
theorem e_loop {ls : List Nat} (h0 : 0 < ls.length) (h1 : ls.length ≤ 1000) : ∀ (as : List Int) (p : P3), Pl p → ∃ (zs : List Nat) (p' : P3), filtE eP (eF ls (ls.length : Int)) as p = .ok (zs.map (fun c => S [c]), p') ∧ zs.length = as.length ∧ (∀ c ∈ zs, c ∈ ls) ∧ Pl p'
  | [], p, hp => ⟨[], p, rfl, rfl, fun _ h => (List.not_mem_nil h).elim, hp⟩
  | a :: as, p, hp => by
    obtain ⟨d, p1, e1, d0, d1, hp1⟩ := digit_ok p hp (m := (ls.length : Int)) (by omega) (by omega)
    obtain ⟨zs, p2, e2, hl, hm, hp2⟩ := e_loop h0 h1 as p1 hp1
    obtain ⟨k, rfl⟩ := Int.eq_ofNat_of_zero_le d0
    have hk : k < ls.length := by omega
    refine ⟨ls[k] :: zs, p2, ?_, by rw [List.length_cons, hl]; rfl, fun c hc => ?_, hp2⟩
    · have e : eF ls (ls.length : Int) a p = .ok (S [ls[k]], p1) := by
        unfold eF
        rw [e1, Res.bind_ok]
        dsimp only
        rw [idxS_ok (List.getElem?_eq_getElem hk) (by omega), Res.bind_ok]
        rfl
      show ((eF ls (ls.length : Int) a p).bind _) = _
      rw [e, Res.bind_ok]
      dsimp only
      rw [e2, Res.bind_ok]
      rfl
    · rcases List.mem_cons.mp hc with z | z
      · rw [z]; exact List.getElem_mem hk
      · exact hm c z
theorem drawn_ok (p : P3) (hp : Pl p) {ls : List Nat} (h0 : 0 < ls.length) (h1 : ls.length ≤ 1000) (n : Nat) (hn : n ≤ 1000) : ∃ zs p', m_law_drawn p ⟨S ls, (n : Int), ()⟩ = .ok (S zs, p') ∧ zs.length = n ∧ (∀ c ∈ zs, c ∈ ls) ∧ Pl p' := by
  have hs := sl_ge
  obtain ⟨zs, p', e, hl, hm, hp'⟩ := e_loop h0 h1 (irange 0 (n : Int)) p hp
  rw [irange_len] at hl
  have hl' : zs.length = n := by omega
  refine ⟨zs, p', ?_, hl', hm, hp'⟩
  unfold m_law_drawn
  dsimp only
  rw [need_ok (by rw [S_len]; omega), Res.bind_ok, need_ok (by unfold Rg62; omega), Res.bind_ok, Res.bind_ok, need_ok (by rw [irange_len]; omega), S_len]
  show ((filtE eP (eF ls (ls.length : Int)) (irange 0 (n : Int)) p).bind _) = _
  rw [e, Res.bind_ok]
  dsimp only
  have e0 : (PySem.Str.ofString "").length = 0 := by decide +kernel
  rw [need_ok (by rw [sum_ones, e0]; omega), join_ones]
/-! words -/
abbrev Wk (w : List Nat) : Prop := Wd w ∧ w.length ≤ 20 ∧ ∀ c ∈ w, c < 128
def keys : List Str := ["from", "join", "on", "where", "and", "or", "not", "in", "group", "tell", "count", "distinct", "least", "greatest", "sum", "order", "down", "first", "at", "inn", "fromm", "price", "oslo", "aa", "zzzzzzzz", "always", "value"].map PySem.Str.ofString
theorem keys_ok : m_law_keys () = .ok keys := by
  have hs := sl_ge
  unfold m_law_keys
  rw [need_ok (by simp; omega), Res.bind_ok, need_ok (by simp; omega), Res.bind_ok, need_ok (by simp; omega), Res.bind_ok, need_ok (by simp; omega), Res.bind_ok, need_ok (by simp; omega)]
  rfl
theorem keys_wd : ∀ s ∈ keys, s.cps.toList ≠ [] ∧ s.cps.toList.all isL = true ∧ s.cps.toList.length ≤ 20 := by decide +kernel
def sgn : List Str := ["=", "<>", "<", "<=", ">", ">=", "(", ")", ","].map PySem.Str.ofString
theorem sgn_ok : m_law_signs () = .ok sgn := by
  have hs := sl_ge
  unfold m_law_signs
  rw [need_ok (by simp; omega)]
  rfl
theorem sgn_wd : ∀ s ∈ sgn, s.cps.toList ∈ [[61], [60, 62], [60], [60, 61], [62], [62, 61], [40], [41], [44]] ∧ s.cps.toList.all (fun c => decide (c < 128)) = true ∧ s.cps.toList.length ≤ 20 := by decide +kernel
def mid : List Nat := (PySem.Str.ofString " 0123456789(),<>=-").cps.toList
theorem o_mid : PySem.Str.ofString " 0123456789(),<>=-" = S mid := (S_eta _).symm
def strg : List Nat := (PySem.Str.ofString "!\"#$&*+./:;?\x40[\\]^_`{|}~ABCDEFGHIJKLMNOPQRSTUVWXYZ").cps.toList
theorem strange_ok : m_law_strange () = .ok (S strg) := congrArg Res.ok (S_eta _).symm
def q7 : List Nat := lets ++ mid ++ strg
theorem q7_ok : (∀ c ∈ q7, c ≠ 39 ∧ c < 128) ∧ 0 < q7.length ∧ q7.length ≤ 1000 := by decide +kernel
theorem lets_128 : ∀ c ∈ lets, c < 128 := by decide +kernel
theorem figs_128 : ∀ c ∈ figs, c < 128 := by decide +kernel
theorem lets_len : lets.length = 26 := by decide +kernel
theorem figs_len : figs.length = 10 := by decide +kernel
theorem ne_of_len {w : List Nat} {n : Nat} (h : w.length = n) (hn : 0 < n) : w ≠ [] := fun z => by rw [z] at h; simp at h; omega
theorem word_ok (p : P3) (hp : Pl p) : ∃ w p', m_law_word p () = .ok (S w, p') ∧ Wk w ∧ Pl p' := by
  have hs := sl_ge
  obtain ⟨d, p1, e1, d0, d1, hp1⟩ := digit_ok p hp (m := 8) (by decide) (by decide)
  unfold m_law_word
  rw [e1, Res.bind_ok]
  dsimp only
  by_cases k1 : d < 2
  · rw [if_pos (by simpa using k1), keys_ok, Res.bind_ok]
    obtain ⟨i, p2, e2, i0, i1, hp2⟩ := digit_ok p1 hp1 (m := (keys.length : Int)) (by decide) (by decide)
    obtain ⟨s, es, hm⟩ := idx_in i0 i1
    have h := keys_wd s hm
    rw [e2, Res.bind_ok, es, Res.bind_ok]
    have ha : ∀ c ∈ s.cps.toList, isL c = true := List.all_eq_true.mp h.2.1
    exact ⟨s.cps.toList, p2, by rw [S_eta], ⟨.let h.1 ha, h.2.2, fun c hc => by have := isL_iff.mp (ha c hc); omega⟩, hp2⟩
  rw [if_neg (by simpa using k1)]
  have t12 : ∀ (ls : List Nat) (q : P3), Pl q → 0 < ls.length → ls.length ≤ 1000 → ∃ zs p', (m_law_digit q (Ar.mk (12 : Int) ())).bind (fun u81 => m_law_drawn u81.2 ⟨S ls, (1 : Int) + u81.1, ()⟩) = .ok (S zs, p') ∧ 0 < zs.length ∧ zs.length ≤ 12 ∧ (∀ c ∈ zs, c ∈ ls) ∧ Pl p' := fun ls q hq l0 l1 => by
    obtain ⟨i, p2, e2, i0, i1, hp2⟩ := digit_ok q hq (m := 12) (by decide) (by decide)
    obtain ⟨k, rfl⟩ := Int.eq_ofNat_of_zero_le i0
    obtain ⟨zs, p3, e3, hl, hm, hp3⟩ := drawn_ok p2 hp2 l0 l1 (1 + k) (by omega)
    refine ⟨zs, p3, ?_, by omega, by omega, hm, hp3⟩
    rw [e2, Res.bind_ok]
    dsimp only
    rw [show (1 : Int) + (k : Int) = ((1 + k : Nat) : Int) by omega]
    exact e3
  by_cases k2 : d = 2
  · obtain ⟨zs, p', e, l0, l1, hm, hp'⟩ := t12 lets p1 hp1 (by rw [lets_len]; omega) (by rw [lets_len]; omega)
    rw [if_pos (by simpa using k2), lets_ok, Res.bind_ok]
    refine ⟨zs, p', ?_, ⟨.let (ne_of_len rfl l0) fun c hc => ?_, by omega, fun c hc => lets_128 c (hm c hc)⟩, hp'⟩
    · rw [← e]
      simp only [Res.bind_assoc, Res.bind_ok]
    · have := hm c hc
      have q := in_lets c
      rw [decide_eq_true this] at q
      exact q.symm
  rw [if_neg (by simpa using k2)]
  have wd : ∀ {zs : List Nat}, (∀ c ∈ zs, c ∈ figs) → ∀ c ∈ zs, isD c = true := fun hm c hc => by
    have q := in_figs c
    rw [decide_eq_true (hm c hc)] at q
    exact q.symm
  by_cases k3 : d = 3
  · obtain ⟨zs, p', e, l0, l1, hm, hp'⟩ := t12 figs p1 hp1 (by rw [figs_len]; omega) (by rw [figs_len]; omega)
    rw [if_pos (by simpa using k3), o_figs]
    refine ⟨zs, p', ?_, ⟨.dig (ne_of_len rfl l0) (wd hm), by omega, fun c hc => figs_128 c (hm c hc)⟩, hp'⟩
    rw [← e]
    simp only [Res.bind_assoc, Res.bind_ok]
  rw [if_neg (by simpa using k3)]
  by_cases k4 : d = 4
  · obtain ⟨zs, p', e, l0, l1, hm, hp'⟩ := t12 figs p1 hp1 (by rw [figs_len]; omega) (by rw [figs_len]; omega)
    rw [if_pos (by simpa using k4), o_figs, o_mi]
    refine ⟨45 :: zs, p', ?_, ⟨.neg (ne_of_len rfl l0) (wd hm), by simp; omega, fun c hc => ?_⟩, hp'⟩
    · have e' : ((((m_law_digit p1 (Ar.mk (12 : Int) ())).bind fun u98 => Res.ok (((1 : Int) + u98.1), u98.2)).bind fun u100 => Res.ok (Ar.mk (S figs) (Ar.mk u100.1 ()), u100.2)).bind fun u101 => m_law_drawn u101.2 u101.1) = .ok (S zs, p') := by
        rw [← e]
        simp only [Res.bind_assoc, Res.bind_ok]
      rw [e', Res.bind_ok]
      dsimp only
      rw [need_ok (by rw [S_len, S_len]; show 1 + zs.length ≤ sizeLine; omega), Res.bind_ok, S_app]
      rfl
    · rcases List.mem_cons.mp hc with z | z
      · rw [z]; decide
      · exact figs_128 c (hm c z)
  rw [if_neg (by simpa using k4)]
  by_cases k7 : d < 7
  · rw [if_pos (by simpa using k7), sgn_ok, Res.bind_ok, Res.bind_ok]
    obtain ⟨i, p2, e2, i0, i1, hp2⟩ := digit_ok p1 hp1 (m := 9) (by decide) (by decide)
    obtain ⟨s, es, hm⟩ := idx_in (xs := sgn) i0 i1
    have h := sgn_wd s hm
    dsimp only
    rw [e2, Res.bind_ok]
    dsimp only
    rw [es, Res.bind_ok]
    have ha := List.all_eq_true.mp h.2.1
    exact ⟨s.cps.toList, p2, by rw [S_eta], ⟨.sg h.1, h.2.2, fun c hc => by simpa using ha c hc⟩, hp2⟩
  rw [if_neg (by simpa using k7), lets_ok, strange_ok, o_mid, o_q]
  have hl : lets.length + mid.length + strg.length ≤ 1000 := by decide +kernel
  rw [Res.bind_ok, need_ok (by rw [S_len, S_len]; omega), Res.bind_ok, Res.bind_ok, S_app, need_ok (by rw [S_len, S_len, List.length_append]; omega), Res.bind_ok, S_app, need_ok (by simp; omega), Res.bind_ok, Res.bind_ok]
  obtain ⟨i, p2, e2, i0, i1, hp2⟩ := digit_ok p1 hp1 (m := 9) (by decide) (by decide)
  obtain ⟨n, en, hn⟩ := idx_in (xs := ((3 : Int) :: ((0 : Int) :: ((1 : Int) :: ((2 : Int) :: ((4 : Int) :: ((5 : Int) :: ((6 : Int) :: ((7 : Int) :: ((8 : Int) :: [])))))))))) i0 i1
  have hn' : 0 ≤ n ∧ n ≤ 8 := by
    simp only [List.mem_cons, List.not_mem_nil, or_false] at hn
    omega
  obtain ⟨k, rfl⟩ := Int.eq_ofNat_of_zero_le hn'.1
  obtain ⟨zs, p3, e3, hl3, hm, hp3⟩ := drawn_ok p2 hp2 q7_ok.2.1 q7_ok.2.2 k (by omega)
  dsimp only
  rw [e2, Res.bind_ok]
  dsimp only
  rw [en, Res.bind_ok, Res.bind_ok]
  dsimp only
  have e3' : m_law_drawn p2 ⟨S (lets ++ mid ++ strg), (k : Int), ()⟩ = .ok (S zs, p3) := e3
  rw [e3', Res.bind_ok]
  dsimp only
  rw [need_ok (by rw [S_len, S_len]; show 1 + zs.length ≤ sizeLine; omega), Res.bind_ok, S_app, Res.bind_ok]
  dsimp only
  rw [need_ok (by rw [S_len, S_len, List.length_append]; show 1 + zs.length + 1 ≤ sizeLine; omega), Res.bind_ok, S_app]
  refine ⟨39 :: (zs ++ [39]), p3, rfl, ⟨.q fun z => (q7_ok.1 39 (hm 39 z)).1 rfl, by simp; omega, fun c hc => ?_⟩, hp3⟩
  rcases List.mem_cons.mp hc with z | z
  · rw [z]; decide
  · rcases List.mem_append.mp z with z | z
    · exact (q7_ok.1 c (hm c z)).2
    · rw [List.mem_singleton.mp z]; decide
end K28

set_option Elab.async false
set_option linter.all false
set_option maxRecDepth 100000
/-! M28f: k28: joined texts, spoilt texts, raw texts. -/
namespace K28
open PySem PySem.Spec PyProof.Rows L2 NF
open NF.Data (toD)
theorem ixN_last (n : Nat) : ixN (n + 1) (-1) = some n := by
  unfold ixN
  rw [if_neg (by decide), if_pos (by omega)]
  congr 1
  omega
theorem idxS_last {l : List Nat} {z : Nat} (hl : l.length ≤ 1000) : idxS (S (l ++ [z])) (-1) = .ok (S [z]) := by
  have hs := sl_ge
  have e : atI (l ++ [z]) (-1) = some z := by
    unfold atI
    rw [List.length_append, List.length_singleton, ixN_last]
    show (l ++ [z])[l.length]? = some z
    rw [List.getElem?_append_right (Nat.le_refl _), Nat.sub_self]
    rfl
  unfold idxS
  rw [show atI (S (l ++ [z])).cps.toList (-1) = some z from e]
  exact need_ok (by rw [S_len, List.length_append, List.length_singleton]; omega)
theorem o_nil : PySem.Str.ofString "" = S [] := by decide +kernel
theorem o_eqgt : PySem.Str.ofString "=>" = S [61, 62] := by decide +kernel
theorem one_ok {last r : List Nat} {c : Nat} (h1 : last.length ≤ 1000) (h2 : (c :: r).length ≤ 1000) : m_law_one ⟨S last, S (c :: r), ()⟩ = .ok (glue last c) := by
  unfold m_law_one
  rw [lets_ok, Res.bind_ok]
  dsimp only
  rw [o_nil, o_figs, o_eqgt, o_lt, o_gt, o_eq]
  have i0 : idxS (S (c :: r)) (0 : Int) = .ok (S [c]) := idxS_ok (j := 0) rfl (by omega)
  rcases List.eq_nil_or_concat last with h | ⟨l, z, h⟩
  · subst h
    rw [if_pos (by simp), glue_nil]
  · rw [List.concat_eq_append] at h
    subst h
    rw [List.length_append, List.length_singleton] at h1
    rw [S_dec, if_neg (by simp), idxS_last (by omega), i0]
    simp only [Res.bind_ok, inS_ok, in_lets, in_figs, S_dec]
    unfold glue
    rw [List.getLast?_concat]
    dsimp only
    generalize decide (l ++ [z] = [60]) = b1
    generalize decide (l ++ [z] = [62]) = b2
    have e12 : decide (c ∈ [61, 62]) = (decide (c = 61) || decide (c = 62)) := by simp
    have e1 : decide ([c] = [61]) = decide (c = 61) := by simp
    rw [e12, e1]
    generalize decide (c = 61) = c1
    generalize decide (c = 62) = c2
    generalize isL z = a1
    generalize isL c = a2
    generalize isD z = a3
    generalize isD c = a4
    revert b1 b2 c1 c2 a1 a2 a3 a4
    intro b1 b2 c1 c2 a1 a2 a3 a4
    cases a1 <;> cases a2 <;> cases a3 <;> cases a4 <;> cases b1 <;> cases b2 <;> cases c1 <;> cases c2 <;> rfl
/-! join -/
noncomputable def jF : Str → Str × Str × P3 → Res (Str × Str × P3) := (fun (a143 : Str) (b144 : (Str × Str × P3)) => (m_law_digit b144.2.2 (Ar.mk (3 : Int) ())).bind fun gap_147 => ((if (decide (gap_147.1 = (0 : Int))) then (m_law_one (Ar.mk b144.2.1 (Ar.mk a143 ()))) else Res.ok false).bind fun v151 => if v151 then ((let gap_150 := (1 : Int)
  Res.ok gap_150)) else (Res.ok gap_147.1)).bind fun b149 => (((need (CMulS (PySem.Str.ofString " ") b149) (Res.ok (Txt.mul (PySem.Str.ofString " ") b149))).bind fun v152 => need (Str.length b144.1 + Str.length v152 ≤ sizeLine) (Res.ok (b144.1 ++ v152))).bind fun v153 => need (Str.length v153 + Str.length a143 ≤ sizeLine) (Res.ok (v153 ++ a143))).bind fun text_154 => (let last_155 := a143
  Res.ok (text_154, last_155, gap_147.2)))
theorem mul_sp {g : Nat} (h : g ≤ 2) : Txt.mul (PySem.Str.ofString " ") (g : Int) = S (List.replicate g 32) := by
  have : g = 0 ∨ g = 1 ∨ g = 2 := by omega
  rcases this with h | h | h <;> subst h <;> decide +kernel
theorem cmul_sp {g : Nat} (h : g ≤ 2) : CMulS (PySem.Str.ofString " ") (g : Int) := by
  have e : (PySem.Str.ofString " ").length = 1 := by decide +kernel
  unfold CMulS
  rw [e]
  omega
theorem j_step {text last w : List Nat} {p : P3} (hw : Wk w) (h1 : text.length ≤ 50000) (h2 : last.length ≤ 1000) (hp : Pl p) : ∃ (g : Nat) (p' : P3), jF (S w) (S text, S last, p) = .ok (S (text ++ (List.replicate g 32 ++ w)), S w, p') ∧ g ≤ 2 ∧ (g = 0 → ∀ c, w.head? = some c → glue last c = false) ∧ Pl p' := by
  have hs := sl_ge
  obtain ⟨d, p1, e1, d0, d1, hp1⟩ := digit_ok p hp (m := 3) (by decide) (by decide)
  obtain ⟨k, rfl⟩ := Int.eq_ofNat_of_zero_le d0
  obtain ⟨c, r, rfl, hc⟩ := wd_cons hw.1
  have hlen := hw.2.1
  have fin : ∀ g : Nat, g ≤ 2 → (((need (CMulS (PySem.Str.ofString " ") (g : Int)) (Res.ok (Txt.mul (PySem.Str.ofString " ") (g : Int)))).bind fun v152 => need (Str.length (S text) + Str.length v152 ≤ sizeLine) (Res.ok (S text ++ v152))).bind fun v153 => need (Str.length v153 + Str.length (S (c :: r)) ≤ sizeLine) (Res.ok (v153 ++ S (c :: r)))) = .ok (S (text ++ (List.replicate g 32 ++ (c :: r)))) := fun g hg => by
    rw [need_ok (cmul_sp hg), mul_sp hg, Res.bind_ok, need_ok (by rw [S_len, S_len, List.length_replicate]; omega), Res.bind_ok, S_app, need_ok (by rw [S_len, S_len, List.length_append, List.length_replicate]; omega), S_app, List.append_assoc]
  unfold jF
  dsimp only
  rw [e1, Res.bind_ok]
  dsimp only
  by_cases h0 : k = 0
  · subst h0
    rw [if_pos (by simp), one_ok h2 (by omega), Res.bind_ok]
    by_cases hg : glue last c = true
    · rw [if_pos hg, Res.bind_ok]
      have := fin 1 (by decide)
      refine ⟨1, p1, ?_, by decide, fun z => by omega, hp1⟩
      rw [show ((1 : Int)) = ((1 : Nat) : Int) by rfl, this, Res.bind_ok]
    · rw [if_neg hg, Res.bind_ok]
      refine ⟨0, p1, ?_, by decide, fun _ a ha => ?_, hp1⟩
      · have := fin 0 (by decide)
        rw [this, Res.bind_ok]
      · have : a = c := by simpa using ha.symm
        rw [this]; simpa using hg
  · rw [if_neg (by simpa using h0), Res.bind_ok, if_neg (by decide), Res.bind_ok]
    refine ⟨k, p1, ?_, by omega, fun z => (h0 z).elim, hp1⟩
    rw [fin k (by omega), Res.bind_ok]
theorem j_loop : ∀ (ws : List (List Nat)) (text last : List Nat) (p : P3), (∀ w ∈ ws, Wk w) → text.length + 22 * ws.length ≤ 50000 → last.length ≤ 1000 → Pl p → ∃ (ps : List (Nat × List Nat)) (p' : P3), foldR jF (ws.map S) (S text, S last, p) = .ok (S (text ++ joinL ps), S (lastw last ps), p') ∧ ps.map (·.2) = ws ∧ Ch last ps ∧ (∀ q ∈ ps, q.1 ≤ 2) ∧ Pl p'
  | [], text, last, p, _, _, _, hp => ⟨[], p, by show Res.ok _ = Res.ok _; simp [joinL, lastw], rfl, trivial, fun _ h => (List.not_mem_nil h).elim, hp⟩
  | w :: ws, text, last, p, hw, hl, h2, hp => by
    rw [List.length_cons] at hl
    have w1 := hw w List.mem_cons_self
    obtain ⟨g, p1, e1, hg, hch, hp1⟩ := j_step (text := text) (last := last) w1 (by omega) h2 hp
    have wl := w1.2.1
    obtain ⟨ps, p2, e2, hm, hc, hq, hp2⟩ := j_loop ws (text ++ (List.replicate g 32 ++ w)) w p1 (fun x hx => hw x (List.mem_cons_of_mem _ hx)) (by rw [List.length_append, List.length_append, List.length_replicate]; omega) (by omega) hp1
    refine ⟨(g, w) :: ps, p2, ?_, ?_, ⟨hch, hc⟩, fun q hq' => ?_, hp2⟩
    · show ((jF (S w) (S text, S last, p)).bind _) = _
      rw [e1, Res.bind_ok, e2]
      show Res.ok (S (text ++ (List.replicate g 32 ++ w) ++ joinL ps), _, _) = Res.ok (S (text ++ (List.replicate g 32 ++ (w ++ joinL ps))), _, _)
      simp only [List.append_assoc]
      rfl
    · rw [List.map_cons, hm]
    · rcases List.mem_cons.mp hq' with z | z
      · rw [z]; exact hg
      · exact hq q z
theorem join_len : ∀ (ps : List (Nat × List Nat)), (∀ q ∈ ps, q.1 ≤ 2) → (∀ w ∈ ps.map (·.2), w.length ≤ 20) → (joinL ps).length ≤ 22 * ps.length
  | [], _, _ => Nat.le_refl _
  | (g, w) :: ps, h1, h2 => by
    have := join_len ps (fun q hq => h1 q (List.mem_cons_of_mem _ hq)) (fun w hw => h2 w (by rw [List.map_cons]; exact List.mem_cons_of_mem _ hw))
    have a : g ≤ 2 := h1 (g, w) List.mem_cons_self
    have b : w.length ≤ 20 := h2 w (by rw [List.map_cons]; exact List.mem_cons_self)
    show (List.replicate g 32 ++ (w ++ joinL ps)).length ≤ _
    rw [List.length_append, List.length_append, List.length_replicate, List.length_cons]
    omega
theorem join_mem : ∀ (ps : List (Nat × List Nat)) (c : Nat), c ∈ joinL ps → c = 32 ∨ ∃ w ∈ ps.map (·.2), c ∈ w
  | [], c, h => (List.not_mem_nil h).elim
  | (g, w) :: ps, c, h => by
    have h' : c ∈ List.replicate g 32 ++ (w ++ joinL ps) := h
    rcases List.mem_append.mp h' with z | z
    · exact .inl (List.eq_of_mem_replicate z)
    · rcases List.mem_append.mp z with z | z
      · exact .inr ⟨w, by rw [List.map_cons]; exact List.mem_cons_self, z⟩
      · rcases join_mem ps c z with q | ⟨v, hv, hc⟩
        · exact .inl q
        · exact .inr ⟨v, by rw [List.map_cons]; exact List.mem_cons_of_mem _ hv, hc⟩
theorem join_ok (ws : List (List Nat)) (p : P3) (hw : ∀ w ∈ ws, Wk w) (hl : ws.length ≤ 100) (hp : Pl p) : ∃ (ps : List (Nat × List Nat)) (p' : P3), m_law_join p ⟨ws.map S, ()⟩ = .ok (S (joinL ps), p') ∧ ps.map (·.2) = ws ∧ Ch [] ps ∧ (joinL ps).length ≤ 2200 ∧ (∀ c ∈ joinL ps, c < 128) ∧ Pl p' := by
  obtain ⟨ps, p', e, hm, hc, hq, hp'⟩ := j_loop ws [] [] p hw (by simp; omega) (by simp) hp
  have hlen : ps.length = ws.length := by rw [← hm, List.length_map]
  have jl := join_len ps hq (by rw [hm]; exact fun w h => (hw w h).2.1)
  refine ⟨ps, p', ?_, hm, hc, by omega, fun c h => ?_, hp'⟩
  · unfold m_law_join
    dsimp only
    rw [o_nil]
    show ((foldR jF (ws.map S) (S [], S [], p)).bind _) = _
    rw [e, Res.bind_ok, List.nil_append]
  · rcases join_mem ps c h with z | ⟨w, h1, h2⟩
    · omega
    · rw [hm] at h1; exact (hw w h1).2.2 c h2
/-! spoilt -/
theorem cut_take {α : Type} (xs : List α) {i : Nat} (h : i ≤ xs.length) : cut xs none (some (i : Int)) = xs.take i := by
  unfold cut HT.sIx
  dsimp only
  rw [if_neg (by omega), Int.toNat_natCast, Nat.min_eq_left h]
  rfl
theorem cut_drop {α : Type} (xs : List α) {i : Nat} (h : i ≤ xs.length) : cut xs (some (i : Int)) none = xs.drop i := by
  unfold cut HT.sIx
  dsimp only
  rw [if_neg (by omega), Int.toNat_natCast, Nat.min_eq_left h, List.take_of_length_le (by rw [List.length_drop]; omega)]
def nq (w : List Nat) : Bool := !decide (39 ∈ w)
def fP : Str → Res Bool := (fun (a174 : Str) => Res.quiet ((inS (PySem.Str.ofString "'") a174).bind fun b => Res.ok (!b)))
def fI : Str → Res Str := (fun (a174 : Str) => Res.quiet (Res.ok a174))
theorem f_loop : ∀ ws : List (List Nat), filtR fP fI (ws.map S) = .ok ((ws.filter nq).map S)
  | [] => rfl
  | w :: ws => by
    have e : fP (S w) = .ok (nq w) := by unfold fP; rw [o_q, inS_ok]; rfl
    show ((fP (S w)).bind fun c => if c then (fI (S w)).bind fun y => (filtR fP fI (ws.map S)).bind fun ys => .ok (y :: ys) else filtR fP fI (ws.map S)) = _
    rw [e, Res.bind_ok, f_loop ws]
    cases h : nq w with
    | true => rw [if_pos rfl, List.filter_cons_of_pos h]; rfl
    | false => rw [if_neg (by decide), List.filter_cons_of_neg (by rw [h]; decide)]
theorem strg_ok : (∀ c ∈ strg, c ≠ 32 ∧ c ≠ 39 ∧ c ≠ 40 ∧ c ≠ 41 ∧ c ≠ 44 ∧ c ≠ 45 ∧ c ≠ 60 ∧ c ≠ 61 ∧ c ≠ 62 ∧ isL c = false ∧ isD c = false ∧ c < 128) ∧ 0 < strg.length ∧ strg.length ≤ 1000 := by decide +kernel
theorem spoilt_tk {ws : List (List Nat)} {at' : Nat} {ps : List (Nat × List Nat)} (hm : ps.map (·.2) = ws.take at') (hw : ∀ w ∈ ws, Wk w) (hc : Ch [] ps) (g c : Nat) (r : List Nat) (h32 : c ≠ 32) (hz : sz (c :: r) = 0) (hg : ∀ w, glue w c = false) :
    Tk (joinL ps ++ (List.replicate g 32 ++ c :: r)) (ws.take at') false := by
  have t : Tk (List.replicate g 32 ++ c :: r) [] false := tk_sps (.bad h32 hz) g
  have h := (join_tk ps [] _ [] false (fun p hp => (hw p.2 (List.mem_of_mem_take (by rw [← hm]; exact List.mem_map_of_mem hp))).1) hc (fun z hz' => by
    cases g with
    | zero =>
      have : z = c := by simpa using hz'.symm
      rw [this]; exact hg _
    | succ g =>
      have : z = 32 := by
        have h' : (32 :: (List.replicate g 32 ++ c :: r)).head? = some z := hz'
        simpa using h'.symm
      rw [this]; exact glue_sp _) t).1
  rw [hm, List.append_nil] at h
  exact h
end K28

set_option Elab.async false
set_option linter.all false
set_option maxRecDepth 100000
/-! M28g: k28: spoilt texts, raw texts; what is told. -/
namespace K28
open PySem PySem.Spec PyProof.Rows L2 NF
open NF.Data (toD)
theorem sz_strg {z : Nat} (h : z ∈ strg) (r : List Nat) : sz (z :: r) = 0 := by
  obtain ⟨a1, a2, a3, a4, a5, a6, a7, a8, a9, b1, b2, _⟩ := strg_ok.1 z h
  rw [sz_cons, if_neg (by omega), if_neg a2, if_neg a7, if_neg a9, if_neg a8, if_neg a6, b2, if_neg (by decide), b1, if_neg (by decide)]
theorem sz_q {r : List Nat} (h : 39 ∉ r) : sz (39 :: r) = 0 := by
  rw [sz_cons, if_neg (by decide), if_pos rfl, idq_none h]
theorem sz_mi {r : List Nat} (h : ∀ c, r.head? = some c → isD c = false) : sz (45 :: r) = 0 := by
  have : tw isD r = 0 := by
    cases r with
    | nil => rfl
    | cons c r => rw [tw_cons, h c rfl, if_neg (by decide)]
  rw [sz_cons, if_neg (by decide), if_neg (by decide), if_neg (by decide), if_neg (by decide), if_neg (by decide), if_pos rfl, this, if_neg (by decide)]
theorem front_ok (ws : List (List Nat)) (i : Nat) (p : P3) (hw : ∀ w ∈ ws, Wk w) (hl : ws.length ≤ 100) (hi : i ≤ ws.length) (hp : Pl p) : ∃ (ps : List (Nat × List Nat)) (g : Nat) (p' : P3),
    ((m_law_join p (Ar.mk (cut (ws.map S) none (some (i : Int))) ())).bind fun u164 => ((m_law_digit u164.2 (Ar.mk (2 : Int) ())).bind fun u162 => (need (CMulS (PySem.Str.ofString " ") u162.1) (Res.ok (Txt.mul (PySem.Str.ofString " ") u162.1))).bind fun v163 => Res.ok (v163, u162.2)).bind fun u165 => (need (Str.length u164.1 + Str.length u165.1 ≤ sizeLine) (Res.ok (u164.1 ++ u165.1))).bind fun v166 => Res.ok (v166, u165.2)) = .ok (S (joinL ps ++ List.replicate g 32), p') ∧
    ps.map (·.2) = ws.take i ∧ Ch [] ps ∧ g ≤ 2 ∧ (joinL ps).length ≤ 2200 ∧ (∀ c ∈ joinL ps, c < 128) ∧ Pl p' := by
  have hs := sl_ge
  obtain ⟨ps, p1, e1, hm, hc, jl, j128, hp1⟩ := join_ok (ws.take i) p (fun w h => hw w (List.mem_of_mem_take h)) (by rw [List.length_take]; omega) hp
  obtain ⟨d, p2, e2, d0, d1, hp2⟩ := digit_ok p1 hp1 (m := 2) (by decide) (by decide)
  obtain ⟨g, rfl⟩ := Int.eq_ofNat_of_zero_le d0
  refine ⟨ps, g, p2, ?_, hm, hc, by omega, jl, j128, hp2⟩
  rw [cut_take _ (by rw [List.length_map]; exact hi), ← List.map_take, e1, Res.bind_ok]
  dsimp only
  rw [e2, Res.bind_ok]
  dsimp only
  rw [need_ok (cmul_sp (by omega)), mul_sp (by omega), Res.bind_ok, Res.bind_ok]
  dsimp only
  rw [need_ok (by rw [S_len, S_len, List.length_replicate]; omega), Res.bind_ok, S_app]
theorem all_app {a b : List Nat} (ha : ∀ c ∈ a, c < 128) (hb : ∀ c ∈ b, c < 128) : ∀ c ∈ a ++ b, c < 128 := fun c h => (List.mem_append.mp h).elim (ha c) (hb c)
theorem all_rep (g : Nat) : ∀ c ∈ List.replicate g 32, c < 128 := fun c h => by rw [List.eq_of_mem_replicate h]; decide
theorem all_cons {c : Nat} {r : List Nat} (h : c < 128) (hr : ∀ c ∈ r, c < 128) : ∀ x ∈ c :: r, x < 128 := fun x hx => (List.mem_cons.mp hx).elim (fun z => by rw [z]; exact h) (hr x)
theorem spoilt_ok (ws : List (List Nat)) (i : Nat) (p : P3) (mode : Int) (hmode : 3 ≤ mode ∧ mode ≤ 5) (hw : ∀ w ∈ ws, Wk w) (hl : ws.length ≤ 100) (hi : i ≤ ws.length) (hp : Pl p) : ∃ (text : List Nat) (p' : P3), m_law_spoilt p ⟨ws.map S, (i : Int), mode, ()⟩ = .ok (S text, p') ∧ Tk text (ws.take i) false ∧ text.length ≤ 10000 ∧ (∀ c ∈ text, c < 128) := by
  have hs := sl_ge
  obtain ⟨ps, g, p1, e1, hm, hc, hg, jl, j128, hp1⟩ := front_ok ws i p hw hl hi hp
  have ed : cut (ws.map S) (some (i : Int)) none = (ws.drop i).map S := by rw [cut_drop _ (by rw [List.length_map]; exact hi), List.map_drop]
  have rl : (ws.drop i).length ≤ 100 := by rw [List.length_drop]; omega
  unfold m_law_spoilt
  dsimp only
  rw [e1, Res.bind_ok, ed]
  dsimp only
  by_cases m5 : mode = 5
  · subst m5
    obtain ⟨qs, p2, e2, qm, qc, ql, q128, hp2⟩ := join_ok ((ws.drop i).filter nq) p1 (fun w h => hw w (List.mem_of_mem_drop (List.mem_filter.mp h).1)) (Nat.le_trans (List.length_filter_le _ _) rl) hp1
    have q39 : 39 ∉ joinL qs := fun z => by
      rcases join_mem qs 39 z with h | ⟨w, h1, h2⟩
      · cases h
      · rw [qm] at h1
        have := (List.mem_filter.mp h1).2
        unfold nq at this
        rw [decide_eq_true h2] at this
        cases this
    rw [if_pos (show decide ((5 : Int) = 5) = true by decide), need_ok (by rw [List.length_map]; omega)]
    have ef := f_loop (ws.drop i)
    unfold fP fI at ef
    rw [ef, Res.bind_ok, Res.bind_ok, e2, Res.bind_ok]
    dsimp only
    rw [if_neg (show ¬ decide ((5 : Int) = 3) = true by decide), if_pos (show decide ((5 : Int) = 5) = true by decide), o_q, need_ok (by rw [S_len, S_len, List.length_append, List.length_replicate]; show (joinL ps).length + g + 1 ≤ sizeLine; omega), Res.bind_ok, S_app,
      need_ok (by rw [S_len, S_len, List.length_append, List.length_append, List.length_replicate]; show (joinL ps).length + g + 1 + _ ≤ sizeLine; omega), Res.bind_ok, S_app]
    refine ⟨joinL ps ++ (List.replicate g 32 ++ 39 :: joinL qs), p2, by simp, spoilt_tk hm hw hc g 39 _ (by decide) (sz_q q39) (glue_no (by decide) (by decide) (by decide) (by decide)), by
      rw [List.length_append, List.length_append, List.length_replicate, List.length_cons]; omega, all_app j128 (all_app (all_rep g) (all_cons (by decide) q128))⟩
  obtain ⟨qs, p2, e2, qm, qc, ql, q128, hp2⟩ := join_ok (ws.drop i) p1 (fun w h => hw w (List.mem_of_mem_drop h)) rl hp1
  rw [if_neg (by simpa using m5), Res.bind_ok, e2, Res.bind_ok]
  dsimp only
  by_cases m3 : mode = 3
  · subst m3
    obtain ⟨zs, p3, e3, zl, zm, hp3⟩ := drawn_ok p2 hp2 strg_ok.2.1 strg_ok.2.2 1 (by decide)
    match zs, zl with
    | [z], _ =>
    have zin := zm z List.mem_cons_self
    rw [if_pos (show decide ((3 : Int) = 3) = true by decide), strange_ok, Res.bind_ok, Res.bind_ok, Res.bind_ok]
    dsimp only
    have e3' : m_law_drawn p2 ⟨S strg, (1 : Int), ()⟩ = .ok (S [z], p3) := e3
    rw [e3', Res.bind_ok]
    dsimp only
    rw [need_ok (by rw [S_len, S_len, List.length_append, List.length_replicate]; show (joinL ps).length + g + 1 ≤ sizeLine; omega), Res.bind_ok, S_app, Res.bind_ok]
    dsimp only
    rw [need_ok (by rw [S_len, S_len, List.length_append, List.length_append, List.length_replicate]; show (joinL ps).length + g + 1 + _ ≤ sizeLine; omega), Res.bind_ok, S_app]
    have zz := strg_ok.1 z zin
    refine ⟨joinL ps ++ (List.replicate g 32 ++ z :: joinL qs), p3, by simp, spoilt_tk hm hw hc g z _ zz.1 (sz_strg zin _) (glue_no zz.2.2.2.2.2.2.2.2.2.1 zz.2.2.2.2.2.2.2.2.2.2.1 zz.2.2.2.2.2.2.2.1 zz.2.2.2.2.2.2.2.2.1), by
      rw [List.length_append, List.length_append, List.length_replicate, List.length_cons]; omega, all_app j128 (all_app (all_rep g) (all_cons (by omega) q128))⟩
  rw [if_neg (by simpa using m3), if_neg (by simpa using m5), o_nil, o_figs, o_sp, o_mi, S_dec]
  have fin : ∀ bk : List Nat, bk.length ≤ 3000 → (∀ c, bk.head? = some c → isD c = false) → (∀ c ∈ bk, c < 128) → ∃ (text : List Nat) (p' : P3),
      ((need (Str.length (S (joinL ps ++ List.replicate g 32)) + Str.length (S [45]) ≤ sizeLine) (Res.ok (S (joinL ps ++ List.replicate g 32) ++ S [45]))).bind fun v208 => need (Str.length v208 + Str.length (S bk) ≤ sizeLine) (Res.ok (v208 ++ S bk))).bind (fun v209 => Res.ok (v209, p2)) = .ok (S text, p') ∧ Tk text (ws.take i) false ∧ text.length ≤ 10000 ∧ (∀ c ∈ text, c < 128) := fun bk b1 b2 b3 => by
    rw [need_ok (by rw [S_len, S_len, List.length_append, List.length_replicate]; show (joinL ps).length + g + 1 ≤ sizeLine; omega), Res.bind_ok, S_app,
      need_ok (by rw [S_len, S_len, List.length_append, List.length_append, List.length_replicate]; show (joinL ps).length + g + 1 + _ ≤ sizeLine; omega), Res.bind_ok, S_app]
    exact ⟨joinL ps ++ (List.replicate g 32 ++ 45 :: bk), p2, by simp, spoilt_tk hm hw hc g 45 _ (by decide) (sz_mi b2) (glue_no (by decide) (by decide) (by decide) (by decide)), by
      rw [List.length_append, List.length_append, List.length_replicate, List.length_cons]; omega, all_app j128 (all_app (all_rep g) (all_cons (by decide) b3))⟩
  cases hq : joinL qs with
  | nil =>
    rw [if_neg (by decide), Res.bind_ok, if_neg (by decide), Res.bind_ok]
    exact fin [] (by simp) (fun c h => by cases h) (fun c h => (List.not_mem_nil h).elim)
  | cons c r =>
    rw [hq] at ql q128
    have i0 : idxS (S (c :: r)) (0 : Int) = .ok (S [c]) := idxS_ok (j := 0) rfl (by omega)
    rw [if_pos (by simp), i0, Res.bind_ok, inS_ok, in_figs, Res.bind_ok]
    by_cases hd : isD c = true
    · rw [if_pos hd, need_ok (by rw [S_len, S_len]; show 1 + _ ≤ sizeLine; omega), Res.bind_ok, S_app, Res.bind_ok]
      exact fin (32 :: c :: r) (by rw [List.length_cons]; omega) (fun a h => by
        have : a = 32 := by simpa using h.symm
        rw [this]; decide) (all_cons (by decide) q128)
    · rw [if_neg hd, Res.bind_ok]
      exact fin (c :: r) (by omega) (fun a h => by
        have : a = c := by simpa using h.symm
        rw [this]; simpa using hd) q128
end K28

set_option Elab.async false
set_option linter.all false
set_option maxRecDepth 100000
/-! M28h: k28: raw texts; what is told; the law. -/
namespace K28
open PySem PySem.Spec PyProof.Rows L2 NF
open NF.Data (toD)
def raw1 : List Nat := (PySem.Str.ofString "ab z0'1<>=-(),(<>= -9'").cps.toList
def raw2 : List Nat := (PySem.Str.ofString "23456780").cps.toList
theorem o_raw1 : PySem.Str.ofString "ab z0'1<>=-(),(<>= -9'" = S raw1 := (S_eta _).symm
theorem o_raw2 : PySem.Str.ofString "23456780" = S raw2 := (S_eta _).symm
def rawS : List Nat := raw1 ++ lets ++ raw2 ++ strg
theorem rawS_ok : (∀ c ∈ rawS, c < 128) ∧ 56 ≤ rawS.length ∧ rawS.length ≤ 1000 := by decide +kernel
noncomputable def rF (l : List Nat) : Int → Str × P3 → Res (Str × P3) := fun (a217 : Int) (b218 : (Str × P3)) => ((((((((need (Str.length (S l) ≤ sizeLine) (Res.ok (Str.length (S l) : Int))).bind fun v226 => Res.ok (v226 :: [])).bind fun v227 => Res.ok ((56 : Int) :: v227)).bind fun v228 => Res.ok ((22 : Int) :: v228)).bind fun v229 => Res.ok ((22 : Int) :: v229)).bind fun v230 => need (List.length v230 ≤ sizeLine) (Res.ok v230)).bind fun v231 => Res.ok (v231, b218.2)).bind fun u233 => (m_law_digit u233.2 (Ar.mk (4 : Int) ())).bind fun u234 => (idx u233.1 u234.1).bind fun v235 => Res.ok (v235, u234.2)).bind fun size_236 => (((m_law_digit size_236.2 (Ar.mk size_236.1 ())).bind fun u242 => (idxS (S l) u242.1).bind fun v243 => Res.ok (v243, u242.2)).bind fun u244 => (need (Str.length b218.1 + Str.length u244.1 ≤ sizeLine) (Res.ok (b218.1 ++ u244.1))).bind fun v245 => Res.ok (v245, u244.2)).bind fun text_246 => Res.ok (text_246.1, text_246.2)
theorem r_loop {l : List Nat} (l0 : 56 ≤ l.length) (l1 : l.length ≤ 1000) (l2 : ∀ c ∈ l, c < 128) : ∀ (as : List Int) (t : List Nat) (p : P3), Pl p → t.length + as.length ≤ 1000 → (∀ c ∈ t, c < 128) → ∃ (t' : List Nat) (p' : P3), foldR (rF l) as (S t, p) = .ok (S t', p') ∧ t'.length ≤ 1000 ∧ (∀ c ∈ t', c < 128)
  | [], t, p, _, h1, h2 => ⟨t, p, rfl, by simpa using h1, h2⟩
  | a :: as, t, p, hp, h1, h2 => by
    have hs := sl_ge
    rw [List.length_cons] at h1
    obtain ⟨d, p1, e1, d0, d1, hp1⟩ := digit_ok p hp (m := 4) (by decide) (by decide)
    obtain ⟨n, en, hn⟩ := idx_in (xs := ((22 : Int) :: (22 : Int) :: (56 : Int) :: (l.length : Int) :: [])) d0 (by simpa using d1)
    have hn' : 0 < n ∧ n ≤ l.length := by
      simp only [List.mem_cons, List.not_mem_nil, or_false] at hn
      omega
    obtain ⟨u, p2, e2, u0, u1, hp2⟩ := digit_ok p1 hp1 (m := n) hn'.1 (by omega)
    obtain ⟨k, rfl⟩ := Int.eq_ofNat_of_zero_le u0
    have hk : k < l.length := by omega
    obtain ⟨t', p', e, g1, g2⟩ := r_loop l0 l1 l2 as (t ++ [l[k]]) p2 hp2 (by rw [List.length_append, List.length_singleton]; omega) (all_app h2 (all_cons (l2 _ (List.getElem_mem hk)) fun _ h => (List.not_mem_nil h).elim))
    refine ⟨t', p', ?_, g1, g2⟩
    have es : rF l a (S t, p) = .ok (S (t ++ [l[k]]), p2) := by
      unfold rF
      rw [need_ok (by rw [S_len]; omega), Res.bind_ok, Res.bind_ok, Res.bind_ok, Res.bind_ok, Res.bind_ok, need_ok (by simp; omega), Res.bind_ok, Res.bind_ok, S_len]
      dsimp only
      rw [e1, Res.bind_ok]
      dsimp only
      rw [en, Res.bind_ok, Res.bind_ok]
      dsimp only
      rw [e2, Res.bind_ok]
      dsimp only
      rw [idxS_ok (List.getElem?_eq_getElem hk) (by omega), Res.bind_ok, Res.bind_ok]
      dsimp only
      rw [need_ok (by rw [S_len, S_len]; show t.length + 1 ≤ sizeLine; omega), Res.bind_ok, S_app, Res.bind_ok]
    show ((rF l a (S t, p)).bind _) = _
    rw [es, Res.bind_ok]
    exact e
theorem raw_ok (p : P3) (hp : Pl p) : ∃ (t : List Nat) (p' : P3), m_law_raw p () = .ok (S t, p') ∧ t.length ≤ 1000 ∧ (∀ c ∈ t, c < 128) := by
  have hs := sl_ge
  obtain ⟨d, p1, e1, d0, d1, hp1⟩ := digit_ok p hp (m := 41) (by decide) (by decide)
  obtain ⟨t', p', e, g1, g2⟩ := r_loop rawS_ok.2.1 rawS_ok.2.2 rawS_ok.1 (irange 0 d) [] p1 hp1 (by rw [irange_len]; simp; omega) (fun _ h => (List.not_mem_nil h).elim)
  have hl : raw1.length + lets.length + raw2.length + strg.length ≤ 1000 := by decide +kernel
  refine ⟨t', p', ?_, g1, g2⟩
  unfold m_law_raw
  rw [lets_ok, strange_ok, o_raw1, o_raw2, o_nil, Res.bind_ok, need_ok (by rw [S_len, S_len]; omega), Res.bind_ok, S_app, need_ok (by rw [S_len, S_len, List.length_append]; omega), Res.bind_ok, S_app, Res.bind_ok, need_ok (by rw [S_len, S_len, List.length_append, List.length_append]; omega), Res.bind_ok, S_app]
  dsimp only
  rw [e1, Res.bind_ok, need_ok (by unfold Rg62; omega), Res.bind_ok]
  show ((foldR (rF rawS) (irange 0 d) (S [], p1)).bind _) = _
  rw [e, Res.bind_ok]
/-! what is told -/
theorem told_ok {l : List Nat} (hl : l.length ≤ 100000) {ws : List (List Nat)} {b : Bool} (t : Tk l ws b) : m_law_told_at_T ⟨S l, ()⟩ = .ok (if b then .inr (ws.map S) else .inl ((ws.length : Nat) : Int)) := by
  unfold m_law_told_at_T
  dsimp only
  rw [split_ok hl t]
  cases b with
  | true => rfl
  | false =>
    rw [if_neg (by decide)]
    show goOn (tryR "Unread" (Res.err "Unread" [(PySem.Str.ofString "at", toD ((ws.length : Nat) : Int))]) _) _ = _
    unfold tryR
    dsimp only
    rw [if_pos rfl, need_ok (by rfl)]
    have e : xfR [(PySem.Str.ofString "at", toD ((ws.length : Nat) : Int))] (PySem.Str.ofString "at") = .ok (.int (ws.length : Nat)) := by
      unfold xfR
      rw [show List.lookup (PySem.Str.ofString "at") [(PySem.Str.ofString "at", toD ((ws.length : Nat) : Int))] = some (toD ((ws.length : Nat) : Int)) by simp [List.lookup]]
      exact need_ok (by rfl)
    rw [e]
    rfl
theorem told2_ok {l : List Nat} (hl : l.length ≤ 100000) {ws : List (List Nat)} {b : Bool} (t : Tk l ws b) : m_law_told ⟨S l, ()⟩ = .ok (sayD [] ws b) := by
  unfold m_law_told
  dsimp only
  rw [split_ok hl t]
  cases b with
  | true => rfl
  | false =>
    rw [if_neg (by decide)]
    show goOn (tryR "Unread" (Res.err "Unread" [(PySem.Str.ofString "at", toD ((ws.length : Nat) : Int))]) _) _ = _
    unfold tryR
    dsimp only
    rw [if_pos rfl, need_ok (by rfl)]
    have e : xfR [(PySem.Str.ofString "at", toD ((ws.length : Nat) : Int))] (PySem.Str.ofString "at") = .ok (.int (ws.length : Nat)) := by
      unfold xfR
      rw [show List.lookup (PySem.Str.ofString "at") [(PySem.Str.ofString "at", toD ((ws.length : Nat) : Int))] = some (toD ((ws.length : Nat) : Int)) by simp [List.lookup]]
      exact need_ok (by rfl)
    rw [e]
    unfold sayD
    rw [if_neg (by decide), List.length_nil, Nat.zero_add]
    rfl
theorem alone_ok {l : List Nat} (hl : l.length ≤ 100000) {ws : List (List Nat)} (t : Tk l ws false) : m_law_alone ⟨S l, ()⟩ = .ok true := by
  unfold m_law_alone
  dsimp only
  rw [split_ok hl t, if_neg (by decide)]
  show goOn (tryR2 "Unread" "Unread" (Res.err "Unread" [(PySem.Str.ofString "at", toD ((ws.length : Nat) : Int))]) _ _) _ = _
  unfold tryR2
  dsimp only
  rw [if_pos rfl, need_ok (by rfl)]
  rfl
theorem S_strOk {w : List Nat} (h : ∀ c ∈ w, c < 128) : PyData.strOk (S w) = true := by
  unfold PyData.strOk
  show (w.toArray.all _) = true
  rw [List.all_toArray, List.all_eq_true]
  intro c hc
  have := h c hc
  simp; omega
theorem lay_ws : ∀ {ws : List (List Nat)}, (∀ w ∈ ws, ∀ c ∈ w, c < 128) → PyData.canLayAll0 ((ws.map S).map toD) = true
  | [], _ => rfl
  | w :: r, h => by
    show (PyData.strOk (S w) && PyData.canLayAll0 ((r.map S).map toD)) = true
    rw [S_strOk (h w List.mem_cons_self), lay_ws fun x hx => h x (List.mem_cons_of_mem _ hx)]
    rfl
theorem dep_ws : ∀ (ws : List (List Nat)), PyData.depthAll ((ws.map S).map toD) = 0
  | [] => rfl
  | w :: r => by
    show max (PyData.depth (.str (S w))) (PyData.depthAll ((r.map S).map toD)) = 0
    rw [dep_ws r]; rfl
theorem eqv_ws : ∀ (ws : List (List Nat)), PyData.eqvAll ((ws.map S).map toD) ((ws.map S).map toD) = true
  | [] => rfl
  | w :: r => by
    show ((S w == S w) && PyData.eqvAll ((r.map S).map toD) ((r.map S).map toD)) = true
    rw [eqv_ws r]; simp
theorem d_wu : ¬ (decide (PySem.Str.ofString "words" = PySem.Str.ofString "unread") = true) := by decide +kernel
theorem d_uu : decide (PySem.Str.ofString "unread" = PySem.Str.ofString "unread") = true := by decide +kernel
theorem right_ws {ws : List (List Nat)} (h : ∀ w ∈ ws, ∀ c ∈ w, c < 128) : m_law_right ⟨(PySem.Str.ofString "words", toD (ws.map S)), (PySem.Str.ofString "words", toD (ws.map S)), ()⟩ = .ok true := by
  have s1 : PyData.strOk (PySem.Str.ofString "words") = true := by decide +kernel
  have hsh : shp ((PySem.Str.ofString "words", toD (ws.map S)) : Str × PyData) = true := by
    show ((PyData.strOk (PySem.Str.ofString "words") && (PyData.canLayAll0 ((ws.map S).map toD) && true)) && decide (max 0 (max (PyData.depthAll ((ws.map S).map toD) + 1) 0) + 1 ≤ 64)) = true
    rw [s1, lay_ws h, dep_ws]; rfl
  have heq : eqD ((PySem.Str.ofString "words", toD (ws.map S)) : Str × PyData) ((PySem.Str.ofString "words", toD (ws.map S)) : Str × PyData) = true := by
    show ((PySem.Str.ofString "words" == PySem.Str.ofString "words") && (PyData.eqvAll ((ws.map S).map toD) ((ws.map S).map toD) && true)) = true
    rw [eqv_ws]; simp
  unfold m_law_right
  dsimp only
  rw [if_neg d_wu, Res.bind_ok, if_neg (by decide)]
  show (((isT "bool" "list").bind fun v304 => Res.ok (!v304)).bind fun v305 => if v305 then _ else _) = _
  rw [show isT "bool" "list" = .ok false by rfl, Res.bind_ok, Res.bind_ok, if_pos (by decide), need_ok ⟨hsh, hsh⟩, heq]
theorem right_un (n : Int) : m_law_right ⟨(PySem.Str.ofString "unread", PyData.int n), (PySem.Str.ofString "unread", PyData.int n), ()⟩ = .ok true := by
  have s1 : PyData.strOk (PySem.Str.ofString "unread") = true := by decide +kernel
  have hsh : shp ((PySem.Str.ofString "unread", PyData.int n) : Str × PyData) = true := by
    show ((PyData.strOk (PySem.Str.ofString "unread") && (true && true)) && _) = true
    rw [s1]; rfl
  have heq : eqD ((PySem.Str.ofString "unread", PyData.int n) : Str × PyData) ((PySem.Str.ofString "unread", PyData.int n) : Str × PyData) = true := by
    show ((PySem.Str.ofString "unread" == PySem.Str.ofString "unread") && ((n == n) && true)) = true
    simp
  unfold m_law_right
  dsimp only
  rw [if_pos d_uu]
  show ((((isT "int" "int").bind fun v303 => Res.ok (!v303))).bind fun v306 => if v306 then _ else (((isT "bool" "int").bind fun v304 => Res.ok (!v304)).bind fun v305 => if v305 then _ else _)) = _
  rw [show isT "int" "int" = .ok true by rfl, show isT "bool" "int" = .ok false by rfl, Res.bind_ok, Res.bind_ok, if_neg (by decide), Res.bind_ok, Res.bind_ok, if_pos (by decide), need_ok ⟨hsh, hsh⟩, heq]
/-! the law's end -/
noncomputable def tail (b380 : Str × (Str × PyData) × P3) : Res Bool := ((Res.ok (Ar.mk b380.1 ())).bind m_law_told_at_T).bind fun r => match r with | Sum.inl n416 => (((m_law_right (Ar.mk (("unread", PyData.int n416) : Str × PyData) (Ar.mk b380.2.1 ()))).bind fun v419 => Res.ok (!v419)).bind fun v420 => if v420 then (Res.ok false) else (if (decide (b380.2.1.1 = (PySem.Str.ofString "unread"))) then (m_law_alone (Ar.mk b380.1 ())) else (Res.bad))) | Sum.inr ws417 => (((m_law_right (Ar.mk (("words", toD ws417) : Str × PyData) (Ar.mk b380.2.1 ()))).bind fun v421 => Res.ok (!v421)).bind fun v425 => if v425 then (Res.ok false) else (if (decide (b380.2.1.1 = (PySem.Str.ofString "unread"))) then (m_law_alone (Ar.mk b380.1 ())) else ((need (List.length ws417 < sizeLine) (Res.ok (ws417 ++ [(PySem.Str.ofString "zz")]))).bind fun ws422 => ((m_law_told (Ar.mk b380.1 ())).bind fun v423 => Res.ok (Ar.mk v423 (Ar.mk b380.2.1 ()))).bind fun u424 => m_law_right u424)))
theorem tail_ok {l : List Nat} (hl : l.length ≤ 10000) (h128 : ∀ c ∈ l, c < 128) {ws : List (List Nat)} {b : Bool} (t : Tk l ws b) (p : P3) : tail (S l, sayD [] ws b, p) = .ok true := by
  have hs := sl_ge
  have hws : ∀ w ∈ ws, ∀ c ∈ w, c < 128 := fun w hw c hc => h128 c (tk_mem t w hw c hc)
  have htl := tk_len t
  unfold tail
  dsimp only
  rw [Res.bind_ok, told_ok (by omega) t, Res.bind_ok]
  cases b with
  | false =>
    rw [if_neg (by decide)]
    have e : sayD [] ws false = (PySem.Str.ofString "unread", PyData.int ((ws.length : Nat) : Int)) := by
      unfold sayD
      rw [if_neg (by decide), List.length_nil, Nat.zero_add]
      rfl
    rw [e]
    dsimp only
    have r := right_un ((ws.length : Nat) : Int)
    rw [show m_law_right ⟨(("unread", PyData.int ((ws.length : Nat) : Int)) : Str × PyData), (PySem.Str.ofString "unread", PyData.int ((ws.length : Nat) : Int)), ()⟩ = .ok true from r, Res.bind_ok, Res.bind_ok, if_neg (by decide), if_pos d_uu]
    exact alone_ok (by omega) t
  | true =>
    rw [if_pos rfl]
    have e : sayD [] ws true = (PySem.Str.ofString "words", toD (ws.map S)) := by
      unfold sayD
      rw [if_pos rfl, List.nil_append]
    have e2 := told2_ok (show l.length ≤ 100000 by omega) t
    rw [e] at e2
    rw [e]
    dsimp only
    have r := right_ws hws
    rw [show m_law_right ⟨(("words", toD (ws.map S)) : Str × PyData), (PySem.Str.ofString "words", toD (ws.map S)), ()⟩ = .ok true from r, Res.bind_ok, Res.bind_ok, if_neg (by decide), if_neg d_wu, need_ok (by rw [List.length_map]; omega), Res.bind_ok, e2, Res.bind_ok, Res.bind_ok]
    exact r
end K28

set_option Elab.async false
set_option linter.all false
set_option maxRecDepth 100000
/-! M28i: k28: the law. -/
namespace K28
open PySem PySem.Spec PyProof.Rows L2 NF
open NF.Data (toD)
def aP (a : Ar Scr Unit) : Res P3 := ((need (List.length (cut a.x.ns none (some (63 : Int))) ≤ sizeLine) (filtR (fun (a307 : Int) => Res.quiet (Res.ok true)) (fun (a307 : Int) => Res.quiet (Res.ok (if a307 < 0 then -a307 else a307))) (cut a.x.ns none (some (63 : Int))))).bind fun v310 => Res.ok (P3.mk (0 : Int) (0 : Int) v310))
noncomputable def aM (mode_313 : Int × P3) : Res (Int × P3) := (if (decide ((5 : Int) < mode_313.1)) then (Res.ok ((0 : Int), mode_313.2)) else ((((m_law_digit mode_313.2 (Ar.mk (21 : Int) ())).bind fun u323 => Res.ok ((u323.1 + (5 : Int)), u323.2)).bind fun u324 => Res.ok (u324.1, u324.2)).bind fun u326 => (need (0 < (21 : Int)) (Res.ok (u326.1 % (21 : Int)))).bind fun v327 => Res.ok (v327, u326.2)))
noncomputable def aW (many_328 : Int × P3) : Res (List Str × P3) := (((need (Rg62 many_328.1) (Res.ok (irange 0 many_328.1))).bind fun v329 => Res.ok (v329, many_328.2)).bind fun u334 => need (List.length u334.1 ≤ sizeLine) (filtE (fun (a330 : Int) (xs333 : P3) => Res.quiet (Res.ok (true, xs333))) (fun (a330 : Int) (xs333 : P3) => Res.quiet (m_law_word xs333 ())) u334.1 u334.2))
noncomputable def aT (words_335 : List Str × P3) : Res (List Str × P3) := (((m_law_digit words_335.2 (Ar.mk (8 : Int) ())).bind fun u338 => Res.ok ((decide (u338.1 = (7 : Int))), u338.2)).bind fun u344 => if u344.1 then ((need (Rg63 (3 : Int) ∧ List.length words_335.1 * ((3 : Int)).toNat ≤ sizeLine) (Res.ok (List.replicate ((3 : Int)).toNat words_335.1).flatten)).bind fun words_343 => Res.ok (words_343, u344.2)) else (Res.ok (words_335.1, u344.2)))
noncomputable def aX (mode_313 : Int × P3) (b340 : List Str × P3) : Res (Str × (Str × PyData) × P3) := (if (decide ((5 : Int) < mode_313.1)) then ((m_law_raw b340.2 ()).bind fun text_381 => (m_law_divided (Ar.mk text_381.1 ())).bind fun due_382 => Res.ok (text_381.1, due_382, text_381.2)) else ((if (decide ((2 : Int) < mode_313.1)) then ((m_law_digit b340.2 (Ar.mk ((List.length b340.1 : Int) + (1 : Int)) ())).bind fun at_400 => (m_law_spoilt at_400.2 (Ar.mk b340.1 (Ar.mk at_400.1 (Ar.mk mode_313.1 ())))).bind fun text_401 => (let due_402 := ((PySem.Str.ofString "unread"), (toD at_400.1))
  Res.ok (text_401.1, due_402, text_401.2))) else (((m_law_join b340.2 (Ar.mk b340.1 ())).bind fun u411 => ((m_law_digit u411.2 (Ar.mk (3 : Int) ())).bind fun u409 => (need (CMulS (PySem.Str.ofString " ") u409.1) (Res.ok (Txt.mul (PySem.Str.ofString " ") u409.1))).bind fun v410 => Res.ok (v410, u409.2)).bind fun u412 => (need (Str.length u411.1 + Str.length u412.1 ≤ sizeLine) (Res.ok (u411.1 ++ u412.1))).bind fun v413 => Res.ok (v413, u412.2)).bind fun text_414 => (let due_415 := ((PySem.Str.ofString "words"), (toD b340.1))
  Res.ok (text_414.1, due_415, text_414.2)))).bind fun b399 => Res.ok (b399.1, b399.2.1, b399.2.2)))
theorem law_eq (a : Ar Scr Unit) : m_law a = (aP a).bind fun pool311 => (m_law_digit pool311 (Ar.mk (8 : Int) ())).bind fun mode_313 => (aM mode_313).bind fun many_328 => (aW many_328).bind fun words_335 => (aT words_335).bind fun b340 => (aX mode_313 b340).bind tail := rfl

theorem abs_loop : ∀ as : List Int, filtR (fun (a307 : Int) => Res.quiet (Res.ok true)) (fun (a307 : Int) => Res.quiet (Res.ok (if a307 < 0 then -a307 else a307))) as = .ok (as.map fun a => if a < 0 then -a else a)
  | [] => rfl
  | a :: as => by
    show (Res.ok true).bind (fun c => if c then (Res.ok (if a < 0 then -a else a)).bind fun y => (filtR _ _ as).bind fun ys => .ok (y :: ys) else filtR _ _ as) = _
    rw [Res.bind_ok, if_pos rfl, Res.bind_ok, abs_loop as, Res.bind_ok]
    rfl
theorem aP_ok (ns : List Int) (h : ns.length ≤ 63) : ∃ p, aP ⟨⟨ns⟩, ()⟩ = .ok p ∧ Pl p := by
  have hs := sl_ge
  have hc : (cut ns none (some (63 : Int))).length ≤ 63 := by
    unfold cut
    rw [List.length_take, List.length_drop]
    omega
  unfold aP
  dsimp only
  rw [need_ok (by omega), abs_loop, Res.bind_ok]
  exact ⟨_, rfl, by show (List.map _ _).length ≤ 1000; rw [List.length_map]; omega⟩
theorem aM_ok (mode : Int) (p : P3) (hp : Pl p) : ∃ (n : Nat) (p' : P3), aM (mode, p) = .ok ((n : Int), p') ∧ n ≤ 20 ∧ Pl p' := by
  unfold aM
  dsimp only
  by_cases h : 5 < mode
  · rw [if_pos (by simpa using h)]
    exact ⟨0, p, rfl, by decide, hp⟩
  · obtain ⟨d, p1, e1, d0, d1, hp1⟩ := digit_ok p hp (m := 21) (by decide) (by decide)
    rw [if_neg (by simpa using h), e1, Res.bind_ok, Res.bind_ok, Res.bind_ok, need_ok (by decide), Res.bind_ok]
    dsimp only
    refine ⟨((d + 5) % 21).toNat, p1, ?_, by omega, hp1⟩
    rw [Int.toNat_of_nonneg (by omega)]
noncomputable def wI : Int → P3 → Res (Str × P3) := (fun (a330 : Int) (xs333 : P3) => Res.quiet (m_law_word xs333 ()))
theorem w_loop : ∀ (as : List Int) (p : P3), Pl p → ∃ (ws : List (List Nat)) (p' : P3), filtE eP wI as p = .ok (ws.map S, p') ∧ ws.length = as.length ∧ (∀ w ∈ ws, Wk w) ∧ Pl p'
  | [], p, hp => ⟨[], p, rfl, rfl, fun _ h => (List.not_mem_nil h).elim, hp⟩
  | a :: as, p, hp => by
    obtain ⟨w, p1, e1, hw, hp1⟩ := word_ok p hp
    obtain ⟨ws, p2, e2, hl, hm, hp2⟩ := w_loop as p1 hp1
    refine ⟨w :: ws, p2, ?_, by rw [List.length_cons, hl]; rfl, fun c hc => ?_, hp2⟩
    · have e : wI a p = .ok (S w, p1) := by
        unfold wI
        rw [e1]
        rfl
      show ((wI a p).bind _) = _
      rw [e, Res.bind_ok]
      dsimp only
      rw [e2, Res.bind_ok]
      rfl
    · rcases List.mem_cons.mp hc with z | z
      · rw [z]; exact hw
      · exact hm c z
theorem aW_ok (n : Nat) (hn : n ≤ 20) (p : P3) (hp : Pl p) : ∃ (ws : List (List Nat)) (p' : P3), aW ((n : Int), p) = .ok (ws.map S, p') ∧ ws.length ≤ 20 ∧ (∀ w ∈ ws, Wk w) ∧ Pl p' := by
  have hs := sl_ge
  obtain ⟨ws, p', e, hl, hm, hp'⟩ := w_loop (irange 0 (n : Int)) p hp
  rw [irange_len] at hl
  refine ⟨ws, p', ?_, by omega, hm, hp'⟩
  unfold aW
  dsimp only
  rw [need_ok (by unfold Rg62; omega), Res.bind_ok, Res.bind_ok, need_ok (by rw [irange_len]; omega)]
  exact e
theorem aT_ok (ws : List (List Nat)) (p : P3) (hl : ws.length ≤ 20) (hw : ∀ w ∈ ws, Wk w) (hp : Pl p) : ∃ (vs : List (List Nat)) (p' : P3), aT (ws.map S, p) = .ok (vs.map S, p') ∧ vs.length ≤ 60 ∧ (∀ w ∈ vs, Wk w) ∧ Pl p' := by
  have hs := sl_ge
  obtain ⟨d, p1, e1, d0, d1, hp1⟩ := digit_ok p hp (m := 8) (by decide) (by decide)
  unfold aT
  dsimp only
  rw [e1, Res.bind_ok, Res.bind_ok]
  dsimp only
  by_cases h : d = 7
  · rw [if_pos (by simpa using h), need_ok ⟨by unfold Rg63; omega, by rw [List.length_map]; show ws.length * 3 ≤ sizeLine; omega⟩, Res.bind_ok]
    refine ⟨ws ++ (ws ++ ws), p1, ?_, by rw [List.length_append, List.length_append]; omega, fun w h => ?_, hp1⟩
    · rw [List.map_append, List.map_append]
      show Res.ok (ws.map S ++ (ws.map S ++ (ws.map S ++ [])), p1) = _
      rw [List.append_nil]
    · rcases List.mem_append.mp h with z | z
      · exact hw w z
      · rcases List.mem_append.mp z with z | z <;> exact hw w z
  · rw [if_neg (by simpa using h)]
    exact ⟨ws, p1, rfl, by omega, hw, hp1⟩
theorem aX_ok (mode : Int) (q : P3) (ws : List (List Nat)) (p : P3) (h0 : 0 ≤ mode) (h1 : mode < 8) (hl : ws.length ≤ 60) (hw : ∀ w ∈ ws, Wk w) (hp : Pl p) : ∃ (l : List Nat) (vs : List (List Nat)) (b : Bool) (p' : P3), aX (mode, q) (ws.map S, p) = .ok (S l, sayD [] vs b, p') ∧ Tk l vs b ∧ l.length ≤ 10000 ∧ (∀ c ∈ l, c < 128) := by
  have hs := sl_ge
  unfold aX
  dsimp only
  by_cases m5 : 5 < mode
  · obtain ⟨t, p1, e1, tl, t128⟩ := raw_ok p hp
    obtain ⟨vs, b, tk⟩ := tk_total _ t (Nat.le_refl _)
    rw [if_pos (by simpa using m5), e1, Res.bind_ok]
    dsimp only
    rw [divided_ok (by omega) tk, Res.bind_ok]
    exact ⟨t, vs, b, p1, rfl, tk, by omega, t128⟩
  rw [if_neg (by simpa using m5)]
  by_cases m2 : 2 < mode
  · obtain ⟨d, p1, e1, d0, d1, hp1⟩ := digit_ok p hp (m := (ws.length : Int) + 1) (by omega) (by omega)
    obtain ⟨i, rfl⟩ := Int.eq_ofNat_of_zero_le d0
    obtain ⟨t, p2, e2, tk, tl, t128⟩ := spoilt_ok ws i p1 mode ⟨by omega, by omega⟩ hw (by omega) (by omega) hp1
    rw [if_pos (by simpa using m2), List.length_map, e1, Res.bind_ok]
    dsimp only
    rw [e2, Res.bind_ok]
    refine ⟨t, ws.take i, false, p2, ?_, tk, tl, t128⟩
    unfold sayD
    rw [if_neg (by decide), List.length_nil, Nat.zero_add, List.length_take, Nat.min_eq_left (by omega)]
    rfl
  · obtain ⟨ps, p1, e1, hm, hc, jl, j128, hp1⟩ := join_ok ws p hw (by omega) hp
    obtain ⟨d, p2, e2, d0, d1, hp2⟩ := digit_ok p1 hp1 (m := 3) (by decide) (by decide)
    obtain ⟨g, rfl⟩ := Int.eq_ofNat_of_zero_le d0
    have tk := (join_tk ps [] (List.replicate g 32) [] true (fun p hp => (hw p.2 (by rw [← hm]; exact List.mem_map_of_mem hp)).1) hc (fun c h => by
      have : c ∈ List.replicate g 32 := List.mem_of_head? h
      rw [List.eq_of_mem_replicate this]; exact glue_sp _) (by
      have := tk_sps .nil g
      rwa [List.append_nil] at this)).1
    rw [hm, List.append_nil] at tk
    rw [if_neg (by simpa using m2), e1, Res.bind_ok]
    dsimp only
    rw [e2, Res.bind_ok]
    dsimp only
    rw [need_ok (cmul_sp (by omega)), mul_sp (by omega), Res.bind_ok, Res.bind_ok]
    dsimp only
    rw [need_ok (by rw [S_len, S_len, List.length_replicate]; omega), Res.bind_ok, S_app, Res.bind_ok]
    refine ⟨joinL ps ++ List.replicate g 32, ws, true, p2, ?_, tk, by rw [List.length_append, List.length_replicate]; omega, all_app j128 (all_rep g)⟩
    unfold sayD
    rw [if_pos rfl, List.nil_append]
    rfl
theorem math : ∀ ns : List Int, ns.length ≤ 63 → m_law ⟨⟨ns⟩, ()⟩ = .ok true := by
  intro ns h
  obtain ⟨p0, e0, hp0⟩ := aP_ok ns h
  obtain ⟨mode, p1, e1, m0, m1, hp1⟩ := digit_ok p0 hp0 (m := 8) (by decide) (by decide)
  obtain ⟨n, p2, e2, hn, hp2⟩ := aM_ok mode p1 hp1
  obtain ⟨ws, p3, e3, hl, hw, hp3⟩ := aW_ok n hn p2 hp2
  obtain ⟨vs, p4, e4, vl, vw, hp4⟩ := aT_ok ws p3 hl hw hp3
  obtain ⟨l, us, b, p5, e5, tk, ll, l128⟩ := aX_ok mode p1 vs p4 m0 m1 vl vw hp4
  rw [law_eq, e0, Res.bind_ok, e1, Res.bind_ok, e2, Res.bind_ok, e3, Res.bind_ok, e4, Res.bind_ok, e5, Res.bind_ok]
  exact tail_ok ll l128 tk p5
end K28

set_option Elab.async false
set_option linter.all false
set_option maxRecDepth 100000
set_option maxHeartbeats 4000000
namespace K28
open PySem PySem.Spec PyProof.Rows L2 NF
open NF.Data (toD)
section
variable {P : Program} {w : World} {K : Fg} {mg : MG} {base : Heap}
/-! ### what the top has written -/
def cls_Unread : List Stmt := match topS 2 with
  | .ClassDef (body := b) .. => b
  | _ => []
abbrev s_init_Unread : Stmt := (cls_Unread).getD 0 (.Pass ⟨0, 0, 0, 0⟩)
theorem sc_init_Unread : FnScope ["self", "at"] ["self", "at"] (defScope s_init_Unread) := ⟨rfl, rfl, rfl, by decide +kernel, rfl, by decide +kernel, by decide +kernel⟩
theorem all_mk {l : PySem.W.OpenLaw} {w : World} {K : Fg} {h : Heap} {mg : MG} {fa : Addr} (math : ∀ ns : List Int, ns.length ≤ 63 → m_law ⟨⟨ns⟩, ()⟩ = .ok true) (X : K.In h) (G : h.Ns mainGlobals mg) (hfa : mg "law" = some (.ref fa))
    {C_Unread : Addr}
    {C_TooMany : Addr}
    {C_ColonnadeError : Addr}
    {f0 : Addr} {od0 an0 : Option Addr} {sl0 : Array (Option Value)} {oc0 kV0 dc0 pm0 cd0 ct0 : Value}
    {f1 : Addr} {od1 an1 : Option Addr} {sl1 : Array (Option Value)} {oc1 kV1 dc1 pm1 cd1 ct1 : Value}
    {f2 : Addr} {od2 an2 : Option Addr} {sl2 : Array (Option Value)} {oc2 kV2 dc2 pm2 cd2 ct2 : Value}
    {f3 : Addr} {od3 an3 : Option Addr} {sl3 : Array (Option Value)} {oc3 kV3 dc3 pm3 cd3 ct3 : Value}
    {f4 : Addr} {od4 an4 : Option Addr} {sl4 : Array (Option Value)} {oc4 kV4 dc4 pm4 cd4 ct4 : Value}
    {f5 : Addr} {od5 an5 : Option Addr} {sl5 : Array (Option Value)} {oc5 kV5 dc5 pm5 cd5 ct5 : Value}
    {f6 : Addr} {od6 an6 : Option Addr} {sl6 : Array (Option Value)} {oc6 kV6 dc6 pm6 cd6 ct6 : Value}
    {f7 : Addr} {od7 an7 : Option Addr} {sl7 : Array (Option Value)} {oc7 kV7 dc7 pm7 cd7 ct7 : Value}
    {f8 : Addr} {od8 an8 : Option Addr} {sl8 : Array (Option Value)} {oc8 kV8 dc8 pm8 cd8 ct8 : Value}
    {f9 : Addr} {od9 an9 : Option Addr} {sl9 : Array (Option Value)} {oc9 kV9 dc9 pm9 cd9 ct9 : Value}
    {f10 : Addr} {od10 an10 : Option Addr} {sl10 : Array (Option Value)} {oc10 kV10 dc10 pm10 cd10 ct10 : Value}
    {f11 : Addr} {od11 an11 : Option Addr} {sl11 : Array (Option Value)} {oc11 kV11 dc11 pm11 cd11 ct11 : Value}
    {f12 : Addr} {od12 an12 : Option Addr} {sl12 : Array (Option Value)} {oc12 kV12 dc12 pm12 cd12 ct12 : Value}
    {f13 : Addr} {od13 an13 : Option Addr} {sl13 : Array (Option Value)} {oc13 kV13 dc13 pm13 cd13 ct13 : Value}
    {f14 : Addr} {od14 an14 : Option Addr} {sl14 : Array (Option Value)} {oc14 kV14 dc14 pm14 cd14 ct14 : Value}
    {f15 : Addr} {od15 an15 : Option Addr} {sl15 : Array (Option Value)} {oc15 kV15 dc15 pm15 cd15 ct15 : Value}
    {f16 : Addr} {od16 an16 : Option Addr} {sl16 : Array (Option Value)} {oc16 kV16 dc16 pm16 cd16 ct16 : Value}
    {f17 : Addr} {od17 an17 : Option Addr} {sl17 : Array (Option Value)} {oc17 kV17 dc17 pm17 cd17 ct17 : Value}
    {f18 : Addr} {od18 an18 : Option Addr} {sl18 : Array (Option Value)} {oc18 kV18 dc18 pm18 cd18 ct18 : Value}
    {f19 : Addr} {od19 an19 : Option Addr} {sl19 : Array (Option Value)} {oc19 kV19 dc19 pm19 cd19 ct19 : Value}
    {f20 : Addr} {od20 an20 : Option Addr} {sl20 : Array (Option Value)} {oc20 kV20 dc20 pm20 cd20 ct20 : Value}
    {f21 : Addr} {od21 an21 : Option Addr} {sl21 : Array (Option Value)} {oc21 kV21 dc21 pm21 cd21 ct21 : Value}
    {aT_SIGNS : Addr} {odT_SIGNS : Option Addr} {nT_SIGNS : Nat} {slT_SIGNS : Array (Option Value)} {tkT_SIGNS_0 tkT_SIGNS_1 tkT_SIGNS_2 tkT_SIGNS_3 tkT_SIGNS_4 tkT_SIGNS_5 : Tok}
    {tk_FIGURES : Tok}
    {tk_LETTERS : Tok}
    {nm_Unread q_Unread : Str} {N_Unread : Addr} {bs_Unread : List Value} {sn_Unread : List Str} {sub_Unread : List Value} {ab_Unread : Bool} {col_Unread : Option Bool} {dd_Unread : Option Addr} {m0_Unread m1_Unread m2_Unread m3_Unread m5_Unread : Option Value}
    {fI_Unread : Addr} {odI_Unread anI_Unread : Option Addr} {slI_Unread : Array (Option Value)} {ocI_Unread kVI_Unread dcI_Unread pmI_Unread cdI_Unread ctI_Unread : Value}
    (a_Unread : PySem.W.nsIn K mainGlobals "Unread" = some (some (.ref C_Unread)))
    (a_TooMany : PySem.W.nsIn K mainGlobals "TooMany" = some (some (.ref C_TooMany)))
    (a_ColonnadeError : PySem.W.nsIn K mainGlobals "ColonnadeError" = some (some (.ref C_ColonnadeError)))
    (a0 : PySem.W.nsIn K mainGlobals "_stretch_end" = some (some (.ref f0)))
    (l0 : K.lookup f0 = some ⟨oc0, od0, .func (PySem.W.fnOf "_stretch_end" "_stretch_end" (defArgs s__stretch_end) (defBody s__stretch_end) (defScope s__stretch_end) .none kV0 dc0 pm0 an0 cd0 ct0), sl0⟩)
    (c0 : PySem.W.codeIn K cd0 "_stretch_end" = true)
    (k0 : PySem.W.keepIn K (.ref f0) = true)
    (a1 : PySem.W.nsIn K mainGlobals "_law_digit" = some (some (.ref f1)))
    (l1 : K.lookup f1 = some ⟨oc1, od1, .func (PySem.W.fnOf "_law_digit" "_law_digit" (defArgs s__law_digit) (defBody s__law_digit) (defScope s__law_digit) .none kV1 dc1 pm1 an1 cd1 ct1), sl1⟩)
    (c1 : PySem.W.codeIn K cd1 "_law_digit" = true)
    (k1 : PySem.W.keepIn K (.ref f1) = true)
    (a2 : PySem.W.nsIn K mainGlobals "_law_letters" = some (some (.ref f2)))
    (l2 : K.lookup f2 = some ⟨oc2, od2, .func (PySem.W.fnOf "_law_letters" "_law_letters" (defArgs s__law_letters) (defBody s__law_letters) (defScope s__law_letters) .none kV2 dc2 pm2 an2 cd2 ct2), sl2⟩)
    (c2 : PySem.W.codeIn K cd2 "_law_letters" = true)
    (k2 : PySem.W.keepIn K (.ref f2) = true)
    (a3 : PySem.W.nsIn K mainGlobals "_law_strange" = some (some (.ref f3)))
    (l3 : K.lookup f3 = some ⟨oc3, od3, .func (PySem.W.fnOf "_law_strange" "_law_strange" (defArgs s__law_strange) (defBody s__law_strange) (defScope s__law_strange) .none kV3 dc3 pm3 an3 cd3 ct3), sl3⟩)
    (c3 : PySem.W.codeIn K cd3 "_law_strange" = true)
    (k3 : PySem.W.keepIn K (.ref f3) = true)
    (a4 : PySem.W.nsIn K mainGlobals "_law_keys" = some (some (.ref f4)))
    (l4 : K.lookup f4 = some ⟨oc4, od4, .func (PySem.W.fnOf "_law_keys" "_law_keys" (defArgs s__law_keys) (defBody s__law_keys) (defScope s__law_keys) .none kV4 dc4 pm4 an4 cd4 ct4), sl4⟩)
    (c4 : PySem.W.codeIn K cd4 "_law_keys" = true)
    (k4 : PySem.W.keepIn K (.ref f4) = true)
    (a5 : PySem.W.nsIn K mainGlobals "_law_signs" = some (some (.ref f5)))
    (l5 : K.lookup f5 = some ⟨oc5, od5, .func (PySem.W.fnOf "_law_signs" "_law_signs" (defArgs s__law_signs) (defBody s__law_signs) (defScope s__law_signs) .none kV5 dc5 pm5 an5 cd5 ct5), sl5⟩)
    (c5 : PySem.W.codeIn K cd5 "_law_signs" = true)
    (k5 : PySem.W.keepIn K (.ref f5) = true)
    (a6 : PySem.W.nsIn K mainGlobals "_law_stretch" = some (some (.ref f6)))
    (l6 : K.lookup f6 = some ⟨oc6, od6, .func (PySem.W.fnOf "_law_stretch" "_law_stretch" (defArgs s__law_stretch) (defBody s__law_stretch) (defScope s__law_stretch) .none kV6 dc6 pm6 an6 cd6 ct6), sl6⟩)
    (c6 : PySem.W.codeIn K cd6 "_law_stretch" = true)
    (k6 : PySem.W.keepIn K (.ref f6) = true)
    (a7 : PySem.W.nsIn K mainGlobals "_law_right" = some (some (.ref f7)))
    (l7 : K.lookup f7 = some ⟨oc7, od7, .func (PySem.W.fnOf "_law_right" "_law_right" (defArgs s__law_right) (defBody s__law_right) (defScope s__law_right) .none kV7 dc7 pm7 an7 cd7 ct7), sl7⟩)
    (c7 : PySem.W.codeIn K cd7 "_law_right" = true)
    (k7 : PySem.W.keepIn K (.ref f7) = true)
    (a8 : PySem.W.nsIn K mainGlobals "_word_end" = some (some (.ref f8)))
    (l8 : K.lookup f8 = some ⟨oc8, od8, .func (PySem.W.fnOf "_word_end" "_word_end" (defArgs s__word_end) (defBody s__word_end) (defScope s__word_end) .none kV8 dc8 pm8 an8 cd8 ct8), sl8⟩)
    (c8 : PySem.W.codeIn K cd8 "_word_end" = true)
    (k8 : PySem.W.keepIn K (.ref f8) = true)
    (a9 : PySem.W.nsIn K mainGlobals "_law_drawn" = some (some (.ref f9)))
    (l9 : K.lookup f9 = some ⟨oc9, od9, .func (PySem.W.fnOf "_law_drawn" "_law_drawn" (defArgs s__law_drawn) (defBody s__law_drawn) (defScope s__law_drawn) .none kV9 dc9 pm9 an9 cd9 ct9), sl9⟩)
    (c9 : PySem.W.codeIn K cd9 "_law_drawn" = true)
    (k9 : PySem.W.keepIn K (.ref f9) = true)
    (a10 : PySem.W.nsIn K mainGlobals "_law_one" = some (some (.ref f10)))
    (l10 : K.lookup f10 = some ⟨oc10, od10, .func (PySem.W.fnOf "_law_one" "_law_one" (defArgs s__law_one) (defBody s__law_one) (defScope s__law_one) .none kV10 dc10 pm10 an10 cd10 ct10), sl10⟩)
    (c10 : PySem.W.codeIn K cd10 "_law_one" = true)
    (k10 : PySem.W.keepIn K (.ref f10) = true)
    (a11 : PySem.W.nsIn K mainGlobals "_law_raw" = some (some (.ref f11)))
    (l11 : K.lookup f11 = some ⟨oc11, od11, .func (PySem.W.fnOf "_law_raw" "_law_raw" (defArgs s__law_raw) (defBody s__law_raw) (defScope s__law_raw) .none kV11 dc11 pm11 an11 cd11 ct11), sl11⟩)
    (c11 : PySem.W.codeIn K cd11 "_law_raw" = true)
    (k11 : PySem.W.keepIn K (.ref f11) = true)
    (a12 : PySem.W.nsIn K mainGlobals "_law_size" = some (some (.ref f12)))
    (l12 : K.lookup f12 = some ⟨oc12, od12, .func (PySem.W.fnOf "_law_size" "_law_size" (defArgs s__law_size) (defBody s__law_size) (defScope s__law_size) .none kV12 dc12 pm12 an12 cd12 ct12), sl12⟩)
    (c12 : PySem.W.codeIn K cd12 "_law_size" = true)
    (k12 : PySem.W.keepIn K (.ref f12) = true)
    (a13 : PySem.W.nsIn K mainGlobals "split_words" = some (some (.ref f13)))
    (l13 : K.lookup f13 = some ⟨oc13, od13, .func (PySem.W.fnOf "split_words" "split_words" (defArgs s_split_words) (defBody s_split_words) (defScope s_split_words) .none kV13 dc13 pm13 an13 cd13 ct13), sl13⟩)
    (c13 : PySem.W.codeIn K cd13 "split_words" = true)
    (k13 : PySem.W.keepIn K (.ref f13) = true)
    (a14 : PySem.W.nsIn K mainGlobals "_law_word" = some (some (.ref f14)))
    (l14 : K.lookup f14 = some ⟨oc14, od14, .func (PySem.W.fnOf "_law_word" "_law_word" (defArgs s__law_word) (defBody s__law_word) (defScope s__law_word) .none kV14 dc14 pm14 an14 cd14 ct14), sl14⟩)
    (c14 : PySem.W.codeIn K cd14 "_law_word" = true)
    (k14 : PySem.W.keepIn K (.ref f14) = true)
    (a15 : PySem.W.nsIn K mainGlobals "_law_join" = some (some (.ref f15)))
    (l15 : K.lookup f15 = some ⟨oc15, od15, .func (PySem.W.fnOf "_law_join" "_law_join" (defArgs s__law_join) (defBody s__law_join) (defScope s__law_join) .none kV15 dc15 pm15 an15 cd15 ct15), sl15⟩)
    (c15 : PySem.W.codeIn K cd15 "_law_join" = true)
    (k15 : PySem.W.keepIn K (.ref f15) = true)
    (a16 : PySem.W.nsIn K mainGlobals "_law_divided" = some (some (.ref f16)))
    (l16 : K.lookup f16 = some ⟨oc16, od16, .func (PySem.W.fnOf "_law_divided" "_law_divided" (defArgs s__law_divided) (defBody s__law_divided) (defScope s__law_divided) .none kV16 dc16 pm16 an16 cd16 ct16), sl16⟩)
    (c16 : PySem.W.codeIn K cd16 "_law_divided" = true)
    (k16 : PySem.W.keepIn K (.ref f16) = true)
    (a17 : PySem.W.nsIn K mainGlobals "_law_spoilt" = some (some (.ref f17)))
    (l17 : K.lookup f17 = some ⟨oc17, od17, .func (PySem.W.fnOf "_law_spoilt" "_law_spoilt" (defArgs s__law_spoilt) (defBody s__law_spoilt) (defScope s__law_spoilt) .none kV17 dc17 pm17 an17 cd17 ct17), sl17⟩)
    (c17 : PySem.W.codeIn K cd17 "_law_spoilt" = true)
    (k17 : PySem.W.keepIn K (.ref f17) = true)
    (a18 : PySem.W.nsIn K mainGlobals "_law_told" = some (some (.ref f18)))
    (l18 : K.lookup f18 = some ⟨oc18, od18, .func (PySem.W.fnOf "_law_told" "_law_told" (defArgs s__law_told) (defBody s__law_told) (defScope s__law_told) .none kV18 dc18 pm18 an18 cd18 ct18), sl18⟩)
    (c18 : PySem.W.codeIn K cd18 "_law_told" = true)
    (k18 : PySem.W.keepIn K (.ref f18) = true)
    (a19 : PySem.W.nsIn K mainGlobals "_law_told" = some (some (.ref f19)))
    (l19 : K.lookup f19 = some ⟨oc19, od19, .func (PySem.W.fnOf "_law_told" "_law_told" (defArgs s_law_told_at_T) (defBody s_law_told_at_T) (defScope s_law_told_at_T) .none kV19 dc19 pm19 an19 cd19 ct19), sl19⟩)
    (c19 : PySem.W.codeIn K cd19 "_law_told" = true)
    (k19 : PySem.W.keepIn K (.ref f19) = true)
    (a20 : PySem.W.nsIn K mainGlobals "_law_alone" = some (some (.ref f20)))
    (l20 : K.lookup f20 = some ⟨oc20, od20, .func (PySem.W.fnOf "_law_alone" "_law_alone" (defArgs s__law_alone) (defBody s__law_alone) (defScope s__law_alone) .none kV20 dc20 pm20 an20 cd20 ct20), sl20⟩)
    (c20 : PySem.W.codeIn K cd20 "_law_alone" = true)
    (k20 : PySem.W.keepIn K (.ref f20) = true)
    (a21 : PySem.W.nsIn K mainGlobals "law" = some (some (.ref f21)))
    (l21 : K.lookup f21 = some ⟨oc21, od21, .func (PySem.W.fnOf "law" "law" (defArgs s_law) (defBody s_law) (defScope s_law) .none kV21 dc21 pm21 an21 cd21 ct21), sl21⟩)
    (c21 : PySem.W.codeIn K cd21 "law" = true)
    (k21 : PySem.W.keepIn K (.ref f21) = true)
    (y_len : PySem.W.nsIn K mainGlobals "len" = some none)
    (y_int : PySem.W.nsIn K mainGlobals "int" = some none)
    (y_bool : PySem.W.nsIn K mainGlobals "bool" = some none)
    (y_isinstance : PySem.W.nsIn K mainGlobals "isinstance" = some none)
    (yT_SIGNS : PySem.W.nsIn K mainGlobals "SIGNS" = some (some (.ref aT_SIGNS)))
    (lT_SIGNS : K.lookup aT_SIGNS = some ⟨.type "tuple", odT_SIGNS, .seq #[.str (PySem.Str.ofString "<>") tkT_SIGNS_0, .str (PySem.Str.ofString "<=") tkT_SIGNS_1, .str (PySem.Str.ofString ">=") tkT_SIGNS_2, .str (PySem.Str.ofString "=") tkT_SIGNS_3, .str (PySem.Str.ofString "<") tkT_SIGNS_4, .str (PySem.Str.ofString ">") tkT_SIGNS_5] nT_SIGNS, slT_SIGNS⟩)
    (y_g_FIGURES : PySem.W.nsIn K mainGlobals "FIGURES" = some (some (.str (PySem.Str.ofString "0123456789") tk_FIGURES)))
    (y_g_LETTERS : PySem.W.nsIn K mainGlobals "LETTERS" = some (some (.str (PySem.Str.ofString "abcdefghijklmnopqrstuvwxyz") tk_LETTERS)))
    (y_range : PySem.W.nsIn K mainGlobals "range" = some none)
    (eC_Unread : PySem.W.subIn K (.ref C_Unread) (.type "BaseException") = some true)
    (tC_Unread : PySem.W.typeIn K (.ref C_Unread) = some (.type "type"))
    (hC_Unread : PySem.W.hasDictIn K C_Unread = true)
    (xL_Unread : K.lookup C_Unread = some (excClassObj nm_Unread q_Unread C_Unread N_Unread bs_Unread [.ref C_ColonnadeError, .type "ValueError", .type "Exception", .type "BaseException", .type "object"] true sn_Unread sub_Unread ab_Unread col_Unread dd_Unread m0_Unread m1_Unread m2_Unread m3_Unread m5_Unread "ValueError.__new__"))
    (sa_Unread : PySem.W.findIn K (.ref C_Unread) "__setattr__" = some (some (.builtin "object.__setattr__")))
    (kC_Unread : PySem.W.keepIn K (.ref C_Unread) = true)
    (nf_Unread_at : PySem.W.findIn K (.ref C_Unread) "at" = some none)
    (i_Unread : PySem.W.findIn K (.ref C_Unread) "__init__" = some (some (.ref fI_Unread)))
    (t_Unread : PySem.W.typeIn K (.ref fI_Unread) = some (.type "function"))
    (lI_Unread : K.lookup fI_Unread = some ⟨ocI_Unread, odI_Unread, .func (PySem.W.fnOf "__init__" "Unread.__init__" (defArgs s_init_Unread) (defBody s_init_Unread) (defScope s_init_Unread) .none kVI_Unread dcI_Unread pmI_Unread anI_Unread cdI_Unread ctI_Unread), slI_Unread⟩)
    (cI_Unread : PySem.W.codeIn K cdI_Unread "Unread.__init__" = true)
    (kI_Unread : PySem.W.keepIn K (.ref fI_Unread) = true)
    (ga_Unread : PySem.W.findIn K (.ref C_Unread) "__getattribute__" = some (some (.builtin "BaseException.__getattribute__")))
    (gg_Unread : PySem.W.findIn K (.ref C_Unread) "__getattr__" = some none)
    (sC_Unread : PySem.W.subIn K (.ref C_Unread) (.ref C_Unread) = some true)
    (cc_Unread : PySem.W.findIn K (.ref C_Unread) "__class__" = some (some (.builtin "object.__class__")))
    (cn : PySem.W.specialIn K (.builtin "object.__class__") "__get__" = some (some (.builtin "getset_descriptor.__get__")))
    (ct : PySem.W.takesIn K (.builtin "object.__class__") = some true)
    (mo_Unread : PySem.W.mroIn K C_Unread (.type "object") = some true)
    (k_Unread_Unread : PySem.W.kitOne K (.ref C_Unread) (.ref C_Unread) = some true)
    (k_Unread_TooMany : PySem.W.kitOne K (.ref C_Unread) (.ref C_TooMany) = some false)
    (kb_Unread_ValueError : PySem.W.kitOne K (.ref C_Unread) (.type "ValueError") = some true)
    (y_ValueError : PySem.W.nsIn K mainGlobals "ValueError" = some none)
    (eC_ColonnadeError : PySem.W.subIn K (.ref C_ColonnadeError) (.type "BaseException") = some true)
    (tC_ColonnadeError : PySem.W.typeIn K (.ref C_ColonnadeError) = some (.type "type"))
    (hC_ColonnadeError : PySem.W.hasDictIn K C_ColonnadeError = true)
    (s2_Unread_ColonnadeError : PySem.W.subIn K (.ref C_Unread) (.ref C_ColonnadeError) = some true)
    (y_abs : PySem.W.nsIn K mainGlobals "abs" = some none) :
    ∃ fd : FuncData, (∀ (s : Shared) (v : Value), BindsTo s fd ⟨[v], []⟩ [("script", v)]) ∧ ∀ base : Heap, K.In base → base.Ns mainGlobals mg → FnOk l.prog w K mg base CX0 5 fa fd ["script"] (spLaw K 63) := by
  have e := hfa.symm.trans (PySem.W.mg_of X G a21)
  cases e
  have m_Unread := PySem.W.mg_of X G a_Unread
  have m_TooMany := PySem.W.mg_of X G a_TooMany
  have m_ColonnadeError := PySem.W.mg_of X G a_ColonnadeError
  have z_len := PySem.W.mg_none_of X G y_len
  have z_int := PySem.W.mg_none_of X G y_int
  have z_bool := PySem.W.mg_none_of X G y_bool
  have z_isinstance := PySem.W.mg_none_of X G y_isinstance
  have g_SIGNS : GlobT K mg "SIGNS" [PySem.Str.ofString "<>", PySem.Str.ofString "<=", PySem.Str.ofString ">=", PySem.Str.ofString "=", PySem.Str.ofString "<", PySem.Str.ofString ">"] := ⟨aT_SIGNS, PySem.W.mg_of X G yT_SIGNS, _, _, _, lT_SIGNS, rfl, rfl, by show 6 ≤ sizeLine; rw [sizeLine_eq]; decide, .cons ⟨_, rfl⟩ (.cons ⟨_, rfl⟩ (.cons ⟨_, rfl⟩ (.cons ⟨_, rfl⟩ (.cons ⟨_, rfl⟩ (.cons ⟨_, rfl⟩ (.nil))))))⟩
  have g_FIGURES : GlobV mg "FIGURES" (.str (PySem.Str.ofString "0123456789")) := ⟨_, PySem.W.mg_of X G y_g_FIGURES, ⟨_, rfl⟩⟩
  have g_LETTERS : GlobV mg "LETTERS" (.str (PySem.Str.ofString "abcdefghijklmnopqrstuvwxyz")) := ⟨_, PySem.W.mg_of X G y_g_LETTERS, ⟨_, rfl⟩⟩
  have z_range := PySem.W.mg_none_of X G y_range
  have O_Unread : OexC K C_Unread := ⟨⟨_, _, _, _, _, _, _, _, _, _, _, _, _, _, _, xL_Unread, by first | rfl | decide +kernel⟩, sa_Unread, eC_Unread, tC_Unread, kC_Unread⟩
  have FI_Unread := fun_mk (st := s_init_Unread) lI_Unread cI_Unread kI_Unread
  have R_Unread : ∀ base, ErrAt l.prog w K mg base 1 "Unread" "at" := fun base => ⟨_, _, _, ["self", "at"], m_Unread, O_Unread, i_Unread, t_Unread, def_O FI_Unread sc_init_Unread rfl O_Unread nf_Unread_at (.inl rfl) (.inl rfl) (by decide) (by decide) (by decide) (by decide), FI_Unread.binds (ps := ["self", "at"]) fun _ _ _ _ _ _ us hl => match us, hl with | [_, _], _ => rfl⟩
  have xf_Unread : XfC K C_Unread := ⟨ga_Unread, gg_Unread, eC_Unread, hC_Unread⟩
  have ex_Unread : PySem.W.exmOne K (.ref C_Unread) (.ref C_Unread) = some true := PySem.W.exm_ref eC_Unread hC_Unread tC_Unread sC_Unread
  have ec_Unread : ExcC K C_Unread := ⟨ga_Unread, gg_Unread, eC_Unread, hC_Unread, cc_Unread, cn, ct, mo_Unread⟩
  have z_ValueError := PySem.W.mg_none_of X G y_ValueError
  have ex2_Unread_ColonnadeError : PySem.W.exmOne K (.ref C_Unread) (.ref C_ColonnadeError) = some true := PySem.W.exm_ref eC_ColonnadeError hC_ColonnadeError tC_ColonnadeError s2_Unread_ColonnadeError
  have z_abs := PySem.W.mg_none_of X G y_abs
  have F0 := fun_mk (st := s__stretch_end) l0 c0 k0
  have b0 := F0.binds (ps := ["text", "start", "letters"]) fun _ _ _ _ _ _ us hl => match us, hl with | [_, _, _], _ => rfl
  have D__stretch_end : ∀ base, DefAt l.prog w K mg base CX0 1 "_stretch_end" ["text", "start", "letters"] (spP K mg m_stretch_end) := fun base => ⟨_, _, ok__stretch_end F0 (z_len := z_len), PySem.W.mg_of X G a0, k0, b0⟩
  have F1 := fun_mk (st := s__law_digit) l1 c1 k1
  have b1 := F1.binds (ps := ["pool", "many"]) fun _ _ _ _ _ _ us hl => match us, hl with | [_, _], _ => rfl
  have D__law_digit : ∀ base, DefAt l.prog w K mg base CX0 1 "_law_digit" ["pool", "many"] (spI K mg m_law_digit) := fun base => ⟨_, _, ok__law_digit F1 (z_int := z_int) (z_len := z_len), PySem.W.mg_of X G a1, k1, b1⟩
  have F2 := fun_mk (st := s__law_letters) l2 c2 k2
  have b2 := F2.binds (ps := []) fun _ _ _ _ _ _ us hl => match us, hl with | [], _ => rfl
  have D__law_letters : ∀ base, DefAt l.prog w K mg base CX0 1 "_law_letters" [] (spP K mg m_law_letters) := fun base => ⟨_, _, ok__law_letters F2 , PySem.W.mg_of X G a2, k2, b2⟩
  have F3 := fun_mk (st := s__law_strange) l3 c3 k3
  have b3 := F3.binds (ps := []) fun _ _ _ _ _ _ us hl => match us, hl with | [], _ => rfl
  have D__law_strange : ∀ base, DefAt l.prog w K mg base CX0 1 "_law_strange" [] (spP K mg m_law_strange) := fun base => ⟨_, _, ok__law_strange F3 , PySem.W.mg_of X G a3, k3, b3⟩
  have F4 := fun_mk (st := s__law_keys) l4 c4 k4
  have b4 := F4.binds (ps := []) fun _ _ _ _ _ _ us hl => match us, hl with | [], _ => rfl
  have D__law_keys : ∀ base, DefAt l.prog w K mg base CX0 1 "_law_keys" [] (spP K mg m_law_keys) := fun base => ⟨_, _, ok__law_keys F4 , PySem.W.mg_of X G a4, k4, b4⟩
  have F5 := fun_mk (st := s__law_signs) l5 c5 k5
  have b5 := F5.binds (ps := []) fun _ _ _ _ _ _ us hl => match us, hl with | [], _ => rfl
  have D__law_signs : ∀ base, DefAt l.prog w K mg base CX0 1 "_law_signs" [] (spP K mg m_law_signs) := fun base => ⟨_, _, ok__law_signs F5 , PySem.W.mg_of X G a5, k5, b5⟩
  have F6 := fun_mk (st := s__law_stretch) l6 c6 k6
  have b6 := F6.binds (ps := ["text", "at", "signs"]) fun _ _ _ _ _ _ us hl => match us, hl with | [_, _, _], _ => rfl
  have D__law_stretch : ∀ base, DefAt l.prog w K mg base CX0 1 "_law_stretch" ["text", "at", "signs"] (spP K mg m_law_stretch) := fun base => ⟨_, _, ok__law_stretch F6 , PySem.W.mg_of X G a6, k6, b6⟩
  have F7 := fun_mk (st := s__law_right) l7 c7 k7
  have b7 := F7.binds (ps := ["told", "due"]) fun _ _ _ _ _ _ us hl => match us, hl with | [_, _], _ => rfl
  have D__law_right : ∀ base, DefAt l.prog w K mg base CX0 1 "_law_right" ["told", "due"] (spP K mg m_law_right) := fun base => ⟨_, _, ok__law_right F7 (z_bool := z_bool) (z_int := z_int) (z_isinstance := z_isinstance), PySem.W.mg_of X G a7, k7, b7⟩
  have F8 := fun_mk (st := s__word_end) l8 c8 k8
  have b8 := F8.binds (ps := ["text", "start"]) fun _ _ _ _ _ _ us hl => match us, hl with | [_, _], _ => rfl
  have D__word_end : ∀ base, DefAt l.prog w K mg base CX0 2 "_word_end" ["text", "start"] (spP K mg m_word_end) := fun base => ⟨_, _, ok__word_end F8 (g_SIGNS := g_SIGNS) (g_FIGURES := g_FIGURES) (D__stretch_end := D__stretch_end base) (g_LETTERS := g_LETTERS) (z_len := z_len), PySem.W.mg_of X G a8, k8, b8⟩
  have F9 := fun_mk (st := s__law_drawn) l9 c9 k9
  have b9 := F9.binds (ps := ["pool", "signs", "size"]) fun _ _ _ _ _ _ us hl => match us, hl with | [_, _, _], _ => rfl
  have D__law_drawn : ∀ base, DefAt l.prog w K mg base CX0 2 "_law_drawn" ["pool", "signs", "size"] (spI K mg m_law_drawn) := fun base => ⟨_, _, ok__law_drawn F9 (D__law_digit := D__law_digit base) (z_len := z_len) (z_range := z_range), PySem.W.mg_of X G a9, k9, b9⟩
  have F10 := fun_mk (st := s__law_one) l10 c10 k10
  have b10 := F10.binds (ps := ["last", "word"]) fun _ _ _ _ _ _ us hl => match us, hl with | [_, _], _ => rfl
  have D__law_one : ∀ base, DefAt l.prog w K mg base CX0 2 "_law_one" ["last", "word"] (spP K mg m_law_one) := fun base => ⟨_, _, ok__law_one F10 (D__law_letters := D__law_letters base), PySem.W.mg_of X G a10, k10, b10⟩
  have F11 := fun_mk (st := s__law_raw) l11 c11 k11
  have b11 := F11.binds (ps := ["pool"]) fun _ _ _ _ _ _ us hl => match us, hl with | [_], _ => rfl
  have D__law_raw : ∀ base, DefAt l.prog w K mg base CX0 2 "_law_raw" ["pool"] (spI K mg m_law_raw) := fun base => ⟨_, _, ok__law_raw F11 (D__law_letters := D__law_letters base) (D__law_strange := D__law_strange base) (D__law_digit := D__law_digit base) (z_len := z_len) (z_range := z_range), PySem.W.mg_of X G a11, k11, b11⟩
  have F12 := fun_mk (st := s__law_size) l12 c12 k12
  have b12 := F12.binds (ps := ["text", "at"]) fun _ _ _ _ _ _ us hl => match us, hl with | [_, _], _ => rfl
  have D__law_size : ∀ base, DefAt l.prog w K mg base CX0 2 "_law_size" ["text", "at"] (spP K mg m_law_size) := fun base => ⟨_, _, ok__law_size F12 (D__law_stretch := D__law_stretch base) (D__law_letters := D__law_letters base), PySem.W.mg_of X G a12, k12, b12⟩
  have F13 := fun_mk (st := s_split_words) l13 c13 k13
  have b13 := F13.binds (ps := ["text"]) fun _ _ _ _ _ _ us hl => match us, hl with | [_], _ => rfl
  have D_split_words : ∀ base, DefAt l.prog w K mg base (L2N.CX l.prog w) 3 "split_words" ["text"] (spXF K mg m_split_words) := fun base => ⟨_, _, ok_split_words F13 (D__word_end := D__word_end base) (R_Unread := R_Unread base) (z_len := z_len), PySem.W.mg_of X G a13, k13, b13⟩
  have F14 := fun_mk (st := s__law_word) l14 c14 k14
  have b14 := F14.binds (ps := ["pool"]) fun _ _ _ _ _ _ us hl => match us, hl with | [_], _ => rfl
  have D__law_word : ∀ base, DefAt l.prog w K mg base CX0 3 "_law_word" ["pool"] (spI K mg m_law_word) := fun base => ⟨_, _, ok__law_word F14 (D__law_digit := D__law_digit base) (D__law_keys := D__law_keys base) (D__law_drawn := D__law_drawn base) (D__law_letters := D__law_letters base) (D__law_signs := D__law_signs base) (D__law_strange := D__law_strange base) (z_len := z_len), PySem.W.mg_of X G a14, k14, b14⟩
  have F15 := fun_mk (st := s__law_join) l15 c15 k15
  have b15 := F15.binds (ps := ["pool", "words"]) fun _ _ _ _ _ _ us hl => match us, hl with | [_, _], _ => rfl
  have D__law_join : ∀ base, DefAt l.prog w K mg base CX0 3 "_law_join" ["pool", "words"] (spI K mg m_law_join) := fun base => ⟨_, _, ok__law_join F15 (D__law_digit := D__law_digit base) (D__law_one := D__law_one base), PySem.W.mg_of X G a15, k15, b15⟩
  have F16 := fun_mk (st := s__law_divided) l16 c16 k16
  have b16 := F16.binds (ps := ["text"]) fun _ _ _ _ _ _ us hl => match us, hl with | [_], _ => rfl
  have D__law_divided : ∀ base, DefAt l.prog w K mg base CX0 3 "_law_divided" ["text"] (spP K mg m_law_divided) := fun base => ⟨_, _, ok__law_divided F16 (D__law_size := D__law_size base) (z_len := z_len) (z_range := z_range), PySem.W.mg_of X G a16, k16, b16⟩
  have F17 := fun_mk (st := s__law_spoilt) l17 c17 k17
  have b17 := F17.binds (ps := ["pool", "words", "at", "mode"]) fun _ _ _ _ _ _ us hl => match us, hl with | [_, _, _, _], _ => rfl
  have D__law_spoilt : ∀ base, DefAt l.prog w K mg base CX0 4 "_law_spoilt" ["pool", "words", "at", "mode"] (spI K mg m_law_spoilt) := fun base => ⟨_, _, ok__law_spoilt F17 (D__law_join := D__law_join base) (D__law_digit := D__law_digit base) (D__law_drawn := D__law_drawn base) (D__law_strange := D__law_strange base), PySem.W.mg_of X G a17, k17, b17⟩
  have F18 := fun_mk (st := s__law_told) l18 c18 k18
  have b18 := F18.binds (ps := ["text"]) fun _ _ _ _ _ _ us hl => match us, hl with | [_], _ => rfl
  have D__law_told : ∀ base, DefAt l.prog w K mg base CX0 4 "_law_told" ["text"] (spP K mg m_law_told) := fun base => ⟨_, _, ok__law_told F18 (D_split_words := D_split_words base) (m_Unread := m_Unread) (xf_Unread := xf_Unread) (nf_Unread_at := nf_Unread_at) (ex_Unread := ex_Unread), PySem.W.mg_of X G a18, k18, b18⟩
  have F19 := fun_mk (st := s_law_told_at_T) l19 c19 k19
  have b19 := F19.binds (ps := ["text"]) fun _ _ _ _ _ _ us hl => match us, hl with | [_], _ => rfl
  have DT_law_told_at_T : ∀ base, DefAt l.prog w K mg base CX0 4 "_law_told" ["text"] (spTold (PySem.Str.ofString "unread") (PySem.Str.ofString "words") K mg m_law_told_at_T) := fun base => ⟨_, _, ok_law_told_at_T F19 (D_split_words := D_split_words base) (m_Unread := m_Unread) (xf_Unread := xf_Unread) (nf_Unread_at := nf_Unread_at) (ex_Unread := ex_Unread), PySem.W.mg_of X G a19, k19, b19⟩
  have F20 := fun_mk (st := s__law_alone) l20 c20 k20
  have b20 := F20.binds (ps := ["text"]) fun _ _ _ _ _ _ us hl => match us, hl with | [_], _ => rfl
  have D__law_alone : ∀ base, DefAt l.prog w K mg base CX0 4 "_law_alone" ["text"] (spP K mg m_law_alone) := fun base => ⟨_, _, ok__law_alone F20 (D_split_words := D_split_words base) (m_Unread := m_Unread) (ec_Unread := ec_Unread) (k_Unread_Unread := k_Unread_Unread) (m_TooMany := m_TooMany) (k_Unread_TooMany := k_Unread_TooMany) (kb_Unread_ValueError := kb_Unread_ValueError) (z_ValueError := z_ValueError) (z_isinstance := z_isinstance) (ex2_Unread_ColonnadeError := ex2_Unread_ColonnadeError) (m_ColonnadeError := m_ColonnadeError), PySem.W.mg_of X G a20, k20, b20⟩
  have F21 := fun_mk (st := s_law) l21 c21 k21
  exact ⟨_, fun s v => .of_eq rfl, fun base _ _ => law_of (ok_law F21 (D__law_digit := D__law_digit base) (D__law_word := D__law_word base) (D__law_raw := D__law_raw base) (D__law_divided := D__law_divided base) (D__law_spoilt := D__law_spoilt base) (D__law_join := D__law_join base) (DT_law_told_at_T := DT_law_told_at_T base) (D__law_right := D__law_right base) (D__law_alone := D__law_alone base) (D__law_told := D__law_told base) (z_abs := z_abs) (z_int := z_int) (z_len := z_len) (z_range := z_range)) math⟩
end
end K28
open PySem PySem.W PyProof.Rows
set_option maxHeartbeats 0 in
theorem PySem.Challenge.cw_colonnade_k28_words_of_texts_holds : PySem.Challenge.rw_colonnade_k28_words_of_texts.Holds := by
  w_on; o_law; k_head; (case hw => w_witness2)
  k_fill
  refine L2.walk_of (l := PySem.Challenge.rw_colonnade_k28_words_of_texts) (n := 63) (k := 5) (x := "script") (CX := fun _ => L2.CX0) (sp := fun w => NF.spLaw _ 63) rfl (by decide) rfl ⟨rfl, by decide, by decide⟩ (fun w h Y => PySem.W.kIn_of Y) ?F (fun _ _ a ns hl _ hS => ⟨a, ns, rfl, hS, hl, fun _ => rfl⟩) (fun _ _ _ _ _ h => h)
  case F =>
    intro w mg fa h KX G hmg
    refine' K28.all_mk K28.math KX G hmg ?a_Unread ?a_TooMany ?a_ColonnadeError ?a0 ?l0 ?c0 ?k0 ?a1 ?l1 ?c1 ?k1 ?a2 ?l2 ?c2 ?k2 ?a3 ?l3 ?c3 ?k3 ?a4 ?l4 ?c4 ?k4 ?a5 ?l5 ?c5 ?k5 ?a6 ?l6 ?c6 ?k6 ?a7 ?l7 ?c7 ?k7 ?a8 ?l8 ?c8 ?k8 ?a9 ?l9 ?c9 ?k9 ?a10 ?l10 ?c10 ?k10 ?a11 ?l11 ?c11 ?k11 ?a12 ?l12 ?c12 ?k12 ?a13 ?l13 ?c13 ?k13 ?a14 ?l14 ?c14 ?k14 ?a15 ?l15 ?c15 ?k15 ?a16 ?l16 ?c16 ?k16 ?a17 ?l17 ?c17 ?k17 ?a18 ?l18 ?c18 ?k18 ?a19 ?l19 ?c19 ?k19 ?a20 ?l20 ?c20 ?k20 ?a21 ?l21 ?c21 ?k21 ?y_len ?y_int ?y_bool ?y_isinstance ?yT_SIGNS ?lT_SIGNS ?y_g_FIGURES ?y_g_LETTERS ?y_range ?eC_Unread ?tC_Unread ?hC_Unread ?xL_Unread ?sa_Unread ?kC_Unread ?nf_Unread_at ?i_Unread ?t_Unread ?lI_Unread ?cI_Unread ?kI_Unread ?ga_Unread ?gg_Unread ?sC_Unread ?cc_Unread ?cn ?ct ?mo_Unread ?k_Unread_Unread ?k_Unread_TooMany ?kb_Unread_ValueError ?y_ValueError ?eC_ColonnadeError ?tC_ColonnadeError ?hC_ColonnadeError ?s2_Unread_ColonnadeError ?y_abs
    (case a_Unread => k_is)
    (case a_TooMany => k_is)
    (case a_ColonnadeError => k_is)
    (case a0 => k_is)
    (case l0 => k_is)
    (case c0 => k_is)
    (case k0 => k_is)
    (case a1 => k_is)
    (case l1 => k_is)
    (case c1 => k_is)
    (case k1 => k_is)
    (case a2 => k_is)
    (case l2 => k_is)
    (case c2 => k_is)
    (case k2 => k_is)
    (case a3 => k_is)
    (case l3 => k_is)
    (case c3 => k_is)
    (case k3 => k_is)
    (case a4 => k_is)
    (case l4 => k_is)
    (case c4 => k_is)
    (case k4 => k_is)
    (case a5 => k_is)
    (case l5 => k_is)
    (case c5 => k_is)
    (case k5 => k_is)
    (case a6 => k_is)
    (case l6 => k_is)
    (case c6 => k_is)
    (case k6 => k_is)
    (case a7 => k_is)
    (case l7 => k_is)
    (case c7 => k_is)
    (case k7 => k_is)
    (case a8 => k_is)
    (case l8 => k_is)
    (case c8 => k_is)
    (case k8 => k_is)
    (case a9 => k_is)
    (case l9 => k_is)
    (case c9 => k_is)
    (case k9 => k_is)
    (case a10 => k_is)
    (case l10 => k_is)
    (case c10 => k_is)
    (case k10 => k_is)
    (case a11 => k_is)
    (case l11 => k_is)
    (case c11 => k_is)
    (case k11 => k_is)
    (case a12 => k_is)
    (case l12 => k_is)
    (case c12 => k_is)
    (case k12 => k_is)
    (case a13 => k_is)
    (case l13 => k_is)
    (case c13 => k_is)
    (case k13 => k_is)
    (case a14 => k_is)
    (case l14 => k_is)
    (case c14 => k_is)
    (case k14 => k_is)
    (case a15 => k_is)
    (case l15 => k_is)
    (case c15 => k_is)
    (case k15 => k_is)
    (case a16 => k_is)
    (case l16 => k_is)
    (case c16 => k_is)
    (case k16 => k_is)
    (case a17 => k_is)
    (case l17 => k_is)
    (case c17 => k_is)
    (case k17 => k_is)
    (case a18 => k_is)
    (case l18 => k_is)
    (case c18 => k_is)
    (case k18 => k_is)
    (case a19 => k_is)
    (case l19 => k_is)
    (case c19 => k_is)
    (case k19 => k_is)
    (case a20 => k_is)
    (case l20 => k_is)
    (case c20 => k_is)
    (case k20 => k_is)
    (case a21 => k_is)
    (case l21 => k_is)
    (case c21 => k_is)
    (case k21 => k_is)
    (case y_len => k_is)
    (case y_int => k_is)
    (case y_bool => k_is)
    (case y_isinstance => k_is)
    (case yT_SIGNS => k_is)
    (case lT_SIGNS => k_is)
    (case y_g_FIGURES => k_is)
    (case y_g_LETTERS => k_is)
    (case y_range => k_is)
    (case eC_Unread => k_is)
    (case tC_Unread => k_is)
    (case hC_Unread => k_is)
    (case xL_Unread => k_is)
    (case sa_Unread => k_is)
    (case kC_Unread => k_is)
    (case nf_Unread_at => k_is)
    (case i_Unread => k_is)
    (case t_Unread => k_is)
    (case lI_Unread => k_is)
    (case cI_Unread => k_is)
    (case kI_Unread => k_is)
    (case ga_Unread => k_is)
    (case gg_Unread => k_is)
    (case sC_Unread => first | rfl | k_is)
    (case cc_Unread => k_is)
    (case cn => k_is)
    (case ct => k_is)
    (case mo_Unread => k_is)
    (case k_Unread_Unread => first | kit_is | k_is)
    (case k_Unread_TooMany => first | kit_is | k_is)
    (case kb_Unread_ValueError => first | kit_is | k_is)
    (case y_ValueError => k_is)
    (case eC_ColonnadeError => k_is)
    (case tC_ColonnadeError => k_is)
    (case hC_ColonnadeError => k_is)
    (case s2_Unread_ColonnadeError => first | rfl | k_is)
    (case y_abs => k_is)
