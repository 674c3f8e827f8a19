import PyProof.Rows.All
import HandS.ForMost
import HandS.ForExc
import HandS.Walk
import HandS.Star
import HandS.WideBits
import HandS.IsInst
import HandS.RaiseMore
import HandS.ExcInitHot
import HandS.ExcIs
import HandS.ExcField
import HandS.WordsExc
import HandS.Wide
import HandS.Style
import HandS.TupAny
import KE.IntBitsLaws
import HandS.TupLe
import HandS.Conv
import HandS.Text
import HandS.StrMore
import HandS.Iter
import HandS.SlotsOwn
import HandS.Dict
import HandS.WordsDict
import HandS.SortRule
import PyProof.Rows.SortKeyStr
import HandS.SetKeys
import HandS.SetFor
import HandS.SortInts
import PyProof.TupleOfSeq
import HandS.Strs
import HandS.Defaults
import HandS.RevTup
import HandS.Rev
import HandS.GenList
import HandS.OwnIter
import HandS.ClsMeth
import Wide.All
import OpenK.AllK
import Wide.FinOn
import PySem.Challenge.RW_colonnade_k22_stretches_moved
set_option Elab.async false
set_option linter.all false
set_option maxRecDepth 100000
/-! Nf0: what a value stands for, owned objects, the state at a point, outcomes, and the normal forms of readings. -/
namespace NF
open PySem PySem.Spec PyProof.Rows L2

abbrev Fg := PySem.W.Frag
abbrev MG := Str → Option Value

/-! ### outcomes -/
inductive Res (α : Type) where
  | ok (a : α)
  | err (c : Str) (fs : List (Str × PyData))
  | bad
namespace Res
def bind {α β : Type} : Res α → (α → Res β) → Res β
  | .ok a, f => f a
  | .err c fs, _ => .err c fs
  | .bad, _ => .bad
def map {α β : Type} (m : Res α) (f : α → β) : Res β := m.bind fun a => .ok (f a)
@[simp] theorem bind_ok {α β : Type} (a : α) (f : α → Res β) : (Res.ok a).bind f = f a := rfl
@[simp] theorem bind_err {α β : Type} (c : Str) (fs : List (Str × PyData)) (f : α → Res β) : (Res.err c fs : Res α).bind f = .err c fs := rfl
@[simp] theorem bind_bad {α β : Type} (f : α → Res β) : (Res.bad : Res α).bind f = .bad := rfl
theorem bind_assoc {α β γ : Type} (m : Res α) (f : α → Res β) (g : β → Res γ) : (m.bind f).bind g = m.bind fun a => (f a).bind g := by cases m <;> rfl
end Res
/-- a condition that must hold -/
@[irreducible] def need (p : Prop) [Decidable p] {α : Type} (m : Res α) : Res α := if p then m else .bad

/-! bounds, so told that the kernel never counts down from them -/
def inB (k : Nat) : Int → Bool
  | .ofNat m => Nat.ble (m + 1) k
  | .negSucc m => Nat.ble (m + 1) k
theorem inB_iff {k : Nat} {n : Int} : inB k n = true ↔ -(k : Int) ≤ n ∧ n < k := by
  cases n with
  | ofNat m => show Nat.ble (m + 1) k = true ↔ _; rw [Nat.ble_eq]; simp only [Int.ofNat_eq_natCast]; omega
  | negSucc m => show Nat.ble (m + 1) k = true ↔ _; rw [Nat.ble_eq]; omega
/-- within 2^62, 2^63 either way -/
def Rg62 (n : Int) : Prop := -(2 ^ 62) ≤ n ∧ n < 2 ^ 62
def Rg63 (n : Int) : Prop := -(2 ^ 63) ≤ n ∧ n < 2 ^ 63
def Rg64 (n : Int) : Prop := -(2 ^ 64) < n ∧ n < 2 ^ 64
@[irreducible] def decRg62 (n : Int) : Decidable (Rg62 n) := decidable_of_iff (inB 4611686018427387904 n = true) (by rw [inB_iff]; unfold Rg62; omega)
instance (n : Int) : Decidable (Rg62 n) := decRg62 n
@[irreducible] def decRg63 (n : Int) : Decidable (Rg63 n) := decidable_of_iff (inB 9223372036854775808 n = true) (by rw [inB_iff]; unfold Rg63; omega)
instance (n : Int) : Decidable (Rg63 n) := decRg63 n
def posB (k : Nat) : Int → Bool
  | .ofNat m => Nat.ble (m + 1) k
  | .negSucc _ => false
theorem posB_iff {k : Nat} {n : Int} : posB k n = true ↔ 0 ≤ n ∧ n < k := by
  cases n with
  | ofNat m => show Nat.ble (m + 1) k = true ↔ _; rw [Nat.ble_eq]; simp only [Int.ofNat_eq_natCast]; omega
  | negSucc m => show false = true ↔ _; simp only [Bool.false_eq_true, false_iff]; omega
def Ps63 (n : Int) : Prop := 0 ≤ n ∧ n < 2 ^ 63
@[irreducible] def decPs63 (n : Int) : Decidable (Ps63 n) := decidable_of_iff (posB 9223372036854775808 n = true) (by rw [posB_iff]; unfold Ps63; omega)
instance (n : Int) : Decidable (Ps63 n) := decPs63 n
/-! ### what a value stands for -/
theorem same_rd {H H' : Hp} {a : Addr} {u : HO} (e : Same H H') (h : Rd H a u) : Rd H' a u := by
  rcases h with h | ⟨o, h⟩
  · exact .inl (e a _ h)
  · exact .inr ⟨o, e a _ h⟩
theorem same_t {K : Fg} {H H' : Hp} {a : Addr} {xs : List V} (e : Same H H') (h : SqT K H a xs) : SqT K H' a xs := by
  rcases h with h | h
  · exact .inl (same_rd e h)
  · exact .inr h
mutual
theorem dp_mono {K : Fg} {H H' : Hp} (e : Same H H') : ∀ {v : V} {d : PyData}, Dp K H v d → Dp K H' v d
  | _, _, .non => .non
  | _, _, .bl b => .bl b
  | _, _, .int i => .int i
  | _, _, .str x => .str x
  | _, _, .lst h hs => .lst (e.seq h) (dpAll_mono e hs)
  | _, _, .tup h hs => .tup (same_t e h) (dpAll_mono e hs)
theorem dpAll_mono {K : Fg} {H H' : Hp} (e : Same H H') : ∀ {v : List V} {d : List PyData}, DpAll K H v d → DpAll K H' v d
  | _, _, .nil => .nil
  | _, _, .cons h hs => .cons (dp_mono e h) (dpAll_mono e hs)
end

class Rep (α : Type) where
  rep : Fg → MG → Hp → V → α → Prop
  mono : ∀ {K : Fg} {mg : MG} {H H' : Hp} {v : V} {a : α}, Same H H' → rep K mg H v a → rep K mg H' v a
/-- what is the same in every heap -/
class Flat (α : Type) [Rep α] where
  enc : α → V
  iff : ∀ {K : Fg} {mg : MG} {H : Hp} {v : V} {a : α}, Rep.rep K mg H v a ↔ v = enc a
/-- plain data -/
class Data (α : Type) [Rep α] where
  toD : α → PyData
  dp : ∀ {K : Fg} {mg : MG} {H : Hp} {v : V} {a : α}, Rep.rep K mg H v a → Dp K H v (toD a)
open Data (toD)
instance : Rep Int := ⟨fun _ _ _ v a => v = .int a, fun _ h => h⟩
instance : Rep Bool := ⟨fun _ _ _ v a => v = .bl a, fun _ h => h⟩
instance : Rep Str := ⟨fun _ _ _ v a => v = .str a, fun _ h => h⟩
instance : Rep Unit := ⟨fun _ _ _ v _ => v = .non, fun _ h => h⟩
instance : Rep PyData := ⟨fun K _ H v a => Dp K H v a, fun e h => dp_mono e h⟩
instance : Flat Int := ⟨.int, Iff.rfl⟩
instance : Flat Bool := ⟨.bl, Iff.rfl⟩
instance : Flat Str := ⟨.str, Iff.rfl⟩
instance : Flat Unit := ⟨fun _ => .non, Iff.rfl⟩
instance : Data Int := ⟨.int, fun h => by subst h; exact .int _⟩
instance : Data Bool := ⟨.bool, fun h => by subst h; exact .bl _⟩
instance : Data Str := ⟨.str, fun h => by subst h; exact .str _⟩
instance : Data Unit := ⟨fun _ => .none, fun h => by subst h; exact .non⟩
instance : Data PyData := ⟨id, fun h => h⟩
abbrev Reps {α : Type} [Rep α] (K : Fg) (mg : MG) (H : Hp) : List V → List α → Prop := Paired (Rep.rep K mg H)
theorem Reps.mono {α : Type} [Rep α] {K : Fg} {mg : MG} {H H' : Hp} {vs : List V} {as : List α} (e : Same H H') (h : Reps K mg H vs as) : Reps K mg H' vs as := L2.Paired.mapP h fun _ _ r => Rep.mono e r
theorem reps_flat {α : Type} [Rep α] [Flat α] {K : Fg} {mg : MG} {H : Hp} : ∀ {vs : List V} {as : List α}, Reps K mg H vs as ↔ vs = as.map Flat.enc
  | [], [] => ⟨fun _ => rfl, fun _ => .nil⟩
  | [], _ :: _ => ⟨fun h => (nomatch h), fun h => by simp at h⟩
  | _ :: _, [] => ⟨fun h => (nomatch h), fun h => by simp at h⟩
  | v :: vs, a :: as => ⟨fun h => by
      cases h with
      | cons r t => rw [List.map_cons, (Flat.iff).mp r, (reps_flat).mp t],
    fun h => by
      rw [List.map_cons] at h
      injection h with h1 h2
      exact .cons ((Flat.iff).mpr h1) ((reps_flat).mpr h2)⟩

theorem Reps.length {α : Type} [Rep α] {K : Fg} {mg : MG} {H : Hp} {vs : List V} {as : List α} (h : Reps K mg H vs as) : vs.length = as.length := PySem.Paired.length h
theorem reps_get {α : Type} [Rep α] {K : Fg} {mg : MG} {H : Hp} : ∀ {vs : List V} {as : List α} {i : Nat} {a : α}, Reps K mg H vs as → as[i]? = some a → ∃ v, vs[i]? = some v ∧ Rep.rep K mg H v a
  | _, _, _, _, .nil, e => by simp at e
  | _, _, 0, _, .cons r _, e => by simp at e; subst e; exact ⟨_, rfl, r⟩
  | _, _, i + 1, a, .cons r t, e => by
    obtain ⟨u, h1, h2⟩ := reps_get (i := i) (a := a) t (by simpa using e)
    exact ⟨u, by simpa using h1, h2⟩
theorem reps_at {α : Type} [Rep α] {K : Fg} {mg : MG} {H : Hp} : ∀ {vs : List V} {as : List α} {i : Nat} {v : V}, Reps K mg H vs as → vs[i]? = some v → ∃ a, as[i]? = some a ∧ Rep.rep K mg H v a
  | _, _, _, _, .nil, e => by simp at e
  | _, _, 0, _, .cons r _, e => by simp at e; subst e; exact ⟨_, rfl, r⟩
  | _, _, i + 1, a, .cons r t, e => by
    obtain ⟨u, h1, h2⟩ := reps_at (i := i) (v := a) t (by simpa using e)
    exact ⟨u, by simpa using h1, h2⟩
theorem reps_append {α : Type} [Rep α] {K : Fg} {mg : MG} {H : Hp} : ∀ {vs ws : List V} {as bs : List α}, Reps K mg H vs as → Reps K mg H ws bs → Reps K mg H (vs ++ ws) (as ++ bs)
  | _, _, _, _, .nil, s => s
  | _, _, _, _, .cons r t, s => .cons r (reps_append t s)
theorem reps_take {α : Type} [Rep α] {K : Fg} {mg : MG} {H : Hp} : ∀ {vs : List V} {as : List α} (n : Nat), Reps K mg H vs as → Reps K mg H (vs.take n) (as.take n)
  | _, _, 0, _ => .nil
  | _, _, _ + 1, .nil => .nil
  | _, _, n + 1, .cons r t => .cons r (reps_take n t)
theorem reps_drop {α : Type} [Rep α] {K : Fg} {mg : MG} {H : Hp} : ∀ {vs : List V} {as : List α} (n : Nat), Reps K mg H vs as → Reps K mg H (vs.drop n) (as.drop n)
  | _, _, 0, r => r
  | _, _, _ + 1, .nil => .nil
  | _, _, n + 1, .cons _ t => reps_drop n t
theorem reps_set {α : Type} [Rep α] {K : Fg} {mg : MG} {H : Hp} {v : V} {a : α} (r : Rep.rep K mg H v a) : ∀ {vs : List V} {as : List α} (n : Nat), Reps K mg H vs as → Reps K mg H (vs.set n v) (as.set n a)
  | _, _, _, .nil => .nil
  | _, _, 0, .cons _ t => .cons r t
  | _, _, n + 1, .cons q t => .cons q (reps_set r n t)
theorem reps_dp {α : Type} [Rep α] [Data α] {K : Fg} {mg : MG} {H : Hp} : ∀ {vs : List V} {as : List α}, Reps K mg H vs as → DpAll K H vs (as.map toD)
  | _, _, .nil => .nil
  | _, _, .cons r t => .cons (Data.dp r) (reps_dp t)
/-- a list, a tuple of things of one kind, one of both -/
instance {α : Type} [Rep α] : Rep (List α) := ⟨fun K mg H v as => ∃ p vs, v = .ref p ∧ H p = some (.lst vs) ∧ Reps K mg H vs as, fun e ⟨p, vs, h1, h2, h3⟩ => ⟨p, vs, h1, e _ _ h2, h3.mono e⟩⟩
structure Tp (α : Type) where
  xs : List α
instance {α : Type} [Rep α] : Rep (Tp α) := ⟨fun K mg H v as => ∃ p vs, v = .ref p ∧ SqT K H p vs ∧ Reps K mg H vs as.xs, fun e ⟨p, vs, h1, h2, h3⟩ => ⟨p, vs, h1, same_t e h2, h3.mono e⟩⟩
inductive Sq (α : Type) where
  | l (xs : List α)
  | t (xs : List α)
def Sq.xs {α : Type} : Sq α → List α
  | .l xs => xs
  | .t xs => xs
instance {α : Type} [Rep α] : Rep (Sq α) where
  rep K mg H v as := match as with
    | .l xs => Rep.rep K mg H v xs
    | .t xs => Rep.rep K mg H v (Tp.mk xs)
  mono {K mg H H' v a} e h := by
    cases a with
    | l xs => exact Rep.mono (α := List α) e h
    | t xs => exact Rep.mono (α := Tp α) e h
instance {α : Type} [Rep α] [Data α] : Data (List α) := ⟨fun xs => .list (xs.map toD), fun ⟨p, vs, h1, h2, h3⟩ => by subst h1; exact .lst (.of h2) (reps_dp h3)⟩
instance {α : Type} [Rep α] [Data α] : Data (Tp α) := ⟨fun xs => .tuple (xs.xs.map toD), fun ⟨p, vs, h1, h2, h3⟩ => by subst h1; exact .tup h2 (reps_dp h3)⟩
instance {α : Type} [Rep α] [Data α] : Data (Sq α) := ⟨fun | .l xs => toD xs | .t xs => toD (Tp.mk xs), fun {K mg H v a} h => by
  cases a with
  | l xs => exact Data.dp (α := List α) h
  | t xs => exact Data.dp (α := Tp α) h⟩
/-- tuples of two, three, four -/
instance {α β : Type} [Rep α] [Rep β] : Rep (α × β) := ⟨fun K mg H v t => ∃ p a b, v = .ref p ∧ SqT K H p [a, b] ∧ Rep.rep K mg H a t.1 ∧ Rep.rep K mg H b t.2, fun e ⟨p, a, b, h1, h2, h3, h4⟩ => ⟨p, a, b, h1, same_t e h2, Rep.mono e h3, Rep.mono e h4⟩⟩
instance {α β : Type} [Rep α] [Rep β] [Data α] [Data β] : Data (α × β) := ⟨fun t => .tuple [toD t.1, toD t.2], fun ⟨p, a, b, h1, h2, h3, h4⟩ => by subst h1; exact .tup h2 (.cons (Data.dp h3) (.cons (Data.dp h4) .nil))⟩
/-- list-like: what can be walked, counted, read by place -/
class Lk (s : Type) (α : outParam Type) [Rep s] [Rep α] where
  its : s → List α
  get : ∀ {K : Fg} {mg : MG} {H : Hp} {v : V} {a : s}, Rep.rep K mg H v a → ∃ p vs, v = .ref p ∧ (SqL K H p vs ∨ SqT K H p vs) ∧ Reps K mg H vs (its a)
instance {α : Type} [Rep α] : Lk (List α) α := ⟨id, fun ⟨p, vs, h1, h2, h3⟩ => ⟨p, vs, h1, .inl (.of h2), h3⟩⟩
instance {α : Type} [Rep α] : Lk (Tp α) α := ⟨Tp.xs, fun ⟨p, vs, h1, h2, h3⟩ => ⟨p, vs, h1, .inr h2, h3⟩⟩
instance {α : Type} [Rep α] : Lk (Sq α) α := ⟨Sq.xs, fun {K mg H v a} h => by
  cases a with
  | l xs =>
    obtain ⟨p, vs, h1, h2, h3⟩ := (show Rep.rep K mg H v xs from h)
    exact ⟨p, vs, h1, .inl (.of h2), h3⟩
  | t xs =>
    obtain ⟨p, vs, h1, h2, h3⟩ := (show Rep.rep K mg H v (Tp.mk xs) from h)
    exact ⟨p, vs, h1, .inr h2, h3⟩⟩

/-! ### a heap without some addresses -/
def less (H : Hp) (A : List Addr) : Hp := fun a => if a ∈ A then none else H a
theorem less_in {H : Hp} {A : List Addr} {a : Addr} (h : a ∈ A) : less H A a = none := by unfold less; rw [if_pos h]
theorem less_out {H : Hp} {A : List Addr} {a : Addr} (h : a ∉ A) : less H A a = H a := by unfold less; rw [if_neg h]
theorem less_same {H : Hp} {A : List Addr} : Same (less H A) H := fun b o h => by
  by_cases hb : b ∈ A
  · rw [less_in hb] at h; cases h
  · rw [less_out hb] at h; exact h
theorem less_mono {H H' : Hp} {A : List Addr} (e : ∀ b o, b ∉ A → H b = some o → H' b = some o) : Same (less H A) (less H' A) := fun b o h => by
  by_cases hb : b ∈ A
  · rw [less_in hb] at h; cases h
  · rw [less_out hb] at h ⊢; exact e b o hb h
theorem less_sub {H : Hp} {A B : List Addr} (h : ∀ a ∈ B, a ∈ A) : Same (less H A) (less H B) := fun b o q => by
  by_cases hb : b ∈ A
  · rw [less_in hb] at q; cases q
  · rw [less_out hb] at q
    rw [less_out fun z => hb (h b z)]
    exact q

/-! ### owned objects, the state at a point -/
/-- what a slot holds -/
structure Asr where
  P : Hp → V → Prop
  mono : ∀ {H H' : Hp} {v : V}, Same H H' → P H v → P H' v
/-- a fact of the heap without the owned objects -/
structure Fact where
  P : Hp → Prop
  mono : ∀ {H H' : Hp}, Same H H' → P H → P H'
structure Own where
  a : Addr
  P : Hp → HO → Prop
  mono : ∀ {H H' : Hp} {o : HO}, Same H H' → P H o → P H' o
/-- what an owned object may stand for -/
class OwR (s : Type) where
  P : Fg → MG → Hp → HO → s → Prop
  mono : ∀ {K : Fg} {mg : MG} {H H' : Hp} {o : HO} {a : s}, Same H H' → P K mg H o a → P K mg H' o a
instance {α : Type} [Rep α] : OwR (List α) := ⟨fun K mg H o as => ∃ vs, o = .lst vs ∧ Reps K mg H vs as, fun e ⟨vs, h, r⟩ => ⟨vs, h, r.mono e⟩⟩
section
variable (K : Fg) (mg : MG)
def vl {α : Type} [Rep α] (a : α) : Option Asr := some ⟨fun H v => Rep.rep K mg H v a, fun e h => Rep.mono e h⟩
def rf (p : Addr) : Option Asr := some ⟨fun _ v => v = .ref p, fun _ h => h⟩
def ow {s : Type} [OwR s] (p : Addr) (a : s) : Own := ⟨p, fun H o => OwR.P K mg H o a, fun e h => OwR.mono e h⟩
end

/-- a def's run: the module, the heap at its entry, what it may change, what stands out of sight, what it had to change at first, what is wished of exceptions -/
structure Fr where
  K : Fg
  mg : MG
  H0 : Hp
  W : List Addr
  A : List Addr
  O0 : List Own
  E : XK
  Z : List Fact
abbrev addrs (O : List Own) : List Addr := O.map Own.a
def rg (F : Fr) (O : List Own) (H : Hp) : Hp := less H (addrs O ++ F.A)
structure GO (F : Fr) (O : List Own) (H : Hp) : Prop where
  objs : ∀ w ∈ O, ∃ o, H w.a = some o ∧ w.P (rg F O H) o
  nd : (addrs O).Nodup
  own : ∀ w ∈ O, w.a ∈ F.W ∨ F.H0 w.a = none
  keep : ∀ a o, F.H0 a = some o → a ∉ F.W → H a = some o
  live : ∀ a, F.H0 a ≠ none → H a ≠ none
  hid : ∀ a ∈ F.A, F.H0 a ≠ none
  apart : ∀ w ∈ O, w.a ∉ F.A
  facts : ∀ z ∈ F.Z, z.P (rg F O H)
def SlotOk (R : Hp) : Option Asr → Option V → Prop
  | none, _ => True
  | some p, some v => p.P R v
  | some _, none => False
structure G (F : Fr) (L : List (Option Asr)) (O : List Own) (σ : L2.St) (H : Hp) : Prop where
  slots : Paired (SlotOk (rg F O H)) L σ
  go : GO F O H

theorem SlotOk.mono {R R' : Hp} (e : Same R R') : ∀ {p : Option Asr} {v : Option V}, SlotOk R p v → SlotOk R' p v
  | none, _, _ => trivial
  | some p, some v, h => p.mono e h
theorem GO.out {F : Fr} {O : List Own} {H : Hp} (g : GO F O H) {p : Addr} (h : H p = none) : p ∉ addrs O ++ F.A := fun z => by
  rcases List.mem_append.mp z with z | z
  · obtain ⟨w, hw, e⟩ := List.mem_map.mp z
    obtain ⟨o, ho, _⟩ := g.objs w hw
    rw [e, h] at ho
    cases ho
  · exact g.live p (g.hid p z) h
/-- the heap grows -/
theorem GO.grow {F : Fr} {O : List Own} {H H' : Hp} (g : GO F O H) (e : Same H H') : GO F O H' where
  objs := fun w hw => let ⟨o, ho, h⟩ := g.objs w hw; ⟨o, e _ _ ho, w.mono (less_mono fun b o _ q => e b o q) h⟩
  nd := g.nd
  own := g.own
  keep := fun a o h hw => e _ _ (g.keep a o h hw)
  live := fun a h z => by
    cases q : H a with
    | none => exact g.live a h q
    | some o => rw [e _ _ q] at z; cases z
  hid := g.hid
  apart := g.apart
  facts := fun z hz => z.mono (less_mono fun b o _ q => e b o q) (g.facts z hz)
theorem rg_grow {F : Fr} {O : List Own} {H H' : Hp} (e : Same H H') : Same (rg F O H) (rg F O H') := less_mono fun b o _ q => e b o q

theorem G.grow {F : Fr} {L : List (Option Asr)} {O : List Own} {σ : L2.St} {H H' : Hp} (g : G F L O σ H) (e : Same H H') : G F L O σ H' :=
  ⟨L2.Paired.mapP g.slots fun _ _ h => h.mono (rg_grow e), g.go.grow e⟩
theorem same_upd {H : Hp} {p : Addr} {o : HO} (h : H p = none) : Same H (upd H p o) := fun b x e => by
  rw [upd_ne (ne_of_none e h)]
  exact e
end NF

set_option Elab.async false
set_option linter.all false
set_option maxRecDepth 100000
/-! Nf1: the normal forms, and how they compose. -/
namespace NF
open PySem PySem.Spec PyProof.Rows L2
open Data (toD)

abbrev XdOk (K : Fg) (H : Hp) : List (Str × V) → List (Str × PyData) → Prop := Paired fun p q => p.1 = q.1 ∧ Dp K H p.2 q.2
/-- an exception's fields: its dict, new since H0 -/
def XdAt (K : Fg) (H0 H' : Hp) (d : Option Addr) (fs : List (Str × PyData)) : Prop := match d with
  | none => fs = []
  | some d => H0 d = none ∧ ∃ vs, H' d = some (.xd vs) ∧ XdOk K H' vs fs
theorem XdAt.older {K : Fg} {H0 H1 H' : Hp} {d : Option Addr} {fs : List (Str × PyData)} (h : XdAt K H1 H' d fs) (l : ∀ a, H0 a ≠ none → H1 a ≠ none) : XdAt K H0 H' d fs := by
  cases d with
  | none => exact h
  | some d => exact ⟨Decidable.byContradiction fun z => l d z h.1, h.2⟩
def ErrK (F : Fr) (c : Str) (fs : List (Str × PyData)) (Post : Hp → Prop) : Prop :=
  ∀ C d H', F.mg c = some (.ref C) → XdAt F.K F.H0 H' d fs → Post H' → F.E (.ref C) d H'
def Out {α : Type} (F : Fr) (m : Res α) (k : α → Prop) (xp : Hp → Prop) : Prop := match m with
  | .ok a => k a
  | .err c fs => ErrK F c fs xp
  | .bad => False
theorem Out.mono {α : Type} {F : Fr} {m : Res α} {k k' : α → Prop} {xp xp' : Hp → Prop} (h : Out F m k xp) (hk : ∀ a, k a → k' a) (hx : ∀ H', xp' H' → xp H') : Out F m k' xp' := by
  cases m with
  | ok a => exact hk a h
  | err c fs => exact fun C d H' h1 h2 h4 => h C d H' h1 h2 (hx H' h4)
  | bad => exact h.elim
theorem out_bind {α β : Type} {F : Fr} {m : Res α} {f : α → Res β} {k : β → Prop} {xp : Hp → Prop} : Out F (m.bind f) k xp ↔ Out F m (fun a => Out F (f a) k xp) xp := by
  cases m <;> exact Iff.rfl
theorem out_need {α : Type} {F : Fr} {p : Prop} [Decidable p] {m : Res α} {k : α → Prop} {xp : Hp → Prop} : Out F (need p m) k xp ↔ p ∧ Out F m k xp := by
  unfold need
  by_cases h : p
  · rw [if_pos h]; exact ⟨fun q => ⟨h, q⟩, fun q => q.2⟩
  · rw [if_neg h]; exact ⟨fun q => q.elim, fun q => (h q.1).elim⟩

def rgn (b : Bool) (F : Fr) (O : List Own) (H : Hp) : Hp := if b then rg F O H else H
theorem rgn_grow {b : Bool} {F : Fr} {O : List Own} {H H' : Hp} (e : Same H H') : Same (rgn b F O H) (rgn b F O H') := by
  cases b
  · exact e
  · exact rg_grow e
theorem rgn_sub {b : Bool} {F : Fr} {O : List Own} {H : Hp} : Same (rgn b F O H) H := by
  cases b
  · exact Same.refl _
  · exact less_same
abbrev rp {α : Type} [Rep α] (F : Fr) (R : Hp) (v : V) (a : α) : Prop := Rep.rep F.K F.mg R v a
abbrev KP (α : Type) [Rep α] (b : Bool) (F : Fr) (L : List (Option Asr)) (O : List Own) (σ : L2.St) (H : Hp) (Q : VK) : α → Prop :=
  fun a => ∀ v H', G F L O σ H' → Same H H' → rp F (rgn b F O H') v a → Q v H'
abbrev XP (F : Fr) (L : List (Option Asr)) (O : List Own) (σ : L2.St) (H : Hp) : Hp → Prop := fun H' => G F L O σ H' ∧ Same H H'
/-- an expression: its value (b: seen without the owned objects) -/
def tP {α : Type} [Rep α] (b : Bool) (F : Fr) (L : List (Option Asr)) (O : List Own) (m : Res α) : TE := fun σ H Q =>
  G F L O σ H ∧ Out F m (KP α b F L O σ H Q) (XP F L O σ H)
/-- an expression whose value is a new list -/
def tF {α : Type} [Rep α] (b : Bool) (F : Fr) (L : List (Option Asr)) (O : List Own) (m : Res (List α)) : TE := fun σ H Q =>
  G F L O σ H ∧ Out F m (fun as => ∀ p vs H', G F L O σ H' → Same H H' → H p = none → H' p = some (.lst vs) → Reps F.K F.mg (less (rgn b F O H') [p]) vs as → Q (.ref p) H') (XP F L O σ H)
/-- a test -/
def tB' (F : Fr) (L : List (Option Asr)) (O : List Own) (m : Res Bool) : TT := fun σ H Q =>
  G F L O σ H ∧ Out F m (fun c => ∀ H', G F L O σ H' → Same H H' → Q c H') (XP F L O σ H)
/-- arguments -/
class RepA (τ : Type) where
  rep : Fg → MG → Hp → List V → τ → Prop
  mono : ∀ {K : Fg} {mg : MG} {H H' : Hp} {vs : List V} {a : τ}, Same H H' → rep K mg H vs a → rep K mg H' vs a
instance : RepA Unit := ⟨fun _ _ _ vs _ => vs = [], fun _ h => h⟩
structure Ar (α τ : Type) where
  x : α
  r : τ
instance {α τ : Type} [Rep α] [RepA τ] : RepA (Ar α τ) where
  rep K mg H vs a := ∃ v ws, vs = v :: ws ∧ Rep.rep K mg H v a.x ∧ RepA.rep K mg H ws a.r
  mono e h := let ⟨v, ws, h1, h2, h3⟩ := h; ⟨v, ws, h1, Rep.mono e h2, RepA.mono e h3⟩
def tA {τ : Type} [RepA τ] (b : Bool) (F : Fr) (L : List (Option Asr)) (O : List Own) (m : Res τ) : TA := fun σ H Q =>
  G F L O σ H ∧ Out F m (fun a => ∀ vs H', G F L O σ H' → Same H H' → RepA.rep F.K F.mg (rgn b F O H') vs a → Q vs H') (XP F L O σ H)

theorem pe_imp {X : Cx} {e : Expr} {t t' : TE} (h : PE X e t) (i : ∀ σ H Q, t' σ H Q → t σ H Q) : PE X e t' := ⟨fun pins s σ H Q I q => h.run pins s σ H Q I (i σ H Q q)⟩
theorem pt_imp {X : Cx} {e : Expr} {t t' : TT} (h : PT X e t) (i : ∀ σ H Q, t' σ H Q → t σ H Q) : PT X e t' := ⟨fun pins s σ H Q I q => h.run pins s σ H Q I (i σ H Q q)⟩
theorem pa_imp {X : Cx} {e : List Expr} {t t' : TA} (h : PA X e t) (i : ∀ σ H Q, t' σ H Q → t σ H Q) : PA X e t' := ⟨fun pos pins s σ H Q I q => h.run pos pins s σ H Q I (i σ H Q q)⟩
theorem ps_imp {X : Cx} {e : Stmt} {t t' : TS} (h : PS X e t) (i : ∀ D σ H, t' D σ H → t D σ H) : PS X e t' := ⟨fun pins s σ H D I q => h.run pins s σ H D I (i D σ H q)⟩
theorem pss_imp {X : Cx} {e : List Stmt} {t t' : TS} (h : PSs X e t) (i : ∀ D σ H, t' D σ H → t D σ H) : PSs X e t' := ⟨fun pins s σ H D I q => h.run pins s σ H D I (i D σ H q)⟩

section
variable {X : Cx} {F : Fr} {L : List (Option Asr)} {O : List Own} {α β γ : Type} [Rep α] [Rep β] [Rep γ]
theorem weak {e : Expr} {b : Bool} {m : Res α} (h : PE X e (tP true F L O m)) : PE X e (tP b F L O m) := pe_imp h fun σ H Q ⟨g, q⟩ => ⟨g, q.mono (fun a k v H' g' s r => k v H' g' s (by
  cases b
  · exact Rep.mono less_same r
  · exact r)) fun _ x => x⟩
theorem strong [Flat α] {e : Expr} {b b' : Bool} {m : Res α} (h : PE X e (tP b F L O m)) : PE X e (tP b' F L O m) := pe_imp h fun σ H Q ⟨g, q⟩ => ⟨g, q.mono (fun a k v H' g' s r => k v H' g' s (Flat.iff.mpr (Flat.iff.mp r))) fun _ x => x⟩

/-- by values: what an operation asks -/
def RR (F : Fr) (L : List (Option Asr)) (O : List Own) (b1 b2 b3 : Bool) (r : R2) (mc : α → β → Res γ) : Prop :=
  ∀ x y vx vy H σ Q, G F L O σ H → rp F (rgn b1 F O H) vx x → rp F (rgn b2 F O H) vy y → Out F (mc x y) (KP γ b3 F L O σ H Q) (XP F L O σ H) → r vx vy H Q
theorem nf2 {e : Expr} {b1 b2 b3 : Bool} {r : R2} {ma : Res α} {mb : Res β} {mc : α → β → Res γ} (h : PE X e (tOp r (tP b1 F L O ma) (tP b2 F L O mb))) (hr : RR F L O b1 b2 b3 r mc) :
    PE X e (tP b3 F L O (ma.bind fun x => mb.bind fun y => mc x y)) := pe_imp h fun σ H Q ⟨g, q⟩ => by
  rw [out_bind] at q
  refine ⟨g, q.mono (fun x qx v1 H1 g1 s1 r1 => ?_) fun _ z => z⟩
  rw [out_bind] at qx
  refine ⟨g1, qx.mono (fun y qy v2 H2 g2 s2 r2 => ?_) fun H' ⟨a, b⟩ => ⟨a, s1.trans b⟩⟩
  exact hr x y v1 v2 H2 σ Q g2 (Rep.mono (rgn_grow s2) r1) r2 (qy.mono (fun z kz v H' g' s' r' => kz v H' g' ((s1.trans s2).trans s') r') fun H' ⟨a, b⟩ => ⟨a, (s1.trans s2).trans b⟩)
def R1 (F : Fr) (L : List (Option Asr)) (O : List Own) (b1 b3 : Bool) (r : V → Hp → VK → Prop) (mc : α → Res γ) : Prop :=
  ∀ x vx H σ Q, G F L O σ H → rp F (rgn b1 F O H) vx x → Out F (mc x) (KP γ b3 F L O σ H Q) (XP F L O σ H) → r vx H Q
theorem nf1 {e : Expr} {b1 b3 : Bool} {r : V → Hp → VK → Prop} {ma : Res α} {mc : α → Res γ} (h : PE X e (tUn r (tP b1 F L O ma))) (hr : R1 F L O b1 b3 r mc) :
    PE X e (tP b3 F L O (ma.bind mc)) := pe_imp h fun σ H Q ⟨g, q⟩ => by
  rw [out_bind] at q
  refine ⟨g, q.mono (fun x qx v1 H1 g1 s1 r1 => ?_) fun _ z => z⟩
  exact hr x v1 H1 σ Q g1 r1 (qx.mono (fun z kz v H' g' s' r' => kz v H' g' (s1.trans s') r') fun H' ⟨a, b⟩ => ⟨a, s1.trans b⟩)
/-- a value as it is -/
theorem kp_now {b : Bool} {σ : L2.St} {H : Hp} {Q : VK} {a : α} {v : V} (g : G F L O σ H) (k : KP α b F L O σ H Q a) (r : rp F (rgn b F O H) v a) : Q v H := k v H g (Same.refl _) r
theorem kp_flat [Flat α] {b : Bool} {σ : L2.St} {H : Hp} {Q : VK} {a : α} (g : G F L O σ H) (k : KP α b F L O σ H Q a) : Q (Flat.enc a) H := k _ H g (Same.refl _) (Flat.iff.mpr rfl)
theorem fl [Flat α] {R : Hp} {v : V} {a : α} (r : rp F R v a) : v = Flat.enc a := Flat.iff.mp r

/-! names and constants -/
theorem paired_get {α β : Type} {P : α → β → Prop} : ∀ {l : List α} {l' : List β} {i : Nat} {a : α}, Paired P l l' → l[i]? = some a → ∃ b, l'[i]? = some b ∧ P a b
  | _, _, _, _, .nil, e => by simp at e
  | _, _, 0, _, .cons r _, e => by simp at e; subst e; exact ⟨_, rfl, r⟩
  | _, _, i + 1, a, .cons r t, e => by
    obtain ⟨u, h1, h2⟩ := paired_get (i := i) (a := a) t (by simpa using e)
    exact ⟨u, by simpa using h1, h2⟩
theorem G.slot {σ : L2.St} {H : Hp} (g : G F L O σ H) {i : Nat} {p : Asr} (hL : L[i]? = some (some p)) : ∃ v, σ[i]? = some (some v) ∧ p.P (rg F O H) v := by
  obtain ⟨o, h1, h2⟩ := paired_get g.slots hL
  cases o with
  | none => exact h2.elim
  | some v => exact ⟨v, h1, h2⟩
theorem n_var (i : Nat) {x : Str} {pos : Pos} {a : α} (hL : L[i]? = some (vl F.K F.mg a) := by rfl) (hN : X.N[i]? = some x := by rfl) (hv : Vis X.env.scope x := by first | exact Or.inl rfl | exact Or.inr (Or.inl rfl) | exact Or.inr (Or.inr rfl)) (hd : (x == ("__debug__" : Str)) = false := by decide)
    (hcd : (x == ("__classdict__" : Str)) = false := by decide) : PE X (.Name x pos) (tP true F L O (.ok a)) := pe_imp (pe_var hN hv hd hcd) fun σ H Q ⟨g, q⟩ => by
  obtain ⟨v, h1, h2⟩ := g.slot hL
  exact ⟨v, h1, q v H g (Same.refl _) h2⟩
/-- an owned list, read where it stands -/
theorem n_own (i : Nat) {x : Str} {pos : Pos} {p : Addr} {as : List α} (hL : L[i]? = some (rf p) := by rfl) (hO : ow F.K F.mg p as ∈ O := by simp) (hN : X.N[i]? = some x := by rfl) (hv : Vis X.env.scope x := by first | exact Or.inl rfl | exact Or.inr (Or.inl rfl) | exact Or.inr (Or.inr rfl)) (hd : (x == ("__debug__" : Str)) = false := by decide)
    (hcd : (x == ("__classdict__" : Str)) = false := by decide) : PE X (.Name x pos) (tP false F L O (.ok as)) := pe_imp (pe_var hN hv hd hcd) fun σ H Q ⟨g, q⟩ => by
  obtain ⟨v, h1, h2⟩ := g.slot hL
  obtain ⟨o, h3, vs, h4, h5⟩ := g.go.objs _ hO
  subst h4
  exact ⟨v, h1, q v H g (Same.refl _) ⟨p, vs, h2, h3, h5.mono less_same⟩⟩
theorem n_c {e : Expr} [Flat α] {a : α} {b : Bool} (h : PE X e (tC (Flat.enc a))) : PE X e (tP b F L O (.ok a)) := pe_imp h fun σ H Q ⟨g, q⟩ => kp_flat g q
theorem n_int {i j pos} {b : Bool} : PE X (.Constant (.int i) j pos) (tP b F L O (.ok i)) := n_c (a := i) pe_int
theorem n_bl {i j pos} {b : Bool} : PE X (.Constant (.bool i) j pos) (tP b F L O (.ok i)) := n_c (a := i) pe_bl
theorem n_str {i j pos} {b : Bool} : PE X (.Constant (.str i) j pos) (tP b F L O (.ok i)) := n_c (a := i) pe_str
theorem n_non {j pos} {b : Bool} : PE X (.Constant .none j pos) (tP b F L O (.ok ())) := n_c (a := ()) pe_non

/-! ints -/
section
variable {b1 b2 b3 : Bool}
theorem rr_I0 {g : Int → Int → γ} [Flat γ] : RR F L O b1 b2 b3 (rI0 fun i j => Flat.enc (g i j)) fun x y => .ok (g x y) := fun x y vx vy H σ Q g rx ry q => ⟨x, y, rx, ry, kp_flat g q⟩
theorem rr_I {C : Int → Int → Prop} [∀ i j, Decidable (C i j)] {g : Int → Int → γ} [Flat γ] : RR F L O b1 b2 b3 (rI C fun i j => Flat.enc (g i j)) fun x y => need (C x y) (.ok (g x y)) := fun x y vx vy H σ Q g rx ry q => by
  rw [out_need] at q
  exact ⟨x, y, rx, ry, q.1, kp_flat g q.2⟩
@[irreducible] def decCDiv : ∀ i j, Decidable (CDiv i j) := fun i j => decidable_of_iff (posB 1073741823 (j - 1) = true) (by rw [posB_iff]; unfold CDiv; omega)
instance : ∀ i j, Decidable (CDiv i j) := decCDiv
@[irreducible] def decCMul : ∀ i j, Decidable (CMul i j) := fun i j => decidable_of_iff ((posB 36893488147419103231 (i + 18446744073709551615) || posB 36893488147419103231 (j + 18446744073709551615)) = true) (by rw [Bool.or_eq_true, posB_iff, posB_iff]; unfold CMul; omega)
instance : ∀ i j, Decidable (CMul i j) := decCMul
@[irreducible] def decCPow : ∀ i j, Decidable (CPow i j) := fun i j => decidable_of_iff ((posB 1000001 j && posB 18446744073709551616 (i.natAbs : Int)) = true) (by rw [Bool.and_eq_true, posB_iff, posB_iff]; unfold CPow; omega)
instance : ∀ i j, Decidable (CPow i j) := decCPow
variable {x y : Expr} {ma mb : Res Int} {pos : Pos}
variable (hx : PE X x (tP b1 F L O ma)) (hy : PE X y (tP b2 F L O mb))
include hx hy
theorem n_add : PE X (.BinOp x .Add y pos) (tP b3 F L O (ma.bind fun x => mb.bind fun y => .ok (x + y))) := nf2 (pe_op op_add hx hy) (rr_I0 (g := fun x y => x + y))
theorem n_sub : PE X (.BinOp x .Sub y pos) (tP b3 F L O (ma.bind fun x => mb.bind fun y => .ok (x - y))) := nf2 (pe_op op_sub hx hy) (rr_I0 (g := fun x y => x - y))
theorem n_mul : PE X (.BinOp x .Mult y pos) (tP b3 F L O (ma.bind fun x => mb.bind fun y => need (CMul x y) (.ok (x * y)))) := nf2 (pe_op op_mul hx hy) (rr_I (g := fun x y => x * y))
theorem n_fdiv : PE X (.BinOp x .FloorDiv y pos) (tP b3 F L O (ma.bind fun x => mb.bind fun y => need (CDiv x y) (.ok (x / y)))) := nf2 (pe_op op_fdiv hx hy) (rr_I (g := fun x y => x / y))
theorem n_mod : PE X (.BinOp x .Mod y pos) (tP b3 F L O (ma.bind fun x => mb.bind fun y => need (0 < y) (.ok (x % y)))) := nf2 (pe_op op_mod hx hy) (rr_I (g := fun x y => x % y))
theorem n_pow : PE X (.BinOp x .Pow y pos) (tP b3 F L O (ma.bind fun x => mb.bind fun y => need (CPow x y) (.ok (x ^ y.toNat)))) := nf2 (pe_op op_pow hx hy) (rr_I (g := fun x y => x ^ y.toNat))
theorem n_shl : PE X (.BinOp x .LShift y pos) (tP b3 F L O (ma.bind fun x => mb.bind fun y => need (CPow x y) (.ok (x * 2 ^ y.toNat)))) := nf2 (pe_op op_shl hx hy) (rr_I (g := fun x y => x * 2 ^ y.toNat))
theorem n_shr : PE X (.BinOp x .RShift y pos) (tP b3 F L O (ma.bind fun x => mb.bind fun y => need (0 ≤ y) (.ok (x / 2 ^ y.toNat)))) := nf2 (pe_op op_shr hx hy) (rr_I (C := fun _ y => 0 ≤ y) (g := fun x y => x / 2 ^ y.toNat))
theorem n_band : PE X (.BinOp x .BitAnd y pos) (tP b3 F L O (ma.bind fun x => mb.bind fun y => .ok (Builtin.bitAnd x y))) := nf2 (pe_op op_and hx hy) (rr_I0 (g := fun x y => Builtin.bitAnd x y))
theorem n_bor : PE X (.BinOp x .BitOr y pos) (tP b3 F L O (ma.bind fun x => mb.bind fun y => .ok (Builtin.bitOr x y))) := nf2 (pe_op op_or hx hy) (rr_I0 (g := fun x y => Builtin.bitOr x y))
theorem n_bxor : PE X (.BinOp x .BitXor y pos) (tP b3 F L O (ma.bind fun x => mb.bind fun y => .ok (Builtin.bitXor x y))) := nf2 (pe_op op_xor hx hy) (rr_I0 (g := fun x y => Builtin.bitXor x y))
/-! comparisons of ints, as values -/
theorem n_lt : PE X (.Compare x [.Lt] [y] pos) (tP b3 F L O (ma.bind fun x => mb.bind fun y => .ok (decide (x < y)))) := nf2 (pe_cmpR op_lt hx hy (nomark _)) (rr_I0 (g := fun x y => decide (x < y)))
theorem n_le : PE X (.Compare x [.LtE] [y] pos) (tP b3 F L O (ma.bind fun x => mb.bind fun y => .ok (decide (x ≤ y)))) := nf2 (pe_cmpR op_le hx hy (nomark _)) (rr_I0 (g := fun x y => decide (x ≤ y)))
theorem n_gt : PE X (.Compare x [.Gt] [y] pos) (tP b3 F L O (ma.bind fun x => mb.bind fun y => .ok (decide (y < x)))) := nf2 (pe_cmpR op_gt hx hy (nomark _)) (rr_I0 (g := fun x y => decide (y < x)))
theorem n_ge : PE X (.Compare x [.GtE] [y] pos) (tP b3 F L O (ma.bind fun x => mb.bind fun y => .ok (decide (y ≤ x)))) := nf2 (pe_cmpR op_ge hx hy (nomark _)) (rr_I0 (g := fun x y => decide (y ≤ x)))
end
theorem n_neg {b1 b3 : Bool} {x : Expr} {ma : Res Int} {pos : Pos} (hx : PE X x (tP b1 F L O ma)) : PE X (.UnaryOp .USub x pos) (tP b3 F L O (ma.bind fun x => .ok (-x))) := nf1 (pe_un un_neg hx) fun x vx H σ Q g r q => ⟨x, r, kp_flat g q⟩
/-! == of flat things, of data -/
section
variable {b1 b2 b3 : Bool} {x y : Expr} {ma : Res α} {mb : Res β} {pos : Pos}
/-- equal by value: what == says of data -/
def eqD [Data α] [Data β] (x : α) (y : β) : Bool := (toD x).eqv (toD y)
def shp [Data α] (x : α) : Bool := SeqAt.shaped (toD x)
theorem rr_eqD [Data α] [Data β] (hK : X.K = F.K) : RR F L O b1 b2 b3 (rEqD X.K) fun (x : α) (y : β) => need (shp x = true ∧ shp y = true) (.ok (eqD x y)) := fun x y vx vy H σ Q g rx ry q => by
  rw [out_need] at q
  rw [hK]
  exact ⟨_, _, Data.dp (Rep.mono rgn_sub rx), Data.dp (Rep.mono rgn_sub ry), q.1.1, q.1.2, kp_flat g q.2⟩
theorem n_eqD [Data α] [Data β] (hx : PE X x (tP b1 F L O ma)) (hy : PE X y (tP b2 F L O mb)) (hu : X.A.units + 64 < cLine) (hK : X.K = F.K := by rfl) :
    PE X (.Compare x [.Eq] [y] pos) (tP b3 F L O (ma.bind fun x => mb.bind fun y => need (shp x = true ∧ shp y = true) (.ok (eqD x y)))) := nf2 (pe_cmpR (op_eqD hu) hx hy (nomark _)) (rr_eqD hK)
theorem n_neD [Data α] [Data β] (hx : PE X x (tP b1 F L O ma)) (hy : PE X y (tP b2 F L O mb)) (hu : X.A.units + 64 < cLine) (hK : X.K = F.K := by rfl) :
    PE X (.Compare x [.NotEq] [y] pos) (tP b3 F L O (ma.bind fun x => mb.bind fun y => need (shp x = true ∧ shp y = true) (.ok (!eqD x y)))) := nf2 (pe_cmpR (op_neD hu) hx hy (nomark _)) fun x y vx vy H σ Q g rx ry q => by
  rw [out_need] at q
  rw [hK]
  exact ⟨_, _, Data.dp (Rep.mono rgn_sub rx), Data.dp (Rep.mono rgn_sub ry), q.1.1, q.1.2, kp_flat g q.2⟩
end
section
variable {b1 b2 b3 : Bool} {x y : Expr} {pos : Pos} {ma mb : Res Int}
theorem n_eq (hx : PE X x (tP b1 F L O ma)) (hy : PE X y (tP b2 F L O mb)) : PE X (.Compare x [.Eq] [y] pos) (tP b3 F L O (ma.bind fun x => mb.bind fun y => .ok (decide (x = y)))) := nf2 (pe_cmpR op_eq hx hy (nomark _)) fun x y vx vy H σ Q g rx ry q => by
  cases rx; cases ry
  exact ⟨rfl, by rw [show decide (V.int x = V.int y) = decide (x = y) by simp]; exact kp_flat g q⟩
theorem n_ne (hx : PE X x (tP b1 F L O ma)) (hy : PE X y (tP b2 F L O mb)) : PE X (.Compare x [.NotEq] [y] pos) (tP b3 F L O (ma.bind fun x => mb.bind fun y => .ok (!decide (x = y)))) := nf2 (pe_cmpR op_ne hx hy (nomark _)) fun x y vx vy H σ Q g rx ry q => by
  cases rx; cases ry
  exact ⟨rfl, by rw [show decide (V.int x = V.int y) = decide (x = y) by simp]; exact kp_flat g q⟩
end
/-! and, or, not, if .. else -/
section
variable {b1 b2 b3 : Bool} {x y : Expr} {rest : List Expr} {ma mb : Res Bool} {pos : Pos}
theorem n_not (hx : PE X x (tP b1 F L O ma)) : PE X (.UnaryOp .Not x pos) (tP b3 F L O (ma.bind fun c => .ok (!c))) := pe_imp (pe_not hx) fun σ H Q ⟨g, q⟩ => by
  rw [out_bind] at q
  refine ⟨g, q.mono (fun c qc v1 H1 g1 s1 r1 => ?_) fun _ z => z⟩
  exact ⟨c, r1, qc _ H1 g1 s1 rfl⟩
theorem n_and (hx : PE X x (tP b1 F L O ma)) (hy : PE X (.BoolOp .And (y :: rest) pos) (tP b2 F L O mb)) : PE X (.BoolOp .And (x :: y :: rest) pos) (tP b3 F L O (ma.bind fun c => if c then mb else .ok false)) := pe_imp (pe_and hx hy) fun σ H Q ⟨g, q⟩ => by
  rw [out_bind] at q
  refine ⟨g, q.mono (fun c qc v1 H1 g1 s1 r1 => ?_) fun _ z => z⟩
  refine ⟨c, r1, ?_⟩
  cases c with
  | true => exact ⟨g1, qc.mono (fun d kd v H' g' s' r' => kd v H' g' (s1.trans s') r') fun H' ⟨a, b⟩ => ⟨a, s1.trans b⟩⟩
  | false => exact qc _ H1 g1 s1 rfl
theorem n_or (hx : PE X x (tP b1 F L O ma)) (hy : PE X (.BoolOp .Or (y :: rest) pos) (tP b2 F L O mb)) : PE X (.BoolOp .Or (x :: y :: rest) pos) (tP b3 F L O (ma.bind fun c => if c then .ok true else mb)) := pe_imp (pe_or hx hy) fun σ H Q ⟨g, q⟩ => by
  rw [out_bind] at q
  refine ⟨g, q.mono (fun c qc v1 H1 g1 s1 r1 => ?_) fun _ z => z⟩
  refine ⟨c, r1, ?_⟩
  cases c with
  | true => exact qc _ H1 g1 s1 rfl
  | false => exact ⟨g1, qc.mono (fun d kd v H' g' s' r' => kd v H' g' (s1.trans s') r') fun H' ⟨a, b⟩ => ⟨a, s1.trans b⟩⟩
theorem n_one {op} (hx : PE X x (tP b1 F L O ma)) : PE X (.BoolOp op [x] pos) (tP b1 F L O ma) := pe_one hx
/-! tests -/
theorem t_val (hx : PE X x (tP b1 F L O ma)) (he : ∀ whole, isTrue x X.env whole = (do let v ← whole; standAt x.pos; holding [v] (truthy v)) := by intro _; rfl) : PT X x (tB' F L O ma) := pt_imp (pt_val hx he) fun σ H Q ⟨g, q⟩ =>
  ⟨g, q.mono (fun c qc v1 H1 g1 s1 r1 => ⟨c, r1, qc H1 g1 s1⟩) fun _ z => z⟩
theorem nf2t {e : Expr} {r : R2} {ma : Res α} {mb : Res β} {mc : α → β → Res Bool} (h : PT X e (tTest (tOp r (tP b1 F L O ma) (tP b2 F L O mb)))) (hr : RR F L O b1 b2 true r mc) :
    PT X e (tB' F L O (ma.bind fun x => mb.bind fun y => mc x y)) := pt_imp h fun σ H Q ⟨g, q⟩ => by
  rw [out_bind] at q
  refine ⟨g, q.mono (fun x qx v1 H1 g1 s1 r1 => ?_) fun _ z => z⟩
  rw [out_bind] at qx
  refine ⟨g1, qx.mono (fun y qy v2 H2 g2 s2 r2 => ?_) fun H' ⟨a, b⟩ => ⟨a, s1.trans b⟩⟩
  exact hr x y v1 v2 H2 σ _ g2 (Rep.mono (rgn_grow s2) r1) r2 (qy.mono (fun z kz v H' g' s' r' => ⟨z, r', kz H' g' ((s1.trans s2).trans s')⟩) fun H' ⟨a, b⟩ => ⟨a, (s1.trans s2).trans b⟩)
theorem t_not (hx : PT X x (tB' F L O ma)) : PT X (.UnaryOp .Not x pos) (tB' F L O (ma.bind fun c => .ok (!c))) := pt_imp (pt_not hx) fun σ H Q ⟨g, q⟩ => by
  rw [out_bind] at q
  exact ⟨g, q.mono (fun c qc H1 g1 s1 => qc H1 g1 s1) fun _ z => z⟩
theorem w_and1 (hx : PT X x (tB' F L O ma)) : PW X (.BoolOp .And [x] pos) (tB' F L O ma) := pw_and1 hx
theorem w_or1 (hx : PT X x (tB' F L O ma)) : PW X (.BoolOp .Or [x] pos) (tB' F L O ma) := pw_or1 hx
theorem pw_imp {e : Expr} {t t' : TT} (h : PW X e t) (i : ∀ σ H Q, t' σ H Q → t σ H Q) : PW X e t' := ⟨fun wh pins s σ H Q I q => h.run wh pins s σ H Q I (i σ H Q q)⟩
theorem w_and (hx : PT X x (tB' F L O ma)) (hy : PW X (.BoolOp .And (y :: rest) pos) (tB' F L O mb)) : PW X (.BoolOp .And (x :: y :: rest) pos) (tB' F L O (ma.bind fun c => if c then mb else .ok false)) := pw_imp (pw_and hx hy) fun σ H Q ⟨g, q⟩ => by
  rw [out_bind] at q
  refine ⟨g, q.mono (fun c qc H1 g1 s1 => ?_) fun _ z => z⟩
  cases c with
  | true =>
    show tB' F L O mb σ H1 Q
    exact ⟨g1, qc.mono (fun d kd H' g' s' => kd H' g' (s1.trans s')) fun H' ⟨a, b⟩ => ⟨a, s1.trans b⟩⟩
  | false => exact qc H1 g1 s1
theorem w_or (hx : PT X x (tB' F L O ma)) (hy : PW X (.BoolOp .Or (y :: rest) pos) (tB' F L O mb)) : PW X (.BoolOp .Or (x :: y :: rest) pos) (tB' F L O (ma.bind fun c => if c then .ok true else mb)) := pw_imp (pw_or hx hy) fun σ H Q ⟨g, q⟩ => by
  rw [out_bind] at q
  refine ⟨g, q.mono (fun c qc H1 g1 s1 => ?_) fun _ z => z⟩
  cases c with
  | true => exact qc H1 g1 s1
  | false =>
    show tB' F L O mb σ H1 Q
    exact ⟨g1, qc.mono (fun d kd H' g' s' => kd H' g' (s1.trans s')) fun H' ⟨a, b⟩ => ⟨a, s1.trans b⟩⟩
theorem n_if {c a b : Expr} {mc : Res Bool} {ma mb : Res α} (hc : PT X c (tB' F L O mc)) (ha : PE X a (tP b1 F L O ma)) (hb : PE X b (tP b1 F L O mb)) : PE X (.IfExp c a b pos) (tP b1 F L O (mc.bind fun c => if c then ma else mb)) := pe_imp (pe_ifExp hc ha hb) fun σ H Q ⟨g, q⟩ => by
  rw [out_bind] at q
  refine ⟨g, q.mono (fun c qc H1 g1 s1 => ?_) fun _ z => z⟩
  cases c with
  | true => exact ⟨g1, qc.mono (fun d kd v H' g' s' r' => kd v H' g' (s1.trans s') r') fun H' ⟨a, b⟩ => ⟨a, s1.trans b⟩⟩
  | false => exact ⟨g1, qc.mono (fun d kd v H' g' s' r' => kd v H' g' (s1.trans s') r') fun H' ⟨a, b⟩ => ⟨a, s1.trans b⟩⟩
end
section
variable {b1 b2 : Bool} {x y : Expr} {pos : Pos} {ma mb : Res Int}
variable (hx : PE X x (tP b1 F L O ma)) (hy : PE X y (tP b2 F L O mb))
include hx hy
theorem t_lt : PT X (.Compare x [.Lt] [y] pos) (tB' F L O (ma.bind fun x => mb.bind fun y => .ok (decide (x < y)))) := nf2t (pt_cmpR op_lt hx hy (nomark _)) (rr_I0 (g := fun x y => decide (x < y)))
theorem t_le : PT X (.Compare x [.LtE] [y] pos) (tB' F L O (ma.bind fun x => mb.bind fun y => .ok (decide (x ≤ y)))) := nf2t (pt_cmpR op_le hx hy (nomark _)) (rr_I0 (g := fun x y => decide (x ≤ y)))
theorem t_gt : PT X (.Compare x [.Gt] [y] pos) (tB' F L O (ma.bind fun x => mb.bind fun y => .ok (decide (y < x)))) := nf2t (pt_cmpR op_gt hx hy (nomark _)) (rr_I0 (g := fun x y => decide (y < x)))
theorem t_ge : PT X (.Compare x [.GtE] [y] pos) (tB' F L O (ma.bind fun x => mb.bind fun y => .ok (decide (y ≤ x)))) := nf2t (pt_cmpR op_ge hx hy (nomark _)) (rr_I0 (g := fun x y => decide (y ≤ x)))
theorem t_eq : PT X (.Compare x [.Eq] [y] pos) (tB' F L O (ma.bind fun x => mb.bind fun y => .ok (decide (x = y)))) := nf2t (pt_cmpR op_eq hx hy (nomark _)) fun x y vx vy H σ Q g rx ry q => by
  cases rx; cases ry
  exact ⟨rfl, by rw [show decide (V.int x = V.int y) = decide (x = y) by simp]; exact kp_flat g q⟩
theorem t_ne : PT X (.Compare x [.NotEq] [y] pos) (tB' F L O (ma.bind fun x => mb.bind fun y => .ok (!decide (x = y)))) := nf2t (pt_cmpR op_ne hx hy (nomark _)) fun x y vx vy H σ Q g rx ry q => by
  cases rx; cases ry
  exact ⟨rfl, by rw [show decide (V.int x = V.int y) = decide (x = y) by simp]; exact kp_flat g q⟩
end
section
variable {b1 b2 : Bool} {x y : Expr} {pos : Pos} {ma : Res α} {mb : Res β} [Data α] [Data β]
theorem t_eqD (hx : PE X x (tP b1 F L O ma)) (hy : PE X y (tP b2 F L O mb)) (hu : X.A.units + 64 < cLine) (hK : X.K = F.K := by rfl) :
    PT X (.Compare x [.Eq] [y] pos) (tB' F L O (ma.bind fun x => mb.bind fun y => need (shp x = true ∧ shp y = true) (.ok (eqD x y)))) := nf2t (pt_cmpR (op_eqD hu) hx hy (nomark _)) (rr_eqD hK)
theorem t_neD (hx : PE X x (tP b1 F L O ma)) (hy : PE X y (tP b2 F L O mb)) (hu : X.A.units + 64 < cLine) (hK : X.K = F.K := by rfl) :
    PT X (.Compare x [.NotEq] [y] pos) (tB' F L O (ma.bind fun x => mb.bind fun y => need (shp x = true ∧ shp y = true) (.ok (!eqD x y)))) := nf2t (pt_cmpR (op_neD hu) hx hy (nomark _)) fun x y vx vy H σ Q g rx ry q => by
  rw [out_need] at q
  rw [hK]
  exact ⟨_, _, Data.dp (Rep.mono rgn_sub rx), Data.dp (Rep.mono rgn_sub ry), q.1.1, q.1.2, kp_flat g q.2⟩
end
end
end NF

set_option Elab.async false
set_option linter.all false
set_option maxRecDepth 100000
/-! Nf2: lists, tuples, built-ins. -/
namespace NF
open PySem PySem.Spec PyProof.Rows L2
open Data (toD)
section
variable {X : Cx} {F : Fr} {L : List (Option Asr)} {O : List Own} {α β γ s : Type} [Rep α] [Rep β] [Rep γ] [Rep s]
/-! new lists -/
abbrev KF (α : Type) [Rep α] (b : Bool) (F : Fr) (L : List (Option Asr)) (O : List Own) (σ : L2.St) (H : Hp) (Q : VK) : List α → Prop :=
  fun as => ∀ p vs H', G F L O σ H' → Same H H' → H p = none → H' p = some (.lst vs) → Reps F.K F.mg (less (rgn b F O H') [p]) vs as → Q (.ref p) H'
theorem less_new {R R' : Hp} {p : Addr} (e : Same R R') (h : R p = none) : Same R (less R' [p]) := fun b o q => by
  have hb : b ∉ [p] := fun z => by
    rw [List.mem_singleton.mp z, h] at q
    cases q
  rw [less_out hb]
  exact e b o q
theorem rgn_none {b : Bool} {H : Hp} {p : Addr} (h : H p = none) : rgn b F O H p = none := by
  cases b
  · exact h
  · show less H _ p = none
    unfold less
    split
    · rfl
    · exact h
theorem kf_new {b : Bool} {σ : L2.St} {H : Hp} {Q : VK} {as : List α} {vs : List V} (g : G F L O σ H) (k : KF α b F L O σ H Q as) (r : Reps F.K F.mg (rgn b F O H) vs as) : ∀ p, H p = none → Q (.ref p) (upd H p (.lst vs)) := fun p hp =>
  k p vs _ (g.grow (same_upd hp)) (same_upd hp) hp upd_same (r.mono (less_new (rgn_grow (same_upd hp)) (rgn_none hp)))
theorem KF.mono {b : Bool} {σ : L2.St} {H H1 : Hp} {Q : VK} {as : List α} (e : Same H H1) (k : KF α b F L O σ H Q as) : KF α b F L O σ H1 Q as := fun p vs H' g s h1 h2 r => k p vs H' g (e.trans s) (e.free h1) h2 r
theorem rgn_new {b : Bool} {σ : L2.St} {H H' : Hp} {p : Addr} {o : HO} (g : G F L O σ H) (e : Same H H') (h : H p = none) (h' : H' p = some o) : rgn b F O H' p = some o := by
  cases b
  · exact h'
  · exact (less_out (g.go.out h)).trans h'
/-- a new list as a value -/
theorem f_val {e : Expr} {b : Bool} {m : Res (List α)} (h : PE X e (tF b F L O m)) : PE X e (tP b F L O m) := pe_imp h fun σ H Q ⟨g, q⟩ =>
  ⟨g, q.mono (fun as k p vs H' g' s h1 h2 r => k _ H' g' s ⟨p, vs, rfl, rgn_new g s h1 h2, r.mono less_same⟩) fun _ z => z⟩
theorem f_strong [Flat α] {e : Expr} {b b' : Bool} {m : Res (List α)} (h : PE X e (tF b F L O m)) : PE X e (tF b' F L O m) := pe_imp h fun σ H Q ⟨g, q⟩ =>
  ⟨g, q.mono (fun as k p vs H' g' s h1 h2 r => k p vs H' g' s h1 h2 (reps_flat.mpr (reps_flat.mp r))) fun _ z => z⟩
/-- by values, to a new list -/
def RRF (F : Fr) (L : List (Option Asr)) (O : List Own) (b1 b2 b3 : Bool) (r : R2) (mc : α → β → Res (List γ)) : Prop :=
  ∀ x y vx vy H σ Q, G F L O σ H → rp F (rgn b1 F O H) vx x → rp F (rgn b2 F O H) vy y → Out F (mc x y) (KF γ b3 F L O σ H Q) (XP F L O σ H) → r vx vy H Q
theorem nf2f {e : Expr} {b1 b2 b3 : Bool} {r : R2} {ma : Res α} {mb : Res β} {mc : α → β → Res (List γ)} (h : PE X e (tOp r (tP b1 F L O ma) (tP b2 F L O mb))) (hr : RRF F L O b1 b2 b3 r mc) :
    PE X e (tF b3 F L O (ma.bind fun x => mb.bind fun y => mc x y)) := pe_imp h fun σ H Q ⟨g, q⟩ => by
  rw [out_bind] at q
  refine ⟨g, q.mono (fun x qx v1 H1 g1 s1 r1 => ?_) fun _ z => z⟩
  rw [out_bind] at qx
  refine ⟨g1, qx.mono (fun y qy v2 H2 g2 s2 r2 => ?_) fun H' ⟨a, b⟩ => ⟨a, s1.trans b⟩⟩
  exact hr x y v1 v2 H2 σ Q g2 (Rep.mono (rgn_grow s2) r1) r2 (qy.mono (fun z kz => KF.mono (s1.trans s2) kz) fun H' ⟨a, b⟩ => ⟨a, (s1.trans s2).trans b⟩)
/-! places -/
def idx (xs : List α) (i : Int) : Res α := match atI xs i with
  | some a => .ok a
  | none => .bad
theorem at_get {K : Fg} {mg : MG} {H : Hp} {vs : List V} {as : List α} {i : Int} {a : α} (r : Reps K mg H vs as) (h : atI as i = some a) : ∃ v, atI vs i = some v ∧ Rep.rep K mg H v a := by
  unfold atI at h ⊢
  rw [r.length]
  cases e : ixN as.length i with
  | none => rw [e] at h; cases h
  | some j =>
    rw [e] at h
    exact reps_get r h
theorem ix_or {r r' : R2} (h : IxR X r) (h' : IxR X r') : IxR X (fun x y H Q => r x y H Q ∨ r' x y H Q) := fun a b pins s σ H x y v u Q I rx ry q hs => by
  rcases q with q | q
  · exact h a b pins s σ H x y v u Q I rx ry q hs
  · exact h' a b pins s σ H x y v u Q I rx ry q hs
theorem n_idx [Lk s α] {x y : Expr} {b1 b2 : Bool} {ma : Res s} {mb : Res Int} {pos : Pos} (hx : PE X x (tP b1 F L O ma)) (hy : PE X y (tP b2 F L O mb)) (hp : PlainIx y := by exact fun _ _ => rfl) (hK : X.K = F.K := by rfl) :
    PE X (.Subscript x y pos) (tP b1 F L O (ma.bind fun x => mb.bind fun y => idx (Lk.its x) y)) := nf2 (pe_ix (ix_or ix_list ix_tup) hx hy hp) fun x y vx vy H σ Q g rx ry q => by
  unfold idx at q
  cases e : atI (Lk.its x) y with
  | none => rw [e] at q; exact q.elim
  | some a =>
    rw [e] at q
    obtain ⟨p, vs, h1, h2, h3⟩ := Lk.get rx
    obtain ⟨v, h4, h5⟩ := at_get h3 e
    subst h1
    cases ry
    rw [hK]
    rcases h2 with h2 | h2
    · exact .inl ⟨p, vs, y, v, rfl, rfl, rgn_sub.seq h2, h4, q v H g (Same.refl _) h5⟩
    · exact .inr ⟨p, vs, y, v, rfl, rfl, same_t rgn_sub h2, h4, q v H g (Same.refl _) h5⟩
/-- the places of a pair -/
theorem n_fst {x : Expr} {b1 : Bool} {ma : Res (α × β)} {pos : Pos} {j p'} (hx : PE X x (tP b1 F L O ma)) (hp : PlainIx (.Constant (.int 0) j p') := by exact fun _ _ => rfl) (hK : X.K = F.K := by rfl) :
    PE X (.Subscript x (.Constant (.int 0) j p') pos) (tP b1 F L O (ma.bind fun x => .ok x.1)) := pe_imp (pe_ix ix_tup hx pe_int hp) fun σ H Q ⟨g, q⟩ => by
  rw [out_bind] at q
  refine ⟨g, q.mono (fun x qx v1 H1 g1 s1 r1 => ?_) fun _ z => z⟩
  obtain ⟨p, a, b, h1, h2, h3, h4⟩ := r1
  subst h1
  rw [hK]
  exact ⟨p, _, 0, a, rfl, rfl, same_t rgn_sub h2, rfl, qx _ H1 g1 s1 h3⟩
theorem n_snd {x : Expr} {b1 : Bool} {ma : Res (α × β)} {pos : Pos} {j p'} (hx : PE X x (tP b1 F L O ma)) (hp : PlainIx (.Constant (.int 1) j p') := by exact fun _ _ => rfl) (hK : X.K = F.K := by rfl) :
    PE X (.Subscript x (.Constant (.int 1) j p') pos) (tP b1 F L O (ma.bind fun x => .ok x.2)) := pe_imp (pe_ix ix_tup hx pe_int hp) fun σ H Q ⟨g, q⟩ => by
  rw [out_bind] at q
  refine ⟨g, q.mono (fun x qx v1 H1 g1 s1 r1 => ?_) fun _ z => z⟩
  obtain ⟨p, a, b, h1, h2, h3, h4⟩ := r1
  subst h1
  rw [hK]
  exact ⟨p, _, 1, b, rfl, rfl, same_t rgn_sub h2, rfl, qx _ H1 g1 s1 h4⟩
/-! tuples -/
theorem n_tup2 {x y : Expr} {b : Bool} {ma : Res α} {mb : Res β} {k} {pos : Pos} (hx : PE X x (tP b F L O ma)) (hy : PE X y (tP b F L O mb)) (h1 : starEach [x, y] X.env = (false, eval x X.env) :: starEach [y] X.env := by rfl) (h2 : starEach [y] X.env = (false, eval y X.env) :: starEach [] X.env := by rfl) :
    PE X (.Tuple [x, y] k pos) (tP b F L O (ma.bind fun x => mb.bind fun y => .ok (x, y))) := pe_imp (pe_tup (pa_cons hx (pa_cons hy pa_nil h2) h1)) fun σ H Q ⟨g, q⟩ => by
  rw [out_bind] at q
  refine ⟨g, q.mono (fun x qx v1 H1 g1 s1 r1 => ?_) fun _ z => z⟩
  rw [out_bind] at qx
  refine ⟨g1, qx.mono (fun y qy v2 H2 g2 s2 r2 => ?_) fun H' ⟨a, b⟩ => ⟨a, s1.trans b⟩⟩
  refine ⟨by show 2 ≤ sizeLine; decide, fun p hp => qy _ _ (g2.grow (same_upd hp)) ((s1.trans s2).trans (same_upd hp)) ⟨p, v1, v2, rfl, .of (rgn_new g2 (same_upd hp) hp upd_same), Rep.mono (rgn_grow (s2.trans (same_upd hp))) r1, Rep.mono (rgn_grow (same_upd hp)) r2⟩⟩
/-! argument lists -/
def tL (b : Bool) (F : Fr) (L : List (Option Asr)) (O : List Own) (m : Res (List α)) : TA := fun σ H Q =>
  G F L O σ H ∧ Out F m (fun as => ∀ vs H', G F L O σ H' → Same H H' → Reps F.K F.mg (rgn b F O H') vs as → Q vs H') (XP F L O σ H)
theorem l_nil {b : Bool} : PA X [] (tL (α := α) b F L O (.ok [])) := pa_imp pa_nil fun σ H Q ⟨g, q⟩ => q [] H g (Same.refl _) .nil
theorem l_cons {b : Bool} {e : Expr} {es : List Expr} {ma : Res α} {mr : Res (List α)} (he : PE X e (tP b F L O ma)) (hr : PA X es (tL b F L O mr)) (hs : starEach (e :: es) X.env = (false, eval e X.env) :: starEach es X.env := by rfl) :
    PA X (e :: es) (tL b F L O (ma.bind fun x => mr.bind fun xs => .ok (x :: xs))) := pa_imp (pa_cons he hr hs) fun σ H Q ⟨g, q⟩ => by
  rw [out_bind] at q
  refine ⟨g, q.mono (fun x qx v1 H1 g1 s1 r1 => ?_) fun _ z => z⟩
  rw [out_bind] at qx
  refine ⟨g1, qx.mono (fun y qy v2 H2 g2 s2 r2 => ?_) fun H' ⟨a, b⟩ => ⟨a, s1.trans b⟩⟩
  exact qy _ H2 g2 (s1.trans s2) (.cons (Rep.mono (rgn_grow s2) r1) r2)
theorem l_star [Lk s α] {b : Bool} {e : Expr} {es : List Expr} {p : Pos} {ma : Res s} {mr : Res (List α)} (he : PE X e (tP b F L O ma)) (hr : PA X es (tL b F L O mr)) (hs : starEach (.Starred e p :: es) X.env = (true, eval e X.env) :: starEach es X.env := by rfl) (hK : X.K = F.K := by rfl) :
    PA X (.Starred e p :: es) (tL b F L O (ma.bind fun x => mr.bind fun xs => .ok (Lk.its x ++ xs))) := pa_imp (StX.pa_star he hr hs) fun σ H Q ⟨g, q⟩ => by
  rw [out_bind] at q
  refine ⟨g, q.mono (fun x qx v1 H1 g1 s1 r1 => ?_) fun _ z => z⟩
  rw [out_bind] at qx
  obtain ⟨a, vs, h1, h2, h3⟩ := Lk.get r1
  rw [hK]
  refine ⟨a, vs, h1, h2.elim (fun z => .inr (rgn_sub.seq z)) (fun z => .inl (same_t rgn_sub z)), g1, qx.mono (fun y qy v2 H2 g2 s2 r2 => ?_) fun H' ⟨a, b⟩ => ⟨a, s1.trans b⟩⟩
  exact qy _ H2 g2 (s1.trans s2) (reps_append (h3.mono (rgn_grow s2)) r2)
theorem f_lst {b : Bool} {es : List Expr} {m : Res (List α)} {pos : Pos} (h : PA X es (tL b F L O m)) : PE X (.List es pos) (tF b F L O (m.bind fun as => need (as.length ≤ sizeLine) (.ok as))) := pe_imp (pe_lst h) fun σ H Q ⟨g, q⟩ => by
  rw [out_bind] at q
  refine ⟨g, q.mono (fun as qx vs H1 g1 s1 r1 => ?_) fun _ z => z⟩
  rw [out_need] at qx
  exact ⟨by rw [r1.length]; exact qx.1, kf_new g1 (KF.mono s1 qx.2) r1⟩
theorem n_tupN {b : Bool} {es : List Expr} {m : Res (List α)} {x1} {pos : Pos} (h : PA X es (tL b F L O m)) : PE X (.Tuple es x1 pos) (tP b F L O (m.bind fun as => need (as.length ≤ sizeLine) (.ok (Tp.mk as)))) := pe_imp (pe_tup h) fun σ H Q ⟨g, q⟩ => by
  rw [out_bind] at q
  refine ⟨g, q.mono (fun as qx vs H1 g1 s1 r1 => ?_) fun _ z => z⟩
  rw [out_need] at qx
  exact ⟨by rw [r1.length]; exact qx.1, fun p hp => qx.2 _ _ (g1.grow (same_upd hp)) (s1.trans (same_upd hp)) ⟨p, vs, rfl, .of (rgn_new g1 (same_upd hp) hp upd_same), r1.mono (rgn_grow (same_upd hp))⟩⟩
/-! xs + ys, xs * n, slices -/
theorem f_cat {x y : Expr} {b : Bool} {ma mb : Res (List α)} {pos : Pos} (hx : PE X x (tP b F L O ma)) (hy : PE X y (tP b F L O mb)) :
    PE X (.BinOp x .Add y pos) (tF b F L O (ma.bind fun x => mb.bind fun y => need (x.length + y.length ≤ sizeLine) (.ok (x ++ y)))) := nf2f (pe_op op_cat hx hy) fun x y vx vy H σ Q g rx ry q => by
  rw [out_need] at q
  obtain ⟨p, vs, rfl, h2, h3⟩ := rx
  obtain ⟨p', vs', rfl, h2', h3'⟩ := ry
  exact ⟨p, p', vs, vs', rfl, rfl, rgn_sub _ _ h2, rgn_sub _ _ h2', by rw [h3.length, h3'.length]; exact q.1, kf_new g q.2 (reps_append h3 h3')⟩
theorem reps_rep {K : Fg} {mg : MG} {H : Hp} {vs : List V} {as : List α} (r : Reps K mg H vs as) : ∀ n : Nat, Reps K mg H (List.replicate n vs).flatten (List.replicate n as).flatten
  | 0 => .nil
  | n + 1 => by
    rw [List.replicate_succ, List.replicate_succ, List.flatten_cons, List.flatten_cons]
    exact reps_append r (reps_rep r n)
theorem f_rep {x y : Expr} {b b2 : Bool} {ma : Res (List α)} {mb : Res Int} {pos : Pos} (hx : PE X x (tP b F L O ma)) (hy : PE X y (tP b2 F L O mb)) :
    PE X (.BinOp x .Mult y pos) (tF b F L O (ma.bind fun x => mb.bind fun n => need (Rg63 n ∧ x.length * n.toNat ≤ sizeLine) (.ok (List.replicate n.toNat x).flatten))) := nf2f (pe_op op_rep hx hy) fun x y vx vy H σ Q g rx ry q => by
  rw [out_need] at q
  obtain ⟨p, vs, rfl, h2, h3⟩ := rx
  cases ry
  exact ⟨p, y, vs, rfl, rfl, rgn_sub _ _ h2, q.1.1.1, q.1.1.2, by rw [h3.length]; exact q.1.2, kf_new g q.2 (reps_rep h3 _)⟩
def cut (xs : List α) (lo hi : Option Int) : List α := List.take (HT.sIx xs.length xs.length hi - HT.sIx xs.length 0 lo) (List.drop (HT.sIx xs.length 0 lo) xs)
def tO (F : Fr) (L : List (Option Asr)) (O : List Own) (m : Res (Option Int)) : TO := fun σ H Q =>
  G F L O σ H ∧ Out F m (fun a => ∀ H', G F L O σ H' → Same H H' → Q a H') (XP F L O σ H)
theorem po_imp {e : Option Expr} {t t' : TO} (h : PO X e t) (i : ∀ σ H Q, t' σ H Q → t σ H Q) : PO X e t' := ⟨fun pins s σ H Q I q => h.run pins s σ H Q I (i σ H Q q)⟩
theorem o_none : PO X none (tO F L O (.ok none)) := po_imp po_none fun σ H Q ⟨g, q⟩ => q H g (Same.refl _)
theorem o_some {e : Expr} {b : Bool} {m : Res Int} (h : PE X e (tP b F L O m)) : PO X (some e) (tO F L O (m.bind fun i => .ok (some i))) := po_imp (po_some h) fun σ H Q ⟨g, q⟩ => by
  rw [out_bind] at q
  exact ⟨g, q.mono (fun i k v H' g' s r => ⟨i, r, k H' g' s⟩) fun _ z => z⟩
theorem f_slice {x : Expr} {b : Bool} {ma : Res (List α)} {lo hi : Option Expr} {ml mh : Res (Option Int)} {p1 p2 : Pos} (hx : PE X x (tP b F L O ma)) (hl : PO X lo (tO F L O ml)) (hh : PO X hi (tO F L O mh)) :
    PE X (.Subscript x (.Slice lo hi none p2) p1) (tF b F L O (ma.bind fun x => ml.bind fun l => mh.bind fun h => .ok (cut x l h))) := pe_imp (pe_slice sl_list hx hl hh) fun σ H Q ⟨g, q⟩ => by
  rw [out_bind] at q
  refine ⟨g, q.mono (fun x qx v1 H1 g1 s1 r1 => ?_) fun _ z => z⟩
  rw [out_bind] at qx
  refine ⟨g1, qx.mono (fun l ql H2 g2 s2 => ?_) fun H' ⟨a, b⟩ => ⟨a, s1.trans b⟩⟩
  rw [out_bind] at ql
  refine ⟨g2, ql.mono (fun h qh H3 g3 s3 => ?_) fun H' ⟨a, b⟩ => ⟨a, (s1.trans s2).trans b⟩⟩
  obtain ⟨p, vs, rfl, h2, h3⟩ := r1
  refine ⟨p, vs, rfl, .of ((s2.trans s3) _ _ (rgn_sub _ _ h2)), kf_new g3 (KF.mono ((s1.trans s2).trans s3) qh) ?_⟩
  have e : vs.length = x.length := h3.length
  unfold cutV cut
  rw [e]
  exact reps_take _ (reps_drop _ (h3.mono (rgn_grow (s2.trans s3))))
/-! built-ins of one and of two arguments -/
def RC1 (F : Fr) (L : List (Option Asr)) (O : List Own) (b1 b3 : Bool) (r : List V → Hp → VK → Prop) (mc : α → Res γ) : Prop :=
  ∀ x vx H σ Q, G F L O σ H → rp F (rgn b1 F O H) vx x → Out F (mc x) (KP γ b3 F L O σ H Q) (XP F L O σ H) → r [vx] H Q
theorem nc1 {e : Expr} {b1 b3 : Bool} {r : List V → Hp → VK → Prop} {ma : Res α} {mc : α → Res γ} (h : PE X e (tCB r (tCons (tP b1 F L O ma) tNil))) (hr : RC1 F L O b1 b3 r mc) :
    PE X e (tP b3 F L O (ma.bind mc)) := pe_imp h fun σ H Q ⟨g, q⟩ => by
  rw [out_bind] at q
  refine ⟨g, q.mono (fun x qx v1 H1 g1 s1 r1 => ?_) fun _ z => z⟩
  exact hr x v1 H1 σ Q g1 r1 (qx.mono (fun z kz v H' g' s' r' => kz v H' g' (s1.trans s') r') fun H' ⟨a, b⟩ => ⟨a, s1.trans b⟩)
def RC1F (F : Fr) (L : List (Option Asr)) (O : List Own) (b1 b3 : Bool) (r : List V → Hp → VK → Prop) (mc : α → Res (List γ)) : Prop :=
  ∀ x vx H σ Q, G F L O σ H → rp F (rgn b1 F O H) vx x → Out F (mc x) (KF γ b3 F L O σ H Q) (XP F L O σ H) → r [vx] H Q
theorem nc1f {e : Expr} {b1 b3 : Bool} {r : List V → Hp → VK → Prop} {ma : Res α} {mc : α → Res (List γ)} (h : PE X e (tCB r (tCons (tP b1 F L O ma) tNil))) (hr : RC1F F L O b1 b3 r mc) :
    PE X e (tF b3 F L O (ma.bind mc)) := pe_imp h fun σ H Q ⟨g, q⟩ => by
  rw [out_bind] at q
  refine ⟨g, q.mono (fun x qx v1 H1 g1 s1 r1 => ?_) fun _ z => z⟩
  exact hr x v1 H1 σ Q g1 r1 (qx.mono (fun z kz => KF.mono s1 kz) fun H' ⟨a, b⟩ => ⟨a, s1.trans b⟩)
theorem nc2 {e : Expr} {b1 b2 b3 : Bool} {r : List V → Hp → VK → Prop} {ma : Res α} {mb : Res β} {mc : α → β → Res γ} (h : PE X e (tCB r (tCons (tP b1 F L O ma) (tCons (tP b2 F L O mb) tNil))))
    (hr : ∀ x y vx vy H σ Q, G F L O σ H → rp F (rgn b1 F O H) vx x → rp F (rgn b2 F O H) vy y → Out F (mc x y) (KP γ b3 F L O σ H Q) (XP F L O σ H) → r [vx, vy] H Q) :
    PE X e (tP b3 F L O (ma.bind fun x => mb.bind fun y => mc x y)) := pe_imp h fun σ H Q ⟨g, q⟩ => by
  rw [out_bind] at q
  refine ⟨g, q.mono (fun x qx v1 H1 g1 s1 r1 => ?_) fun _ z => z⟩
  rw [out_bind] at qx
  refine ⟨g1, qx.mono (fun y qy v2 H2 g2 s2 r2 => ?_) fun H' ⟨a, b⟩ => ⟨a, s1.trans b⟩⟩
  exact hr x y v1 v2 H2 σ Q g2 (Rep.mono (rgn_grow s2) r1) r2 (qy.mono (fun z kz v H' g' s' r' => kz v H' g' ((s1.trans s2).trans s') r') fun H' ⟨a, b⟩ => ⟨a, (s1.trans s2).trans b⟩)
theorem n_len [Lk s α] {e : Expr} {b1 b3 : Bool} {ma : Res s} {r} (h : PE X e (tCB r (tCons (tP b1 F L O ma) tNil))) (er : r = fun xs H Q => ∃ p ys, xs = [V.ref p] ∧ (SqL X.K H p ys ∨ SqT X.K H p ys) ∧ Q (V.int ys.length) H) (hK : X.K = F.K := by rfl) : PE X e (tP b3 F L O (ma.bind fun x => .ok ((Lk.its x).length : Int))) := nc1 h fun x vx H σ Q g rx q => by
  subst er
  obtain ⟨p, vs, rfl, h2, h3⟩ := Lk.get rx
  rw [hK]
  refine ⟨p, vs, rfl, h2.elim (fun z => .inl (rgn_sub.seq z)) (fun z => .inr (same_t rgn_sub z)), ?_⟩
  rw [h3.length]
  exact kp_flat g q
end
end NF

set_option Elab.async false
set_option linter.all false
set_option maxRecDepth 100000
/-! Nf3: statements, defs, calls. -/
namespace NF
open PySem PySem.Spec PyProof.Rows L2
open Data (toD)
section
variable {X : Cx} {F : Fr} {L : List (Option Asr)} {O : List Own} {α β γ s ι : Type} [Rep α] [Rep β] [Rep γ] [Rep s] [Rep ι]

/-! owned objects may be let go -/
theorem GO.sub {O' : List Own} {H : Hp} (g : GO F O H) (h : List.Sublist O' O) : GO F O' H where
  objs := fun w hw => let ⟨o, ho, p⟩ := g.objs w (h.subset hw); ⟨o, ho, w.mono (less_sub fun a ha => by
    rcases List.mem_append.mp ha with z | z
    · exact List.mem_append_left _ ((h.map Own.a).subset z)
    · exact List.mem_append_right _ z) p⟩
  nd := g.nd.sublist (h.map Own.a)
  own := fun w hw => g.own w (h.subset hw)
  keep := g.keep
  live := g.live
  hid := g.hid
  apart := fun w hw => g.apart w (h.subset hw)
  facts := fun z hz => z.mono (less_sub fun a ha => by
    rcases List.mem_append.mp ha with z | z
    · exact List.mem_append_left _ ((h.map Own.a).subset z)
    · exact List.mem_append_right _ z) (g.facts z hz)
theorem rg_sub {O' : List Own} {H : Hp} (h : List.Sublist O' O) : Same (rg F O H) (rg F O' H) := less_sub fun a ha => by
  rcases List.mem_append.mp ha with z | z
  · exact List.mem_append_left _ ((h.map Own.a).subset z)
  · exact List.mem_append_right _ z

/-! ### statements -/
abbrev XPS (F : Fr) : Hp → Prop := fun H' => GO F F.O0 H'
/-- goes on -/
def tN {β : Type} (F : Fr) (L : List (Option Asr)) (O : List Own) (m : Res β) (L' : β → List (Option Asr)) (O' : β → List Own) : TS := fun D σ H =>
  G F L O σ H ∧ Out F m (fun b => ∀ σ' H', G F (L' b) (O' b) σ' H' → D.nx σ' H') (XPS F)
/-- hands back -/
def tT {β : Type} (F : Fr) (L : List (Option Asr)) (O : List Own) (m : Res β) (Ret : β → V → Hp → Prop) : TS := fun D σ H =>
  G F L O σ H ∧ Out F m (fun b => ∀ v H', Ret b v H' → D.rt v H') (XPS F)
/-- goes on or hands back -/
def tM {β δ : Type} (F : Fr) (L : List (Option Asr)) (O : List Own) (m : Res (Sum β δ)) (L' : β → List (Option Asr)) (O' : β → List Own) (Ret : δ → V → Hp → Prop) : TS := fun D σ H =>
  G F L O σ H ∧ Out F m (fun r => match r with
    | .inl b => ∀ σ' H', G F (L' b) (O' b) σ' H' → D.nx σ' H'
    | .inr d => ∀ v H', Ret d v H' → D.rt v H') (XPS F)
theorem pss_ex {ι : Type} {st : List Stmt} {t : ι → TS} (h : ∀ b, PSs X st (t b)) : PSs X st (fun D σ H => ∃ b, t b D σ H) := ⟨fun pins s σ H D I ⟨b, q⟩ => (h b).run pins s σ H D I q⟩
variable {st : Stmt} {rest : List Stmt} {B B' D' : Type} {Ret : D' → V → Hp → Prop} {L' : B → List (Option Asr)} {O' : B → List Own} {L2' : B' → List (Option Asr)} {O2' : B' → List Own}
theorem b_N {m1 : Res B} {m2 : B → Res D'} (h1 : PS X st (tN F L O m1 L' O')) (h2 : ∀ b, PSs X rest (tT F (L' b) (O' b) (m2 b) Ret)) : PSs X (st :: rest) (tT F L O (m1.bind m2) Ret) := pss_imp (pss_cons h1 (pss_ex h2)) fun D σ H ⟨g, q⟩ => by
  rw [out_bind] at q
  exact ⟨g, q.mono (fun b k σ' H' g' => ⟨b, g', k⟩) fun _ z => z⟩
theorem n_N {m1 : Res B} {m2 : B → Res B'} (h1 : PS X st (tN F L O m1 L' O')) (h2 : ∀ b, PSs X rest (tN F (L' b) (O' b) (m2 b) L2' O2')) : PSs X (st :: rest) (tN F L O (m1.bind m2) L2' O2') := pss_imp (pss_cons h1 (pss_ex h2)) fun D σ H ⟨g, q⟩ => by
  rw [out_bind] at q
  exact ⟨g, q.mono (fun b k σ' H' g' => ⟨b, g', k⟩) fun _ z => z⟩
theorem m_N {m1 : Res B} {m2 : B → Res (Sum B' D')} (h1 : PS X st (tN F L O m1 L' O')) (h2 : ∀ b, PSs X rest (tM F (L' b) (O' b) (m2 b) L2' O2' Ret)) : PSs X (st :: rest) (tM F L O (m1.bind m2) L2' O2' Ret) := pss_imp (pss_cons h1 (pss_ex h2)) fun D σ H ⟨g, q⟩ => by
  rw [out_bind] at q
  exact ⟨g, q.mono (fun b k σ' H' g' => ⟨b, g', k⟩) fun _ z => z⟩
/-- the end of a block that goes on; slots and owned objects may be forgotten -/
def wk : List (Option Asr) → List (Option Asr) → Prop
  | [], [] => True
  | x :: xs, y :: ys => (y = none ∨ y = x) ∧ wk xs ys
  | _, _ => False
theorem wk_ok {R : Hp} : ∀ {l l' : List (Option Asr)} {σ : L2.St}, wk l l' → Paired (SlotOk R) l σ → Paired (SlotOk R) l' σ
  | [], [], _, _, h => h
  | _ :: _, _ :: _, _, ⟨w, ws⟩, .cons h hs => .cons (by
      rcases w with rfl | rfl
      · trivial
      · exact h) (wk_ok ws hs)
  | [], _ :: _, _, w, _ => w.elim
  | _ :: _, [], _, w, _ => w.elim
theorem G.to {L'' : List (Option Asr)} {O'' : List Own} {σ : L2.St} {H : Hp} (g : G F L O σ H) (h : wk L L'') (ho : List.Sublist O'' O) : G F L'' O'' σ H :=
  ⟨L2.Paired.mapP (wk_ok h g.slots) fun _ _ q => q.mono (rg_sub ho), g.go.sub ho⟩
theorem n_end (b : B) (h : wk L (L' b)) (ho : List.Sublist (O' b) O) : PSs X [] (tN F L O (.ok b) L' O') := pss_imp pss_nil fun D σ H ⟨g, q⟩ => q σ H (g.to h ho)
theorem m_end (b : B) (h : wk L (L' b)) (ho : List.Sublist (O' b) O) : PSs X [] (tM F L O (.ok (.inl b)) L' O' Ret) := pss_imp pss_nil fun D σ H ⟨g, q⟩ => q σ H (g.to h ho)
theorem m_T {m : Res D'} {st : List Stmt} (h : PSs X st (tT F L O m Ret)) : PSs X st (tM F L O (m.bind fun d => .ok (.inr d)) L' O' Ret) := pss_imp h fun D σ H ⟨g, q⟩ => by
  rw [out_bind] at q
  exact ⟨g, q⟩
theorem b_s {m : Res D'} (h : PS X st (tT F L O m Ret)) : PSs X [st] (tT F L O m Ret) := pss_one h
/-! names -/
def tNx (i : Nat) (te : TE) : TS := tAsg te (gName i)
theorem set_ok {R : Hp} {v : V} {p : Option Asr} (h : SlotOk R p (some v)) : ∀ {l : List (Option Asr)} {σ : L2.St} (i : Nat), Paired (SlotOk R) l σ → Paired (SlotOk R) (l.set i p) (σ.set i (some v))
  | _, _, _, .nil => .nil
  | _, _, 0, .cons _ t => .cons h t
  | _, _, n + 1, .cons q t => .cons q (set_ok h n t)
theorem go_s {H' : Hp} {O₀ : List Own} (g : GO F O H') (h : List.Sublist O₀ O) : GO F O₀ H' := g.sub h
/-- goes on, with a new owned object at p -/
def tNp {β : Type} (F : Fr) (L : List (Option Asr)) (O : List Own) (m : Res β) (L' : Addr → β → List (Option Asr)) (O' : Addr → β → List Own) : TS := fun D σ H =>
  G F L O σ H ∧ Out F m (fun b => ∀ p σ' H', G F (L' p b) (O' p b) σ' H' → D.nx σ' H') (XPS F)
section
variable {L' : Addr → B → List (Option Asr)} {O' : Addr → B → List Own}
theorem b_Np {m1 : Res B} {m2 : B → Res D'} (h1 : PS X st (tNp F L O m1 L' O')) (h2 : ∀ b p, PSs X rest (tT F (L' p b) (O' p b) (m2 b) Ret)) : PSs X (st :: rest) (tT F L O (m1.bind m2) Ret) := pss_imp (pss_cons h1 (pss_ex fun b => pss_ex (h2 b))) fun D σ H ⟨g, q⟩ => by
  rw [out_bind] at q
  exact ⟨g, q.mono (fun b k p σ' H' g' => ⟨b, p, g', k⟩) fun _ z => z⟩
theorem n_Np {m1 : Res B} {m2 : B → Res B'} (h1 : PS X st (tNp F L O m1 L' O')) (h2 : ∀ b p, PSs X rest (tN F (L' p b) (O' p b) (m2 b) L2' O2')) : PSs X (st :: rest) (tN F L O (m1.bind m2) L2' O2') := pss_imp (pss_cons h1 (pss_ex fun b => pss_ex (h2 b))) fun D σ H ⟨g, q⟩ => by
  rw [out_bind] at q
  exact ⟨g, q.mono (fun b k p σ' H' g' => ⟨b, p, g', k⟩) fun _ z => z⟩
theorem m_Np {m1 : Res B} {m2 : B → Res (Sum B' D')} (h1 : PS X st (tNp F L O m1 L' O')) (h2 : ∀ b p, PSs X rest (tM F (L' p b) (O' p b) (m2 b) L2' O2' Ret)) : PSs X (st :: rest) (tM F L O (m1.bind m2) L2' O2' Ret) := pss_imp (pss_cons h1 (pss_ex fun b => pss_ex (h2 b))) fun D σ H ⟨g, q⟩ => by
  rw [out_bind] at q
  exact ⟨g, q.mono (fun b k p σ' H' g' => ⟨b, p, g', k⟩) fun _ z => z⟩
end
section
variable {x : Str} {e : Expr} {pos pos' : Pos} (i : Nat)
/-- x = e -/
theorem s_set (hN : X.N.Nodup) (hO : List.Sublist F.O0 O) {m : Res α} (he : PE X e (tP true F L O m)) (hi : X.N[i]? = some x := by rfl) (hx : L2.Loc X.env.scope x := by first | exact .inl rfl | exact .inr rfl) (hs : swapsWith e (some (.Name x pos')) pos.line X.env = pure false := by rfl) (hf : X.fn x = true ∨ X.env.scope.names.lookup x = some .local := by first | exact .inl rfl | exact .inr rfl) :
    PS X (.Assign [.Name x pos'] e pos) (tN F L O m (fun a => L.set i (vl F.K F.mg a)) (fun _ => O)) := ps_imp (ps_set (i := i) hN hi hx he hs hf) fun D σ H ⟨g, q⟩ =>
  ⟨g, q.mono (fun a k v H1 g1 s1 r1 => k _ _ ⟨set_ok (p := vl F.K F.mg a) r1 i g1.slots, g1.go⟩) fun H' ⟨a, _⟩ => a.go.sub hO⟩
theorem rg_new {H H1 : Hp} {p : Addr} {w : Own} (hw : w.a = p) (e : Same H H1) (h1 : H p = none) : Same (rg F O H) (rg F (w :: O) H1) := fun b o q => by
  unfold rg at q ⊢
  by_cases hb : b ∈ addrs O ++ F.A
  · rw [less_in hb] at q; cases q
  · rw [less_out hb] at q
    rw [less_out (by
      intro z
      rcases List.mem_append.mp z with z | z
      · rcases List.mem_cons.mp z with z | z
        · rw [z, hw, h1] at q; cases q
        · exact hb (List.mem_append_left _ z)
      · exact hb (List.mem_append_right _ z))]
    exact e b o q
theorem go_new {σ : L2.St} {H H1 : Hp} {p : Addr} {vs : List V} {as : List α} (g : G F L O σ H) (g1 : GO F O H1) (e : Same H H1) (h1 : H p = none) (h2 : H1 p = some (.lst vs)) (r : Reps F.K F.mg (less (rg F O H1) [p]) vs as) : GO F (ow F.K F.mg p as :: O) H1 where
  objs := fun w hw => by
    rcases List.mem_cons.mp hw with rfl | hw
    · refine ⟨_, h2, vs, rfl, r.mono fun b o q => ?_⟩
      unfold rg
      by_cases hb : b ∈ [p]
      · rw [less_in hb] at q; cases q
      · rw [less_out hb] at q
        unfold rg at q
        by_cases hc : b ∈ addrs O ++ F.A
        · rw [less_in hc] at q; cases q
        · rw [less_out hc] at q
          rw [less_out]
          · exact q
          · intro z
            rcases List.mem_cons.mp (show b ∈ p :: (addrs O ++ F.A) from z) with z | z
            · exact hb (List.mem_singleton.mpr z)
            · exact hc z
    · obtain ⟨o, ho, hp⟩ := g.go.objs w hw
      exact ⟨o, e _ _ ho, w.mono (rg_new rfl e h1) hp⟩
  nd := by
    refine List.nodup_cons.mpr ⟨fun z => ?_, g1.nd⟩
    exact g.go.out h1 (List.mem_append_left _ z)
  own := fun w hw => by
    rcases List.mem_cons.mp hw with rfl | hw
    · refine .inr ?_
      cases q : F.H0 p with
      | none => exact q
      | some o => exact (g.go.live p (by rw [q]; simp) h1).elim
    · exact g1.own w hw
  keep := g1.keep
  live := g1.live
  hid := g1.hid
  apart := fun w hw => by
    rcases List.mem_cons.mp hw with rfl | hw
    · exact fun z => g.go.out h1 (List.mem_append_right _ z)
    · exact g1.apart w hw
  facts := fun z hz => z.mono (rg_new rfl e h1) (g.go.facts z hz)
/-- x = a new list, owned from now on -/
theorem s_own (hN : X.N.Nodup) (hO : List.Sublist F.O0 O) {m : Res (List α)} (he : PE X e (tF true F L O m)) (hi : X.N[i]? = some x := by rfl) (hx : L2.Loc X.env.scope x := by first | exact .inl rfl | exact .inr rfl) (hs : swapsWith e (some (.Name x pos')) pos.line X.env = pure false := by rfl) (hf : X.fn x = true ∨ X.env.scope.names.lookup x = some .local := by first | exact .inl rfl | exact .inr rfl) :
    PS X (.Assign [.Name x pos'] e pos) (tNp F L O m (fun p _ => L.set i (rf p)) (fun p as => ow F.K F.mg p as :: O)) := ps_imp (ps_set (i := i) hN hi hx he hs hf) fun D σ H ⟨g, q⟩ =>
  ⟨g, q.mono (fun as k p vs H1 g1 s1 h1 h2 r1 => k p _ _ ⟨set_ok (p := rf p) rfl i (L2.Paired.mapP g.slots fun _ _ z => z.mono (rg_new rfl s1 h1)), go_new g g1.go s1 h1 h2 r1⟩) fun H' ⟨a, _⟩ => a.go.sub hO⟩
end
/-! if -/
section
variable {c : Expr} {mc : Res Bool} {body orelse : List Stmt} {pos : Pos}
theorem b_if {m1 m2 : Res D'} (hc : PT X c (tB' F L O mc)) (hb : PSs X body (tT F L O m1 Ret)) (hr : PSs X rest (tT F L O m2 Ret)) (hO : List.Sublist F.O0 O) : PSs X (.If c body [] pos :: rest) (tT F L O (mc.bind fun c => if c then m1 else m2) Ret) := pss_imp (pss_cons (ps_if hc hb pss_nil) hr) fun D σ H ⟨g, q⟩ => by
  rw [out_bind] at q
  refine ⟨g, q.mono (fun c k H1 g1 s1 => ?_) fun H' ⟨a, _⟩ => a.go.sub hO⟩
  cases c with
  | true => exact ⟨g1, k⟩
  | false => exact ⟨g1, k⟩
theorem b_ife {m1 m2 : Res D'} (hc : PT X c (tB' F L O mc)) (hb : PSs X body (tT F L O m1 Ret)) (hr : PSs X orelse (tT F L O m2 Ret)) (hO : List.Sublist F.O0 O) : PS X (.If c body orelse pos) (tT F L O (mc.bind fun c => if c then m1 else m2) Ret) := ps_imp (ps_if hc hb hr) fun D σ H ⟨g, q⟩ => by
  rw [out_bind] at q
  refine ⟨g, q.mono (fun c k H1 g1 s1 => ?_) fun H' ⟨a, _⟩ => a.go.sub hO⟩
  cases c with
  | true => exact ⟨g1, k⟩
  | false => exact ⟨g1, k⟩
theorem s_if {m1 m2 : Res B} (hc : PT X c (tB' F L O mc)) (hb : PSs X body (tN F L O m1 L' O')) (hr : PSs X orelse (tN F L O m2 L' O')) (hO : List.Sublist F.O0 O) : PS X (.If c body orelse pos) (tN F L O (mc.bind fun c => if c then m1 else m2) L' O') := ps_imp (ps_if hc hb hr) fun D σ H ⟨g, q⟩ => by
  rw [out_bind] at q
  refine ⟨g, q.mono (fun c k H1 g1 s1 => ?_) fun H' ⟨a, _⟩ => a.go.sub hO⟩
  cases c with
  | true => exact ⟨g1, k⟩
  | false => exact ⟨g1, k⟩
theorem m_if {m1 : Res D'} {m2 : Res (Sum B D')} (hc : PT X c (tB' F L O mc)) (hb : PSs X body (tT F L O m1 Ret)) (hr : PSs X rest (tM F L O m2 L' O' Ret)) (hO : List.Sublist F.O0 O) : PSs X (.If c body [] pos :: rest) (tM F L O (mc.bind fun c => if c then (m1.bind fun d => .ok (.inr d)) else m2) L' O' Ret) := pss_imp (pss_cons (ps_if hc hb pss_nil) hr) fun D σ H ⟨g, q⟩ => by
  rw [out_bind] at q
  refine ⟨g, q.mono (fun c k H1 g1 s1 => ?_) fun H' ⟨a, _⟩ => a.go.sub hO⟩
  cases c with
  | true =>
    simp only [if_true] at k
    rw [out_bind] at k
    exact ⟨g1, k⟩
  | false => exact ⟨g1, k⟩
end
/-! return -/
def rV {ρ : Type} [Rep ρ] (F : Fr) (b : ρ) (v : V) (H : Hp) : Prop := GO F [] H ∧ rp F (rg F [] H) v b
def rF (F : Fr) (as : List α) (v : V) (H : Hp) : Prop := ∃ p vs, v = .ref p ∧ GO F [] H ∧ F.H0 p = none ∧ p ∉ F.A ∧ H p = some (.lst vs) ∧ Reps F.K F.mg (less (rg F [] H) [p]) vs as
theorem b_ret {m : Res α} {e : Expr} {pos : Pos} (he : PE X e (tP true F L O m)) (hO : List.Sublist F.O0 O) : PSs X [.Return (some e) pos] (tT F L O m (rV F)) := pss_one (ps_imp (ps_ret he) fun D σ H ⟨g, q⟩ =>
  ⟨g, q.mono (fun a k v H1 g1 s1 r1 => k v H1 ⟨g1.go.sub (List.nil_sublist _), Rep.mono (rg_sub (List.nil_sublist _)) r1⟩) fun H' ⟨a, _⟩ => a.go.sub hO⟩)
theorem b_retF {m : Res (List α)} {e : Expr} {pos : Pos} (he : PE X e (tF true F L O m)) (hO : List.Sublist F.O0 O) : PSs X [.Return (some e) pos] (tT F L O m (rF F)) := pss_one (ps_imp (ps_ret he) fun D σ H ⟨g, q⟩ =>
  ⟨g, q.mono (fun a k p vs H1 g1 s1 h1 h2 r1 => k _ H1 ⟨p, vs, rfl, g1.go.sub (List.nil_sublist _), by
    cases q : F.H0 p with
    | none => rfl
    | some o => exact (g.go.live p (by rw [q]; simp) h1).elim, fun z => g.go.out h1 (List.mem_append_right _ z), h2, r1.mono (less_mono fun b o _ q => rg_sub (List.nil_sublist _) b o q)⟩) fun H' ⟨a, _⟩ => a.go.sub hO⟩)
/-- return of an owned list -/
theorem b_retO {as : List α} {O1 : List Own} {p : Addr} {x : Str} {pos' pos : Pos} (i : Nat) (hL : L[i]? = some (rf p) := by rfl) (hO1 : (ow F.K F.mg p as :: O1).Perm O) (hW : F.W = []) (hO : List.Sublist F.O0 O) (hN : X.N[i]? = some x := by rfl) (hv : Vis X.env.scope x := by first | exact Or.inl rfl | exact Or.inr (Or.inl rfl) | exact Or.inr (Or.inr rfl)) (hd : (x == ("__debug__" : Str)) = false := by decide)
    (hcd : (x == ("__classdict__" : Str)) = false := by decide) : PSs X [.Return (some (.Name x pos')) pos] (tT F L O (.ok as) (rF F)) := pss_one (ps_imp (ps_ret (pe_var hN hv hd hcd)) fun D σ H ⟨g, q⟩ => by
  obtain ⟨v, h1, h2⟩ := g.slot hL
  have hm : ow F.K F.mg p as ∈ O := hO1.subset List.mem_cons_self
  obtain ⟨o, h3, vs, h4, h5⟩ := g.go.objs _ hm
  subst h4
  refine ⟨v, h1, q v H ⟨p, vs, h2, g.go.sub (List.nil_sublist _), ?_, g.go.apart _ hm, h3, h5.mono fun b o z => ?_⟩⟩
  · rcases g.go.own _ hm with z | z
    · rw [hW] at z; cases z
    · exact z
  · have hb : b ∉ addrs O ++ F.A := fun y => by unfold rg at z; rw [less_in y] at z; cases z
    unfold rg at z ⊢
    rw [less_out hb] at z
    rw [less_out (fun y => hb (List.mem_append_left _ (by
      rw [List.mem_singleton.mp y]
      exact List.mem_map.mpr ⟨_, hm, rfl⟩))), show addrs ([] : List Own) ++ F.A = F.A from rfl, less_out (fun y => hb (List.mem_append_right _ y))]
    exact z)
end
end NF

set_option Elab.async false
set_option linter.all false
set_option maxRecDepth 100000
/-! Nf4: promises, defs, calls. -/
namespace NF
open PySem PySem.Spec PyProof.Rows L2
open Data (toD)
/-- the frame of a def that changes nothing -/
abbrev F0 (K : Fg) (mg : MG) (H : Hp) (A : List Addr) (E : XK) : Fr := ⟨K, mg, H, [], A, [], E, []⟩
/-- the frame of a def that changes a list -/
abbrev F1 {α : Type} [Rep α] (K : Fg) (mg : MG) (H : Hp) (A : List Addr) (E : XK) (p : Addr) (xs : List α) : Fr := ⟨K, mg, H, [p], A, [ow K mg p xs], E, []⟩
section
variable (K : Fg) (mg : MG) {τ ρ α : Type} [RepA τ] [Rep ρ] [Rep α]
/-- hands back what mir says; nothing that stood changes; nothing is raised -/
def spP (mir : τ → Res ρ) : Sp := fun vs H Q _ => ∃ (a : τ) (A : List Addr), (∀ x ∈ A, H x ≠ none) ∧ RepA.rep K mg (less H A) vs a ∧
  Out (F0 K mg H A E0) (mir a) (fun r => ∀ v H', Same H H' → Rep.rep K mg (less H' A) v r → Q v H') (fun H' => Same H H')
/-- .. a new list -/
def spF (mir : τ → Res (List α)) : Sp := fun vs H Q _ => ∃ (a : τ) (A : List Addr), (∀ x ∈ A, H x ≠ none) ∧ RepA.rep K mg (less H A) vs a ∧
  Out (F0 K mg H A E0) (mir a) (fun as => ∀ p ws H', Same H H' → H p = none → H' p = some (.lst ws) → Reps K mg (less (less H' A) [p]) ws as → Q (.ref p) H') (fun H' => Same H H')
/-- .. or raises -/
def spX (mir : τ → Res ρ) : Sp := fun vs H Q E => ∃ (a : τ) (A : List Addr), (∀ x ∈ A, H x ≠ none) ∧ RepA.rep K mg (less H A) vs a ∧
  Out (F0 K mg H A E) (mir a) (fun r => ∀ v H', Same H H' → Rep.rep K mg (less H' A) v r → Q v H') (fun H' => Same H H')
end
theorem go_start {K : Fg} {mg : MG} {H : Hp} {A : List Addr} {E : XK} (hA : ∀ x ∈ A, H x ≠ none) : GO (F0 K mg H A E) [] H :=
  ⟨fun _ h => (nomatch h), List.nodup_nil, fun _ h => (nomatch h), fun _ _ h _ => h, fun _ h => h, hA, fun _ h => (nomatch h), fun _ h => (nomatch h)⟩
theorem go_same {K : Fg} {mg : MG} {H H' : Hp} {A : List Addr} {E : XK} (g : GO (F0 K mg H A E) [] H') : Same H H' := fun a o h => g.keep a o h (fun z => nomatch z)
theorem go_of_same {K : Fg} {mg : MG} {H H' : Hp} {A : List Addr} {E : XK} (hA : ∀ x ∈ A, H x ≠ none) (e : Same H H') : GO (F0 K mg H A E) [] H' := (go_start hA).grow e
theorem out_xp {α : Type} {F : Fr} {m : Res α} {k : α → Prop} {xp xp' : Hp → Prop} (h : Out F m k xp) (hx : ∀ H', xp' H' → xp H') : Out F m k xp' := h.mono (fun _ z => z) hx
section
variable {P : Program} {w : World} {K : PySem.W.Frag} {mg : Str → Option Value} {base : Heap} {τ ρ α : Type} [RepA τ] [Rep ρ] [Rep α]
variable {x qual : Str} {st : Stmt} {f : Addr} {fd : FuncData} {N ps : List Str} {k : Nat}
theorem def_P {mir : τ → Res ρ} (Fu : Fun K x qual st f fd) (S : FnScope N ps (defScope st)) (L0 : τ → List (Option Asr)) (hl : ∀ (vs : List V) (R : Hp) (a : τ), RepA.rep K mg R vs a → vs.length = ps.length ∧ Paired (SlotOk R) (L0 a) (start N vs))
    (body : ∀ (cdv : Value) (A : Around) (outer : List Env) (s : Shared) (H : Hp) (Av : List Addr) (E : XK) (a : τ), Room k (A.deeper (envOfC qual (defScope st) s.heap.objs.size f cdv)) →
      PSs (cxOf CX0 P w K mg base N qual (defScope st) f cdv A outer s H E).nox (defBody st) (tT (F0 K mg H Av E0) (L0 a) [] (mir a) (rV (F0 K mg H Av E0)))) :
    FnOk P w K mg base CX0 (k + 1) f fd ps (spP K mg mir) := by
  refine Fu.ok S (fun vs H Q E ⟨a, A, _, h, _⟩ => (hl vs _ a h).1) (fun cdv A outer s H vs Q E hr ⟨a, Av, hA, h, q⟩ => ⟨_, body cdv A outer s H Av E a hr, ⟨(hl vs _ a h).2, go_start hA⟩, ?_⟩)
  exact q.mono (fun r k v H' ⟨g, r'⟩ => k v H' (go_same g) r') fun H' g => go_same g
/-- .. that may fall off its end (None) -/
theorem def_F {mir : τ → Res (List α)} (Fu : Fun K x qual st f fd) (S : FnScope N ps (defScope st)) (L0 : τ → List (Option Asr)) (hl : ∀ (vs : List V) (R : Hp) (a : τ), RepA.rep K mg R vs a → vs.length = ps.length ∧ Paired (SlotOk R) (L0 a) (start N vs))
    (body : ∀ (cdv : Value) (A : Around) (outer : List Env) (s : Shared) (H : Hp) (Av : List Addr) (E : XK) (a : τ), Room k (A.deeper (envOfC qual (defScope st) s.heap.objs.size f cdv)) →
      PSs (cxOf CX0 P w K mg base N qual (defScope st) f cdv A outer s H E).nox (defBody st) (tT (F0 K mg H Av E0) (L0 a) [] (mir a) (rF (F0 K mg H Av E0)))) :
    FnOk P w K mg base CX0 (k + 1) f fd ps (spF K mg mir) := by
  refine Fu.ok S (fun vs H Q E ⟨a, A, _, h, _⟩ => (hl vs _ a h).1) (fun cdv A outer s H vs Q E hr ⟨a, Av, hA, h, q⟩ => ⟨_, body cdv A outer s H Av E a hr, ⟨(hl vs _ a h).2, go_start hA⟩, ?_⟩)
  exact q.mono (fun r k v H' ⟨p, ws, e, g, h1, h2, h3, h4⟩ => by subst e; exact k p ws H' (go_same g) h1 h3 h4) fun H' g => go_same g
theorem def_X {mir : τ → Res ρ} (Fu : Fun K x qual st f fd) (S : FnScope N ps (defScope st)) (L0 : τ → List (Option Asr)) (hl : ∀ (vs : List V) (R : Hp) (a : τ), RepA.rep K mg R vs a → vs.length = ps.length ∧ Paired (SlotOk R) (L0 a) (start N vs))
    (body : ∀ (cdv : Value) (A : Around) (outer : List Env) (s : Shared) (H : Hp) (Av : List Addr) (E : XK) (a : τ), Room k (A.deeper (envOfC qual (defScope st) s.heap.objs.size f cdv)) →
      PSs (cxOf (CX P w) P w K mg base N qual (defScope st) f cdv A outer s H E) (defBody st) (tT (F0 K mg H Av E) (L0 a) [] (mir a) (rV (F0 K mg H Av E)))) :
    FnOk P w K mg base (CX P w) (k + 1) f fd ps (spX K mg mir) := by
  refine Fu.okX S (fun vs H Q E ⟨a, A, _, h, _⟩ => (hl vs _ a h).1) (fun cdv A outer s H vs Q E hr ⟨a, Av, hA, h, q⟩ => ⟨_, body cdv A outer s H Av E a hr, ⟨(hl vs _ a h).2, go_start hA⟩, ?_⟩)
  exact q.mono (fun r k v H' ⟨g, r'⟩ => k v H' (go_same g) r') fun H' g => go_same g
end
/-! ### calls -/
section
variable {X : Cx} {F : Fr} {L : List (Option Asr)} {O : List Own} {τ ρ α : Type} [RepA τ] [Rep ρ] [Rep α]
theorem a_nil {b : Bool} : PA X [] (tA b F L O (.ok ())) := pa_imp pa_nil fun σ H Q ⟨g, q⟩ => q [] H g (Same.refl _) rfl
theorem a_cons {b : Bool} {e : Expr} {es : List Expr} {ma : Res α} {mr : Res τ} (he : PE X e (tP b F L O ma)) (hr : PA X es (tA b F L O mr)) (hs : starEach (e :: es) X.env = (false, eval e X.env) :: starEach es X.env := by rfl) :
    PA X (e :: es) (tA b F L O (ma.bind fun x => mr.bind fun r => .ok (Ar.mk x r))) := pa_imp (pa_cons he hr hs) fun σ H Q ⟨g, q⟩ => by
  rw [out_bind] at q
  refine ⟨g, q.mono (fun x qx v1 H1 g1 s1 r1 => ?_) fun _ z => z⟩
  rw [out_bind] at qx
  refine ⟨g1, qx.mono (fun y qy v2 H2 g2 s2 r2 => ?_) fun H' ⟨a, b⟩ => ⟨a, s1.trans b⟩⟩
  exact qy _ H2 g2 (s1.trans s2) ⟨v1, v2, rfl, Rep.mono (rgn_grow s2) r1, r2⟩
def avoid (b : Bool) (F : Fr) (O : List Own) : List Addr := if b then addrs O ++ F.A else []
theorem rgn_avoid {b : Bool} {H : Hp} : rgn b F O H = less H (avoid b F O) := by
  cases b
  · funext a
    show H a = less H [] a
    rw [less_out List.not_mem_nil]
  · rfl
theorem GO.avoided {b : Bool} {H : Hp} (g : GO F O H) : ∀ x ∈ avoid b F O, H x ≠ none := fun x hx => by
  cases b with
  | false => exact (List.not_mem_nil (show x ∈ ([] : List Addr) from hx)).elim
  | true => exact fun z => g.out z hx
variable {k : Nat} {f : Addr} {fd : FuncData} {ps : List Str} {x : Str} {p pos : Pos} {e : Expr} {es : List Expr} {b : Bool}
theorem call_core {mir : τ → Res ρ} {m : Res τ} {e : Expr} {E : XK} {sp : Sp} (hE : F.E = E) (hsp : ∀ vs H Q, (∃ (a : τ) (A : List Addr), (∀ x ∈ A, H x ≠ none) ∧ RepA.rep F.K F.mg (less H A) vs a ∧
    Out (F0 F.K F.mg H A E) (mir a) (fun r => ∀ v H', Same H H' → Rep.rep F.K F.mg (less H' A) v r → Q v H') (fun H' => Same H H')) → sp vs H Q E) (h : PE X e (tCall sp [] E (tA b F L O m))) : PE X e (tP b F L O (m.bind mir)) := pe_imp h fun σ H Q ⟨g, q⟩ => by
  rw [out_bind] at q
  refine ⟨g, q.mono (fun a qa vs H1 g1 s1 r1 => ?_) fun _ z => z⟩
  show sp (vs ++ []) H1 Q E
  rw [List.append_nil]
  refine hsp _ _ _ ⟨a, avoid b F O, g1.go.avoided, by rw [← rgn_avoid]; exact r1, ?_⟩
  subst hE
  cases e : mir a with
  | ok r =>
    rw [e] at qa
    exact fun v H' s2 r2 => qa v H' (g1.grow s2) (s1.trans s2) (by rw [rgn_avoid]; exact r2)
  | err c fs =>
    rw [e] at qa
    exact fun C d H' h1 h2 h4 => qa C d H' h1 (h2.older g1.go.live) ⟨g1.grow h4, s1.trans h4⟩
  | bad =>
    rw [e] at qa
    exact qa.elim
theorem callF_core {mir : τ → Res (List α)} {m : Res τ} {e : Expr} {E : XK} {sp : Sp} (hE : F.E = E) (hsp : ∀ vs H Q, (∃ (a : τ) (A : List Addr), (∀ x ∈ A, H x ≠ none) ∧ RepA.rep F.K F.mg (less H A) vs a ∧
    Out (F0 F.K F.mg H A E) (mir a) (fun as => ∀ p ws H', Same H H' → H p = none → H' p = some (.lst ws) → Reps F.K F.mg (less (less H' A) [p]) ws as → Q (.ref p) H') (fun H' => Same H H')) → sp vs H Q E) (h : PE X e (tCall sp [] E (tA b F L O m))) : PE X e (tF b F L O (m.bind mir)) := pe_imp h fun σ H Q ⟨g, q⟩ => by
  rw [out_bind] at q
  refine ⟨g, q.mono (fun a qa vs H1 g1 s1 r1 => ?_) fun _ z => z⟩
  show sp (vs ++ []) H1 Q E
  rw [List.append_nil]
  refine hsp _ _ _ ⟨a, avoid b F O, g1.go.avoided, by rw [← rgn_avoid]; exact r1, ?_⟩
  subst hE
  cases e : mir a with
  | ok r =>
    rw [e] at qa
    exact fun p ws H' s2 h1 h2 r2 => qa p ws H' (g1.grow s2) (s1.trans s2) (s1.free h1) h2 (by rw [rgn_avoid]; exact r2)
  | err c fs =>
    rw [e] at qa
    exact fun C d H' h1 h2 h4 => qa C d H' h1 (h2.older g1.go.live) ⟨g1.grow h4, s1.trans h4⟩
  | bad =>
    rw [e] at qa
    exact qa.elim
/-- f(..), f of nothing raised, from a def that raises nothing -/
theorem n_call {mir : τ → Res ρ} {m : Res τ} (Gf : FnOk X.prog X.w X.K X.mg X.base CX0 k f fd ps (spP X.K X.mg mir)) (hr : Room k X.A) (hm : X.mg x = some (.ref f)) (hk : PySem.W.keepIn X.K (.ref f) = true) (hb : Binds X.K fd ps [])
    (ha : PA X (e :: es) (tA b F L O m)) (hg : Gl X x := by rfl) (hE : F.E = E0 := by rfl) (hK : X.K = F.K := by rfl) (hM : X.mg = F.mg := by rfl) (hd : (x == ("__debug__" : Str)) = false := by decide)
    (hs : starEach (e :: es) X.env = (false, eval e X.env) :: starEach es X.env := by rfl) (hs2 : ((backTo pos (starEach es X.env)).any fun x => x.fst) = false := by rfl) : PE X (.Call (.Name x p) (e :: es) [] pos) (tP b F L O (m.bind mir)) :=
  call_core (sp := spP X.K X.mg mir) hE (fun vs H Q q => by rw [← hK, ← hM] at q; exact q) (pe_call Gf hr hg hm hk hb .nil pass0 ha hd hs hs2)
theorem f_call {mir : τ → Res (List α)} {m : Res τ} (Gf : FnOk X.prog X.w X.K X.mg X.base CX0 k f fd ps (spF X.K X.mg mir)) (hr : Room k X.A) (hm : X.mg x = some (.ref f)) (hk : PySem.W.keepIn X.K (.ref f) = true) (hb : Binds X.K fd ps [])
    (ha : PA X (e :: es) (tA b F L O m)) (hg : Gl X x := by rfl) (hE : F.E = E0 := by rfl) (hK : X.K = F.K := by rfl) (hM : X.mg = F.mg := by rfl) (hd : (x == ("__debug__" : Str)) = false := by decide)
    (hs : starEach (e :: es) X.env = (false, eval e X.env) :: starEach es X.env := by rfl) (hs2 : ((backTo pos (starEach es X.env)).any fun x => x.fst) = false := by rfl) : PE X (.Call (.Name x p) (e :: es) [] pos) (tF b F L O (m.bind mir)) :=
  callF_core (sp := spF X.K X.mg mir) hE (fun vs H Q q => by rw [← hK, ← hM] at q; exact q) (pe_call Gf hr hg hm hk hb .nil pass0 ha hd hs hs2)
end
end NF

set_option Elab.async false
set_option linter.all false
set_option maxRecDepth 100000
/-! Nf5: what is walked; loops; comprehensions. -/
namespace NF
open PySem PySem.Spec PyProof.Rows L2
open Data (toD)
section
variable {X : Cx} {F : Fr} {L : List (Option Asr)} {O : List Own} {α β γ s : Type} [Rep α] [Rep β] [Rep γ] [Rep s]
theorem pi_seq {tg l : Expr} {tl : TE} (hl : PE X l tl) : PI X tg l (fun σ H R => tl σ H fun x H1 => ∃ a xs, x = .ref a ∧ ((SqL X.K H1 a xs ∧ R (Itl X.K a) H1) ∨ (SqT X.K H1 a xs ∧ R (Itt X.K a) H1))) := by
  refine ⟨fun pins s σ H R I h => ?_⟩
  refine thn (hl.run pins s σ H _ I h) fun v s1 ⟨x, H1, I1, r1, q1⟩ => ?_
  obtain ⟨a, xs, e, q⟩ := q1
  subst e
  cases r1
  rcases q with ⟨hq, q⟩ | ⟨hq, q⟩
  · obtain ⟨its, rv, p, hz⟩ := I1.list hq
    refine wpAny_pyIter_list p.isList ?_
    refine ⟨s1.heap.objs.size, [s1.heap.objs.size], _, _, H1, rfl, I1.kept (t' := s1.toks) fun b o e => Heap.get?_push_of_some _ e, turn_list a _, ⟨_, Heap.get?_push_size _ rfl, rfl, rfl⟩, fun b hb => ?_, q⟩
    have e : b = s1.heap.objs.size := by simpa using hb
    subst e
    exact I1.fpOk (Nat.le_refl _) (I1.hok.fresh (Nat.le_refl _))
  · obtain ⟨its, rv, p, hz⟩ := I1.tuple hq
    refine wpAny_pyIter_tuple (show s1.heap.IsTuple a its.toArray from p) ?_
    refine ⟨s1.heap.objs.size, [s1.heap.objs.size], _, _, H1, rfl, I1.kept (t' := s1.toks) fun b o e => Heap.get?_push_of_some _ e, turn_tuple a _, ⟨_, Heap.get?_push_size _ rfl, rfl, rfl⟩, fun b hb => ?_, q⟩
    have e : b = s1.heap.objs.size := by simpa using hb
    subst e
    exact I1.fpOk (Nat.le_refl _) (I1.hok.fresh (Nat.le_refl _))
/-- a walk over things that stand for as -/
structure Src (K : Fg) (mg : MG) (J : It) (as : List α) where
  src : Hp → Prop
  mono : ∀ {H H' : Hp}, Same H H' → src H → src H'
  Y : Nat → Hp → V → Hp → Prop
  walk : Walk J as.length src Y
  ylds : ∀ i H x H', Y i H x H' → Same H H' ∧ ∀ Av : List Addr, (∀ a ∈ Av, H a ≠ none) → src (less H Av) → ∀ a, as[i]? = some a → Rep.rep K mg (less H' Av) x a
def tI (b : Bool) (F : Fr) (L : List (Option Asr)) (O : List Own) (m : Res (List α)) : TI := fun σ H R =>
  G F L O σ H ∧ Out F m (fun as => ∀ J H' (S : Src F.K F.mg J as), G F L O σ H' → Same H H' → S.src (rgn b F O H') → R J H') (XP F L O σ H)
theorem pi_imp {tg e : Expr} {t t' : TI} (h : PI X tg e t) (i : ∀ σ H Q, t' σ H Q → t σ H Q) : PI X tg e t' := ⟨fun pins s σ H Q I q => h.run pins s σ H Q I (i σ H Q q)⟩
def srcL {K : Fg} {mg : MG} {a : Addr} {vs : List V} {as : List α} (hl : vs.length = as.length) : Src K mg (Itl K a) as where
  src H := SqL K H a vs ∧ Reps K mg H vs as
  mono e h := ⟨e.seq h.1, h.2.mono e⟩
  Y := YAt vs
  walk := by rw [← hl]; exact (walk_list (K := K) (a := a) (xs := vs)).mono (fun H h => h.1) (fun i H x H' _ _ y => y)
  ylds i H x H' y := by
    obtain ⟨rfl, y⟩ := y
    refine ⟨Same.refl _, fun Av _ h a ha => ?_⟩
    obtain ⟨v, h1, h2⟩ := reps_get h.2 ha
    rw [y] at h1
    cases h1
    exact h2
def srcT {K : Fg} {mg : MG} {a : Addr} {vs : List V} {as : List α} (hl : vs.length = as.length) : Src K mg (Itt K a) as where
  src H := SqT K H a vs ∧ Reps K mg H vs as
  mono e h := ⟨same_t e h.1, h.2.mono e⟩
  Y := YAt vs
  walk := by rw [← hl]; exact (walk_tup (K := K) (a := a) (xs := vs)).mono (fun H h => h.1) (fun i H x H' _ _ y => y)
  ylds i H x H' y := by
    obtain ⟨rfl, y⟩ := y
    refine ⟨Same.refl _, fun Av _ h a ha => ?_⟩
    obtain ⟨v, h1, h2⟩ := reps_get h.2 ha
    rw [y] at h1
    cases h1
    exact h2
theorem i_lk [Lk s α] {tg e : Expr} {b : Bool} {m : Res s} (h : PE X e (tP b F L O m)) (hK : X.K = F.K := by rfl) : PI X tg e (tI b F L O (m.bind fun x => .ok (Lk.its x))) := pi_imp (pi_seq h) fun σ H R ⟨g, q⟩ => by
  rw [out_bind] at q
  refine ⟨g, q.mono (fun x k v H1 g1 s1 r1 => ?_) fun _ z => z⟩
  obtain ⟨p, vs, h1, h2, h3⟩ := Lk.get r1
  refine ⟨p, vs, h1, ?_⟩
  rw [hK]
  rcases h2 with h2 | h2
  · exact .inl ⟨rgn_sub.seq h2, k _ H1 (srcL h3.length) g1 s1 ⟨h2, h3⟩⟩
  · exact .inr ⟨same_t rgn_sub h2, k _ H1 (srcT h3.length) g1 s1 ⟨h2, h3⟩⟩
def irange (lo hi : Int) : List Int := (List.range (hi - lo).toNat).map fun i : Nat => lo + i
theorem irange_len (lo hi : Int) : (irange lo hi).length = (hi - lo).toNat := by unfold irange; simp
def srcR {K : Fg} {mg : MG} {lo hi : Int} : Src K mg (Itr lo (hi - lo).toNat) (irange lo hi) where
  src H := True
  mono e h := h
  Y := YFn fun i => .int (lo + i)
  walk := by rw [irange_len]; exact walk_range
  ylds i H x H' y := by
    obtain ⟨rfl, y⟩ := y
    refine ⟨Same.refl _, fun Av _ h a ha => ?_⟩
    subst y
    unfold irange at ha
    rw [List.getElem?_map] at ha
    cases e : (List.range (hi - lo).toNat)[i]? with
    | none => rw [e] at ha; cases ha
    | some j =>
      rw [e] at ha
      have : j = i := by
        have := List.getElem?_eq_some_iff.mp e
        obtain ⟨h1, h2⟩ := this
        rw [List.getElem_range] at h2
        exact h2.symm
      subst this
      cases ha
      rfl
theorem i_range1 {tg e : Expr} {b b' : Bool} {m : Res Int} {p pos : Pos} (h : PE X e (tP b F L O m)) (hm : X.mg "range" = none) (hg : Gl X "range" := by rfl) (h1 : starEach [e] X.env = (false, eval e X.env) :: starEach [] X.env := by rfl) (hs : starEach [e] X.env = [(false, eval e X.env)] := by rfl) :
    PI X tg (.Call (.Name "range" p) [e] [] pos) (tI b' F L O (m.bind fun n => need (Rg62 n) (.ok (irange 0 n)))) := pi_imp (pi_range1 hg hm (pa_cons h pa_nil h1) hs) fun σ H R ⟨g, q⟩ => by
  rw [out_bind] at q
  refine ⟨g, q.mono (fun n k v H1 g1 s1 r1 => ?_) fun _ z => z⟩
  rw [out_need] at k
  cases r1
  refine ⟨n, rfl, k.1.1, k.1.2, ?_⟩
  have S : Src F.K F.mg (Itr 0 (n - 0).toNat) (irange 0 n) := srcR
  have e : (n - 0).toNat = n.toNat := by rw [Int.sub_zero]
  have kk := k.2 (Itr 0 (n - 0).toNat) H1 srcR g1 s1 trivial
  rw [e] at kk
  exact kk
theorem i_range2 {tg e e2 : Expr} {b b1 b' : Bool} {m m2 : Res Int} {p pos : Pos} (h : PE X e (tP b F L O m)) (h2 : PE X e2 (tP b1 F L O m2)) (hm : X.mg "range" = none) (hg : Gl X "range" := by rfl)
    (hs1 : starEach [e, e2] X.env = (false, eval e X.env) :: starEach [e2] X.env := by rfl) (hs2 : starEach [e2] X.env = (false, eval e2 X.env) :: starEach [] X.env := by rfl) (hs : starEach [e, e2] X.env = [(false, eval e X.env), (false, eval e2 X.env)] := by rfl) (hs3 : starEach [e2] X.env = [(false, eval e2 X.env)] := by rfl) :
    PI X tg (.Call (.Name "range" p) [e, e2] [] pos) (tI b' F L O (m.bind fun lo => m2.bind fun hi => need (Rg62 lo ∧ Rg62 hi) (.ok (irange lo hi)))) := pi_imp (pi_range2 hg hm (pa_cons h (pa_cons h2 pa_nil hs2) hs1) hs hs3) fun σ H R ⟨g, q⟩ => by
  rw [out_bind] at q
  refine ⟨g, q.mono (fun n k v H1 g1 s1 r1 => ?_) fun _ z => z⟩
  rw [out_bind] at k
  refine ⟨g1, k.mono (fun n2 k v H2 g2 s2 r2 => ?_) fun H' ⟨a, b⟩ => ⟨a, s1.trans b⟩⟩
  rw [out_need] at k
  cases r1
  cases r2
  exact ⟨n, n2, rfl, ⟨k.1.1.1, k.1.1.2, k.1.2.1, k.1.2.2⟩, k.2 _ H2 srcR g2 (s1.trans s2) trivial⟩
/-! ### targets -/
theorem wipe_get (σ : L2.St) : ∀ (vs : List Nat) (k : Nat), (wipe σ vs)[k]? = if k ∈ vs then σ[k]?.map (fun _ => none) else σ[k]?
  | [], k => by simp [wipe]
  | v :: vs, k => by
    show ((wipe σ vs).set v none)[k]? = _
    rw [List.getElem?_set]
    by_cases h : v = k
    · subst h
      rw [if_pos rfl, if_pos List.mem_cons_self]
      have hl : (wipe σ vs).length = σ.length := wipe_length σ vs
      by_cases h2 : v < σ.length
      · rw [if_pos (by rw [hl]; exact h2)]
        simp [h2]
      · rw [if_neg (by rw [hl]; exact h2)]
        simp [h2]
    · rw [if_neg h, wipe_get σ vs k]
      by_cases h2 : k ∈ vs
      · rw [if_pos h2, if_pos (List.mem_cons_of_mem _ h2)]
      · rw [if_neg h2, if_neg (fun z => (List.mem_cons.mp z).elim (fun z => h z.symm) h2)]
theorem wipe_wipe (σ : L2.St) (vs : List Nat) : wipe (wipe σ vs) vs = wipe σ vs := by
  apply List.ext_getElem?
  intro k
  rw [wipe_get, wipe_get]
  by_cases h : k ∈ vs
  · rw [if_pos h, if_pos h]
    cases σ[k]? <;> rfl
  · rw [if_neg h, if_neg h]
def wipeL (L : List (Option Asr)) : List Nat → List (Option Asr)
  | [] => L
  | v :: vs => (wipeL L vs).set v none
theorem set_none {R : Hp} {o : Option V} : ∀ {l : List (Option Asr)} {σ : L2.St} (i : Nat), Paired (SlotOk R) l σ → Paired (SlotOk R) (l.set i none) (σ.set i o)
  | _, _, _, .nil => .nil
  | _, _, 0, .cons _ t => .cons trivial t
  | _, _, n + 1, .cons q t => .cons q (set_none n t)
theorem wipe_ok {R : Hp} {L : List (Option Asr)} {σ : L2.St} (h : Paired (SlotOk R) L σ) : ∀ vs : List Nat, Paired (SlotOk R) (wipeL L vs) (wipe σ vs)
  | [] => h
  | v :: vs => set_none v (wipe_ok h vs)
def TgOk (K : Fg) (mg : MG) (g : TG) (vs : List Nat) (bd : α → List (Option Asr) → List (Option Asr)) : Prop :=
  ∀ v a σ H R L Q, Same R H → Rep.rep K mg R v a → Paired (SlotOk R) L σ → (∀ σ', wipe σ' vs = wipe σ vs → Paired (SlotOk R) (bd a L) σ' → Q σ' H) → g v σ H Q
structure Tg (X : Cx) (K : Fg) (mg : MG) (tg : Expr) (g : TG) (vs : List Nat) (bd : α → List (Option Asr) → List (Option Asr)) : Prop where
  pg : PG X tg g
  ok : TgOk K mg g vs bd
variable {K : Fg} {mg : MG}
theorem tgok_name (i : Nat) : TgOk K mg (gName i) [i] (fun (a : α) L => L.set i (vl K mg a)) := fun v a σ H R L Q _ r h k => k _ (by show (σ.set i (some v)).set i none = σ.set i none; rw [List.set_set]) (set_ok (p := vl K mg a) r i h)
theorem tgok_pair (i j : Nat) (hij : i ≠ j) : TgOk K mg (gTup K 2 (gCons (gName i) (gCons (gName j) gNil))) [i, j] (fun (a : α × β) L => (L.set i (vl K mg a.1)).set j (vl K mg a.2)) := fun v a σ H R L Q e r h k => by
  obtain ⟨p, v1, v2, rfl, h2, h3, h4⟩ := r
  refine ⟨p, _, rfl, same_t e h2, rfl, v1, _, rfl, v2, _, rfl, rfl, ?_⟩
  refine k _ ?_ (set_ok (p := vl K mg a.2) h4 j (set_ok (p := vl K mg a.1) h3 i h))
  show ((((σ.set i (some v1)).set j (some v2)).set j none).set i none) = (σ.set j none).set i none
  rw [List.set_set, List.set_comm _ _ hij, List.set_set]
theorem tg_name (i : Nat) {x : Str} {pos : Pos} (hN : X.N.Nodup) (hi : X.N[i]? = some x := by rfl) (hx : L2.Loc X.env.scope x := by first | exact .inl rfl | exact .inr rfl) (hf : X.fn x = true ∨ X.env.scope.names.lookup x = some .local := by first | exact .inl rfl | exact .inr rfl) :
    Tg X K mg (.Name x pos) (gName i) [i] (fun (a : α) L => L.set i (vl K mg a)) := ⟨pg_name hN hi hx hf, tgok_name i⟩
theorem tg_pair (i j : Nat) {x y : Str} {p1 p2 pos : Pos} {kk : Nat} (hij : i ≠ j) (hc : X.calm = true) (hN : X.N.Nodup) (hi : X.N[i]? = some x := by rfl) (hj : X.N[j]? = some y := by rfl) (hx : L2.Loc X.env.scope x := by first | exact .inl rfl | exact .inr rfl) (hy : L2.Loc X.env.scope y := by first | exact .inl rfl | exact .inr rfl)
    (hf : X.fn x = true ∨ X.env.scope.names.lookup x = some .local := by first | exact .inl rfl | exact .inr rfl) (hf2 : X.fn y = true ∨ X.env.scope.names.lookup y = some .local := by first | exact .inl rfl | exact .inr rfl) (hK : X.K = K := by rfl)
    (h1 : (assignEach [.Name x p1, .Name y p2] X.env).map (·.2) = assign (.Name x p1) X.env :: (assignEach [.Name y p2] X.env).map (·.2) := by rfl) (h2 : (assignEach [.Name y p2] X.env).map (·.2) = assign (.Name y p2) X.env :: (assignEach [] X.env).map (·.2) := by rfl)
    (hn : (assignEach [.Name x p1, .Name y p2] X.env).length = 2 := by rfl) (hst : (assignEach [.Name x p1, .Name y p2] X.env).findIdx? (·.1) = none := by rfl) :
    Tg X K mg (.Tuple [.Name x p1, .Name y p2] kk pos) (gTup K 2 (gCons (gName i) (gCons (gName j) gNil))) [i, j] (fun (a : α × β) L => (L.set i (vl K mg a.1)).set j (vl K mg a.2)) :=
  ⟨by rw [← hK]; exact pg_tup hc (pgs_cons (pg_name hN hi hx hf) (pgs_cons (pg_name hN hj hy hf2) pgs_nil h2) h1) hn hst, tgok_pair i j hij⟩
/-! ### loops -/
def foldR {β : Type} (f : α → β → Res β) : List α → β → Res β
  | [], b => .ok b
  | a :: as, b => (f a b).bind fun b => foldR f as b
def foldM {β δ : Type} (f : α → β → Res (Sum β δ)) : List α → β → Res (Sum β δ)
  | [], b => .ok (.inl b)
  | a :: as, b => (f a b).bind fun r => match r with
    | .inl b => foldM f as b
    | .inr d => .ok (.inr d)
/-- what a loop hands on, said ahead -/
inductive Sp3 {B : Type} (L' : B → List (Option Asr)) (O' : B → List Own) (b0 : B) : Prop where | mk
inductive Sp2 {B : Type} (L' : B → List (Option Asr)) (O' : B → List Own) : Prop where | mk
inductive Sp1 (i : Nat) : Prop where | mk
def Fr.add (F : Fr) (z : Fact) : Fr := { F with Z := z :: F.Z }
theorem GO.add {H : Hp} (g : GO F O H) (z : Fact) (h : z.P (rg F O H)) : GO (F.add z) O H := ⟨g.objs, g.nd, g.own, g.keep, g.live, g.hid, g.apart, fun y hy => by
  rcases List.mem_cons.mp hy with rfl | hy
  · exact h
  · exact g.facts y hy⟩
theorem GO.unadd {H : Hp} {z : Fact} (g : GO (F.add z) O H) : GO F O H := ⟨g.objs, g.nd, g.own, g.keep, g.live, g.hid, g.apart, fun y hy => g.facts y (List.mem_cons_of_mem _ hy)⟩
theorem GO.fact {H : Hp} {z : Fact} (g : GO (F.add z) O H) : z.P (rg F O H) := g.facts z List.mem_cons_self
theorem out_add {β : Type} {z : Fact} {m : Res β} {k : β → Prop} {xp : Hp → Prop} : Out (F.add z) m k xp ↔ Out F m k xp := by cases m <;> exact Iff.rfl
theorem s_for {B : Type} {tg iter : Expr} {g : TG} {vs : List Nat} {bd : α → List (Option Asr) → List (Option Asr)} {m : Res (List α)} {f : α → B → Res B} {body : List Stmt} {pos : Pos} {L' : B → List (Option Asr)} {O' : B → List Own} {b0 : B} (sp : Sp3 L' O' b0)
    (hp : PassesOwn (model X.prog X.w) X.A X.env X.xe) (hc : X.calm = true) (hi : PI X tg iter (tI true F L O m)) (ht : Tg X F.K F.mg tg g vs bd) (hO : List.Sublist F.O0 O) (hw : wk L (L' b0)) (ho : List.Sublist (O' b0) O)
    (hb : ∀ z a b, PSs X body (tN (F.add z) (bd a (L' b)) (O' b) (f a b) L' O')) (hs : ∀ x, foldedSetIterable iter X.env x = pure x := by intro _; rfl) : PS X (.For tg iter body [] pos) (tN F L O (m.bind fun as => foldR f as b0) L' O') := by
  have hb' : PSs X body (fun D σ H => ∃ z a b, tN (F.add z) (bd a (L' b)) (O' b) (f a b) L' O' D σ H) := pss_ex fun z => pss_ex fun a => pss_ex fun b => hb z a b
  have hg : PG X tg g := ht.pg
  refine ps_imp (ps_for hp hc hi hg hb' hs) fun D σ H ⟨g0, q⟩ => ?_
  rw [out_bind] at q
  refine ⟨g0, q.mono (fun as k J H1 S g1 s1 hS => ?_) fun H' ⟨a, _⟩ => a.go.sub hO⟩
  have zf : ∃ z : Fact, z = ⟨S.src, fun e h => S.mono e h⟩ := ⟨_, rfl⟩
  obtain ⟨z, hz⟩ := zf
  refine for_it S.walk (g := g) (tb := fun D σ H => ∃ z a b, tN (F.add z) (bd a (L' b)) (O' b) (f a b) L' O' D σ H) (D := D) (σ := σ) (H := H1) (fun i σ H => ∃ b, G (F.add z) (L' b) (O' b) σ H ∧ Out F (foldR f (as.drop i) b) (fun b => ∀ σ' H', G F (L' b) (O' b) σ' H' → D.nx σ' H') (XPS F)) ⟨b0, ?_, k⟩ ?_ ?_ ?_
  · have g2 := g1.to hw ho
    refine ⟨g2.slots, g2.go.add z ?_⟩
    subst hz
    exact S.mono (rg_sub ho) hS
  · rintro i σ H _ ⟨b, g2, _⟩
    have h := g2.go.fact
    subst hz
    exact S.mono less_same h
  · rintro i x σ H H' hi ⟨b, g2, q2⟩ y
    have ha : as[i]? = some as[i] := List.getElem?_eq_getElem hi
    rw [List.drop_eq_getElem_cons hi] at q2
    rw [show foldR f (as[i] :: List.drop (i + 1) as) b = (f as[i] b).bind fun b => foldR f (List.drop (i + 1) as) b from rfl, out_bind] at q2
    obtain ⟨s2, yy⟩ := S.ylds i H x H' y
    have hsrc : S.src (rg F (O' b) H) := by
      have h := g2.go.fact
      subst hz
      exact h
    have r2 : rp (F.add z) (rg F (O' b) H') x as[i] := yy _ (fun a ha z => g2.go.out z ha) hsrc _ ha
    have g3 := g2.grow s2
    refine ht.ok x as[i] σ H' (rg F (O' b) H') (L' b) _ less_same r2 g3.slots fun σ2 _ hs2 => ?_
    exact ⟨z, as[i], b, ⟨hs2, g3.go⟩, out_add.mpr (q2.mono (fun b' kb σ' H'' g' => ⟨b', g', kb⟩) fun H'' (x : GO (F.add z) F.O0 H'') => x.unadd)⟩
  · rintro σ H ⟨b, g2, q2⟩
    rw [List.drop_length] at q2
    exact q2 σ H ⟨g2.slots, g2.go.unadd⟩
theorem s_forM {B D' : Type} {tg iter : Expr} {g : TG} {vs : List Nat} {bd : α → List (Option Asr) → List (Option Asr)} {m : Res (List α)} {f : α → B → Res (Sum B D')} {body : List Stmt} {pos : Pos} {Ret : D' → V → Hp → Prop} {L' : B → List (Option Asr)} {O' : B → List Own} {b0 : B} (sp : Sp3 L' O' b0)
    (hp : PassesOwn (model X.prog X.w) X.A X.env X.xe) (hc : X.calm = true) (hi : PI X tg iter (tI true F L O m)) (ht : Tg X F.K F.mg tg g vs bd) (hO : List.Sublist F.O0 O) (hw : wk L (L' b0)) (ho : List.Sublist (O' b0) O)
    (hb : ∀ z a b, PSs X body (tM (F.add z) (bd a (L' b)) (O' b) (f a b) L' O' Ret)) (hs : ∀ x, foldedSetIterable iter X.env x = pure x := by intro _; rfl) : PS X (.For tg iter body [] pos) (tM F L O (m.bind fun as => foldM f as b0) L' O' Ret) := by
  have hb' : PSs X body (fun D σ H => ∃ z a b, tM (F.add z) (bd a (L' b)) (O' b) (f a b) L' O' Ret D σ H) := pss_ex fun z => pss_ex fun a => pss_ex fun b => hb z a b
  have hg : PG X tg g := ht.pg
  refine ps_imp (ps_for hp hc hi hg hb' hs) fun D σ H ⟨g0, q⟩ => ?_
  rw [out_bind] at q
  refine ⟨g0, q.mono (fun as k J H1 S g1 s1 hS => ?_) fun H' ⟨a, _⟩ => a.go.sub hO⟩
  have zf : ∃ z : Fact, z = ⟨S.src, fun e h => S.mono e h⟩ := ⟨_, rfl⟩
  obtain ⟨z, hz⟩ := zf
  refine for_it S.walk (g := g) (tb := fun D σ H => ∃ z a b, tM (F.add z) (bd a (L' b)) (O' b) (f a b) L' O' Ret D σ H) (D := D) (σ := σ) (H := H1) (fun i σ H => ∃ b, G (F.add z) (L' b) (O' b) σ H ∧ Out F (foldM f (as.drop i) b) (fun r => match r with
    | .inl b => ∀ σ' H', G F (L' b) (O' b) σ' H' → D.nx σ' H'
    | .inr d => ∀ v H', Ret d v H' → D.rt v H') (XPS F)) ⟨b0, ?_, k⟩ ?_ ?_ ?_
  · have g2 := g1.to hw ho
    refine ⟨g2.slots, g2.go.add z ?_⟩
    subst hz
    exact S.mono (rg_sub ho) hS
  · rintro i σ H _ ⟨b, g2, _⟩
    have h := g2.go.fact
    subst hz
    exact S.mono less_same h
  · rintro i x σ H H' hi ⟨b, g2, q2⟩ y
    have ha : as[i]? = some as[i] := List.getElem?_eq_getElem hi
    rw [List.drop_eq_getElem_cons hi] at q2
    rw [show foldM f (as[i] :: List.drop (i + 1) as) b = (f as[i] b).bind fun r => match r with
      | .inl b => foldM f (List.drop (i + 1) as) b
      | .inr d => .ok (.inr d) from rfl, out_bind] at q2
    obtain ⟨s2, yy⟩ := S.ylds i H x H' y
    have hsrc : S.src (rg F (O' b) H) := by
      have h := g2.go.fact
      subst hz
      exact h
    have r2 : rp (F.add z) (rg F (O' b) H') x as[i] := yy _ (fun a ha z => g2.go.out z ha) hsrc _ ha
    have g3 := g2.grow s2
    refine ht.ok x as[i] σ H' (rg F (O' b) H') (L' b) _ less_same r2 g3.slots fun σ2 _ hs2 => ?_
    refine ⟨z, as[i], b, ⟨hs2, g3.go⟩, out_add.mpr (q2.mono (fun r kb => ?_) fun H'' (x : GO (F.add z) F.O0 H'') => x.unadd)⟩
    cases r with
    | inl b' => exact fun σ' H'' g' => ⟨b', g', kb⟩
    | inr d => exact fun v H'' hr => kb v H'' hr
  · rintro σ H ⟨b, g2, q2⟩
    rw [List.drop_length] at q2
    exact q2 σ H ⟨g2.slots, g2.go.unadd⟩
/-- .. and what follows, which hands back -/
def goOn {B D' : Type} (m : Res (Sum B D')) (f : B → Res D') : Res D' := m.bind fun r => match r with
  | .inl b => f b
  | .inr d => .ok d
theorem b_M {B D' : Type} {st : Stmt} {rest : List Stmt} {m1 : Res (Sum B D')} {m2 : B → Res D'} {L' : B → List (Option Asr)} {O' : B → List Own} {Ret : D' → V → Hp → Prop} (h1 : PS X st (tM F L O m1 L' O' Ret)) (h2 : ∀ b, PSs X rest (tT F (L' b) (O' b) (m2 b) Ret)) :
    PSs X (st :: rest) (tT F L O (goOn m1 m2) Ret) := pss_imp (pss_cons h1 (pss_ex h2)) fun D σ H ⟨g, q⟩ => by
  unfold goOn at q
  rw [out_bind] at q
  refine ⟨g, q.mono (fun r k => ?_) fun _ z => z⟩
  cases r with
  | inl b => exact fun σ' H' g' => ⟨b, g', k⟩
  | inr d => exact k
end
end NF

set_option Elab.async false
set_option linter.all false
set_option maxRecDepth 100000
/-! Nf6: comprehensions, zip, enumerate. -/
namespace NF
open PySem PySem.Spec PyProof.Rows L2
open Data (toD)
/-- nothing is raised -/
def Res.quiet {α : Type} : Res α → Res α
  | .ok a => .ok a
  | _ => .bad
def mapR {α β : Type} (f : α → Res β) : List α → Res (List β)
  | [] => .ok []
  | a :: as => (f a).bind fun y => (mapR f as).bind fun ys => .ok (y :: ys)
def filtR {α β : Type} (p : α → Res Bool) (f : α → Res β) : List α → Res (List β)
  | [] => .ok []
  | a :: as => (p a).bind fun c => if c then (f a).bind fun y => (filtR p f as).bind fun ys => .ok (y :: ys) else filtR p f as
theorem filtR_yes {α β : Type} (f : α → Res β) : ∀ as : List α, filtR (fun _ => .ok true) f as = mapR f as
  | [] => rfl
  | a :: as => by
    show ((f a).bind fun y => (filtR (fun _ => .ok true) f as).bind fun ys => .ok (y :: ys)) = _
    rw [filtR_yes f as]
    rfl
section
variable {X : Cx} {F : Fr} {L : List (Option Asr)} {O : List Own} {α β γ s : Type} [Rep α] [Rep β] [Rep γ] [Rep s]
def Fr.nox (F : Fr) : Fr := { F with E := E0 }
theorem GO.nox {H : Hp} (g : GO F O H) : GO F.nox O H := ⟨g.objs, g.nd, g.own, g.keep, g.live, g.hid, g.apart, g.facts⟩
/-- in a comprehension an error is nothing we know -/
theorem out_quiet {δ : Type} {m : Res δ} {k : δ → Prop} {xp xp' : Hp → Prop} (h : Out F m.quiet k xp) : Out F.nox m k xp' := by
  cases m with
  | ok a => exact h
  | err c fs => exact h.elim
  | bad => exact h.elim
def tYes' (F : Fr) (L : List (Option Asr)) (O : List Own) : TT := tB' F L O (.ok true)
theorem pts_imp {ifs : List Expr} {t t' : TT} (h : PTs X ifs t) (i : ∀ σ H Q, t' σ H Q → t σ H Q) : PTs X ifs t' := ⟨fun pins s σ H Q I q => h.run pins s σ H Q I (i σ H Q q)⟩
theorem ts_nil : PTs X [] (tB' F L O (.ok true)) := pts_imp pts_nil fun σ H Q ⟨g, q⟩ => q H g (Same.refl _)
theorem ts_one {c : Expr} {m : Res Bool} (h : PT X c (tB' F L O m)) : PTs X [c] (tB' F L O m) := pts_one h
theorem sz_min {n k : Nat} (h : n + k ≤ sizeLine) (hk : 0 < k) : n < sizeLine := by omega
def FlatP (α : Type) [Rep α] : Prop := ∀ {K : Fg} {mg : MG} {H H' : Hp} {v : V} {a : α}, Rep.rep K mg H v a → Rep.rep K mg H' v a
theorem flatP [Flat α] : FlatP α := fun h => Flat.iff.mpr (Flat.iff.mp h)
theorem comp_core {b : Bool} {g : TG} {vs : List Nat} {bd : α → List (Option Asr) → List (Option Asr)} {m : Res (List α)} {p : α → Res Bool} {f : α → Res β} {wi : TI} (tt : TT) (te : TE)
    (hi : wi = tI b F L O m) (hfl : b = true ∨ FlatP α) (ht : TgOk F.K F.mg g vs bd) (htt : tt = fun σ H Q => ∃ a D ds, tB' F.nox (bd a (wipeL L vs)) (ow (s := List β) F.K F.mg D ds :: O) (p a) σ H Q) (hte : te = fun σ H Q => ∃ a D ds, tP true F.nox (bd a (wipeL L vs)) (ow (s := List β) F.K F.mg D ds :: O) (f a) σ H Q) (σ : L2.St) (H : Hp) (Q : VK)
    (h : tF true F L O (m.bind fun as => need (as.length ≤ sizeLine) (filtR (fun a => (p a).quiet) (fun a => (f a).quiet) as)) σ H Q) : tLc wi g tt te vs σ H Q := by
  subst hi
  obtain ⟨g0, q⟩ := h
  rw [out_bind] at q
  refine ⟨g0, q.mono (fun as k J H1 S g1 s1 hS => ?_) fun _ z => z⟩
  rw [out_need] at k
  obtain ⟨hsz, k⟩ := k
  intro D hD
  refine lc_it S.walk (g := g) (tt := tt) (te := te) (vs := vs) (σ := σ) (H1 := H1) (D := D) (Qd := fun H => Q (.ref D) H)
    (fun i H => ∃ (ds : List β) (vd : List V), H D = some (.lst vd) ∧ ds.length + (as.length - i) ≤ sizeLine ∧ Reps F.K F.mg (less (rg F O H) [D]) vd ds ∧ Same H1 (less H [D]) ∧ Out F (filtR (fun a => (p a).quiet) (fun a => (f a).quiet) (as.drop i)) (fun rest => KF β true F L O σ H1 Q (ds ++ rest)) (fun _ => False))
    ⟨[], [], upd_same, ?_, .nil, ?_, ?_⟩ ?_ ?_ ?_
  · show 0 + (as.length - 0) ≤ sizeLine
    omega
  · intro a o ha
    have hne : a ≠ D := ne_of_none ha hD
    rw [less_out (fun z => hne (List.mem_singleton.mp z)), upd_ne hne]
    exact ha
  · exact k.mono (fun ds kk => (KF.mono s1 kk)) fun _ z => z.elim
  · rintro i H _ ⟨ds, vd, h1, _, h2, h3, _⟩
    exact S.mono (h3.trans less_same) (S.mono rgn_sub hS)
  · rintro i x H H' hi ⟨ds, vd, h1, hl, h2, h3, q2⟩ y
    have ha : as[i]? = some as[i] := List.getElem?_eq_getElem hi
    have sH : Same H1 H := h3.trans less_same
    have gH : G F L O σ H := g1.grow sH
    have go2 : GO F (ow F.K F.mg D ds :: O) H := go_new g1 gH.go sH hD h1 h2
    obtain ⟨s2, yy⟩ := S.ylds i H x H' y
    have g2 : G F L (ow F.K F.mg D ds :: O) σ H := ⟨L2.Paired.mapP g1.slots fun _ _ z => z.mono (rg_new rfl sH hD), go2⟩
    have g3 : G F L (ow F.K F.mg D ds :: O) σ H' := g2.grow s2
    have rx : rp F (rg F (ow F.K F.mg D ds :: O) H') x as[i] := by
      rcases hfl with e | e
      · subst e
        exact yy _ (fun a ha z => go2.out z ha) (S.mono (rg_new rfl sH hD) hS) _ ha
      · exact e (yy [] (fun _ z => (List.not_mem_nil z).elim) (S.mono (sH.trans (fun a o z => by rw [less_out List.not_mem_nil]; exact z)) (S.mono rgn_sub hS)) _ ha)
    have gn : G F.nox (wipeL L vs) (ow F.K F.mg D ds :: O) (wipe σ vs) H' := ⟨wipe_ok g3.slots vs, g3.go.nox⟩
    refine ht x as[i] (wipe σ vs) H' (rg F (ow F.K F.mg D ds :: O) H') (wipeL L vs) _ less_same rx gn.slots fun σ2 e2 hs2 => ?_
    refine ⟨e2.trans (wipe_wipe σ vs), ?_⟩
    rw [List.drop_eq_getElem_cons hi] at q2
    rw [show filtR (fun a => (p a).quiet) (fun a => (f a).quiet) (as[i] :: List.drop (i + 1) as) = ((p as[i]).quiet).bind fun c => if c then ((f as[i]).quiet).bind fun y => (filtR (fun a => (p a).quiet) (fun a => (f a).quiet) (List.drop (i + 1) as)).bind fun ys => .ok (y :: ys) else filtR (fun a => (p a).quiet) (fun a => (f a).quiet) (List.drop (i + 1) as) from rfl, out_bind] at q2
    have gb : G F.nox (bd as[i] (wipeL L vs)) (ow F.K F.mg D ds :: O) σ2 H' := ⟨hs2, gn.go⟩
    have lss : ∀ {H'' : Hp}, Same H' H'' → Same H1 (less H'' [D]) := fun {H''} e a o z => by
      have z1 := h3 a o z
      by_cases hb : a ∈ [D]
      · rw [less_in hb] at z1; cases z1
      · rw [less_out hb] at z1 ⊢
        exact e _ _ (s2 _ _ z1)
    have regD : ∀ {H'' : Hp} {ds' : List β}, Same (rg F (ow F.K F.mg D ds' :: O) H'') (less (rg F O H'') [D]) := fun {H'' ds'} a o z => by
      unfold rg at z ⊢
      by_cases hb : a ∈ addrs (ow F.K F.mg D ds' :: O) ++ F.A
      · rw [less_in hb] at z; cases z
      · rw [less_out hb] at z
        rw [less_out (fun y => hb (by rw [List.mem_singleton.mp y]; exact List.mem_append_left _ List.mem_cons_self)), less_out (A := addrs O ++ F.A) (fun y => hb (List.mem_cons_of_mem _ y))]
        exact z
    have keepR : ∀ {H'' : Hp}, Same H' H'' → Reps F.K F.mg (less (rg F O H'') [D]) vd ds := fun {H''} e => h2.mono (less_mono fun a o _ z => rg_grow (s2.trans e) a o z)
    subst htt hte
    refine ⟨as[i], D, ds, gb, out_quiet (q2.mono (fun c qc H3 g4 s3 => ?_) fun _ z => z)⟩
    cases c with
    | false =>
      refine ⟨ds, vd, ?_, by omega, keepR s3, lss s3, qc⟩
      exact s3 _ _ (s2 _ _ h1)
    | true =>
      simp only [if_true] at qc
      rw [out_bind] at qc
      refine ⟨as[i], D, ds, g4, out_quiet (qc.mono (fun y qy v H4 g5 s4 r5 => ?_) fun _ z => z)⟩
      have s34 : Same H' H4 := s3.trans s4
      have e4 : H4 D = some (.lst vd) := s34 _ _ (s2 _ _ h1)
      have lenv : vd.length = ds.length := h2.length
      refine ⟨vd, e4, by rw [lenv]; omega, ds ++ [y], vd ++ [v], upd_same, ?_, ?_, ?_, ?_⟩
      · rw [List.length_append, List.length_singleton]; omega
      · have eqr : ∀ {a o}, less (rg F O H4) [D] a = some o → less (rg F O (upd H4 D (.lst (vd ++ [v])))) [D] a = some o := fun {a o} z => by
          by_cases hb : a ∈ [D]
          · rw [less_in hb] at z; cases z
          · have hne : a ≠ D := fun y => hb (List.mem_singleton.mpr y)
            rw [less_out hb] at z ⊢
            unfold rg at z ⊢
            by_cases hc : a ∈ addrs O ++ F.A
            · rw [less_in hc] at z; cases z
            · rw [less_out hc] at z ⊢
              rw [upd_ne hne]
              exact z
        exact (reps_append (keepR s34) (.cons (Rep.mono regD r5) .nil)).mono fun a o z => eqr z
      · intro a o z
        have z1 := lss s34 a o z
        by_cases hb : a ∈ [D]
        · rw [less_in hb] at z1; cases z1
        · rw [less_out hb] at z1 ⊢
          rw [upd_ne (fun y => hb (List.mem_singleton.mpr y))]
          exact z1
      · rw [out_bind] at qy
        exact qy.mono (fun ys kk => by rw [List.append_assoc]; exact kk) fun _ z => z
  · rintro H ⟨ds, vd, h1, hl, h2, h3, q2⟩
    rw [List.drop_length] at q2
    have q3 : KF β true F L O σ H1 Q (ds ++ []) := q2
    rw [List.append_nil] at q3
    exact q3 D vd H (g1.grow (h3.trans less_same)) (h3.trans less_same) hD h1 h2
theorem pts_ex {ι : Type} {ifs : List Expr} {t : ι → TT} (h : ∀ b, PTs X ifs (t b)) : PTs X ifs (fun σ H Q => ∃ b, t b σ H Q) := ⟨fun pins s σ H Q I ⟨b, q⟩ => (h b).run pins s σ H Q I q⟩
theorem pe_ex {ι : Type} {e : Expr} {t : ι → TE} (h : ∀ b, PE X e (t b)) : PE X e (fun σ H Q => ∃ b, t b σ H Q) := ⟨fun pins s σ H Q I ⟨b, q⟩ => (h b).run pins s σ H Q I q⟩
/-- [elt for tg in iter if ..] -/
theorem f_lcf {tg iter elt : Expr} {ifs : List Expr} {scope : Scope} {own : List (Str × Nat)} {pos : Pos} {b : Bool} {g : TG} {bd : α → List (Option Asr) → List (Option Asr)} {m : Res (List α)} {p : α → Res Bool} {f : α → Res β}
    (hc : X.calm = true) (hN : X.N.Nodup) (hi : PI X tg iter (tI b F L O m)) (hfl : b = true ∨ FlatP α) (hb : BlkOk X.N X.env.scope scope own)
    (hok : TgOk F.K F.mg g (own.map (·.2)) bd) (ht : ∀ (s : Shared) (H : Hp) (C : Addr) (cl : List (Str × Addr)) (fp : List Addr), Tg (X.blk s H scope (compEnvC scope cl C X.env) fp) F.K F.mg tg g (own.map (·.2)) bd)
    (hp : ∀ (s : Shared) (H : Hp) (C : Addr) (cl : List (Str × Addr)) (fp : List Addr) (a : α) (D : Addr) (ds : List β), PTs (X.blk s H scope (compEnvC scope cl C X.env) fp) ifs (tB' F.nox (bd a (wipeL L (own.map (·.2)))) (ow F.K F.mg D ds :: O) (p a)))
    (he : ∀ (s : Shared) (H : Hp) (C : Addr) (cl : List (Str × Addr)) (fp : List Addr) (a : α) (D : Addr) (ds : List β), PE (X.blk s H scope (compEnvC scope cl C X.env) fp) elt (tP true F.nox (bd a (wipeL L (own.map (·.2)))) (ow F.K F.mg D ds :: O) (f a)))
    (hf : ∀ x, foldedSetIterable iter X.env x = pure x := by intro _; rfl) :
    PE X (.ListComp elt [{ target := tg, iter := iter, ifs := ifs, is_async := 0 }] scope pos) (tF true F L O (m.bind fun as => need (as.length ≤ sizeLine) (filtR (fun a => (p a).quiet) (fun a => (f a).quiet) as))) := by
  refine pe_imp (pe_lc hc hN hi hb (fun s H C cl fp => (ht s H C cl fp).pg) (fun s H C cl fp => pts_ex fun a => pts_ex fun D => pts_ex fun ds => hp s H C cl fp a D ds) (fun s H C cl fp => pe_ex fun a => pe_ex fun D => pe_ex fun ds => he s H C cl fp a D ds) hf) fun σ H Q h => ?_
  exact comp_core _ _ rfl hfl hok rfl rfl σ H Q h
end
end NF

set_option Elab.async false
set_option linter.all false
set_option maxRecDepth 100000
/-! Nf7: zip, enumerate; expressions that change an owned list; defs that do. -/
namespace NF
open PySem PySem.Spec PyProof.Rows L2
open Data (toD)
section
variable {X : Cx} {F : Fr} {L : List (Option Asr)} {O : List Own} {α β γ s : Type} [Rep α] [Rep β] [Rep γ] [Rep s]
theorem less_upd {H : Hp} {Av : List Addr} {T : Addr} {o : HO} (hA : ∀ a ∈ Av, H a ≠ none) (hT : H T = none) : less (upd H T o) Av T = some o := by
  rw [less_out (fun z => hA T z hT), upd_same]
theorem less_upd_same {H : Hp} {Av : List Addr} {T : Addr} {o : HO} (hT : H T = none) : Same (less H Av) (less (upd H T o) Av) := less_mono fun b q _ h => same_upd hT b q h
def srcZ {K : Fg} {mg : MG} {a b : Addr} {vs ws : List V} {xs : List α} {ys : List β} (h1 : vs.length = xs.length) (h2 : ws.length = ys.length) : Src K mg (Itz K a b) (xs.zip ys) where
  src H := (SqL K H a vs ∧ Reps K mg H vs xs) ∧ (SqL K H b ws ∧ Reps K mg H ws ys)
  mono e h := ⟨⟨e.seq h.1.1, h.1.2.mono e⟩, ⟨e.seq h.2.1, h.2.2.mono e⟩⟩
  Y := YPair (fun i => vs[i]?) (fun i => ws[i]?)
  walk := (walk_zip (n := (xs.zip ys).length) (by rw [List.length_zip, h1, h2])).mono (fun H h => ⟨h.1.1, h.2.1⟩) (fun i H x H' _ _ y => y)
  ylds i H x H' y := by
    obtain ⟨T, v1, v2, rfl, hT, rfl, e1, e2⟩ := y
    refine ⟨same_upd hT, fun Av hA h p hp => ?_⟩
    rw [List.getElem?_zip_eq_some] at hp
    obtain ⟨v, a1, a2⟩ := reps_get h.1.2 hp.1
    obtain ⟨w, b1, b2⟩ := reps_get h.2.2 hp.2
    rw [show vs[i]? = some v1 from e1] at a1
    rw [show ws[i]? = some v2 from e2] at b1
    cases a1
    cases b1
    exact ⟨T, v1, v2, rfl, .of (less_upd hA hT), Rep.mono (less_upd_same hT) a2, Rep.mono (less_upd_same hT) b2⟩
def enumF (n : Nat) : List α → List (Int × α)
  | [] => []
  | x :: xs => ((n : Int), x) :: enumF (n + 1) xs
theorem enumF_len : ∀ (n : Nat) (xs : List α), (enumF n xs).length = xs.length
  | _, [] => rfl
  | n, _ :: xs => by show (enumF (n + 1) xs).length + 1 = xs.length + 1; rw [enumF_len]
theorem enumF_get : ∀ (n : Nat) (xs : List α) (i : Nat), (enumF n xs)[i]? = xs[i]?.map fun x => (((n + i : Nat) : Int), x)
  | _, [], i => by simp [enumF]
  | n, x :: xs, 0 => by simp [enumF]
  | n, x :: xs, i + 1 => by
    show (enumF (n + 1) xs)[i]? = _
    rw [enumF_get (n + 1) xs i, show (x :: xs)[i + 1]? = xs[i]? from rfl, show n + 1 + i = n + (i + 1) by omega]
def srcE {K : Fg} {mg : MG} {a : Addr} {vs : List V} {xs : List α} (h1 : vs.length = xs.length) : Src K mg (Ite K a) (enumF 0 xs) where
  src H := SqL K H a vs ∧ Reps K mg H vs xs
  mono e h := ⟨e.seq h.1, h.2.mono e⟩
  Y := YPair (fun i => some (.int (i : Nat))) (fun i => vs[i]?)
  walk := by rw [enumF_len, ← h1]; exact walk_enum.mono (fun H h => h.1) (fun i H x H' _ _ y => y)
  ylds i H x H' y := by
    obtain ⟨T, v1, v2, rfl, hT, rfl, e1, e2⟩ := y
    refine ⟨same_upd hT, fun Av hA h p hp => ?_⟩
    rw [enumF_get] at hp
    cases e : xs[i]? with
    | none => rw [e] at hp; cases hp
    | some x =>
      rw [e] at hp
      cases hp
      obtain ⟨v, a1, a2⟩ := reps_get h.2 e
      rw [show vs[i]? = some v2 from e2] at a1
      cases a1
      cases e1
      refine ⟨T, _, v2, rfl, .of (less_upd hA hT), ?_, Rep.mono (less_upd_same hT) a2⟩
      show V.int (i : Nat) = V.int (((0 + i : Nat) : Int))
      rw [Nat.zero_add]
theorem i_zip {elts : List Expr} {kk : Nat} {tpos : Pos} {e e2 : Expr} {b : Bool} {m : Res (List α)} {m2 : Res (List β)} {p pos : Pos} (h : PE X e (tP b F L O m)) (h2 : PE X e2 (tP b F L O m2)) (hm : X.mg "zip" = none) (hg : Gl X "zip" := by rfl) (hK : X.K = F.K := by rfl)
    (hs1 : starEach [e, e2] X.env = (false, eval e X.env) :: starEach [e2] X.env := by rfl) (hs2 : starEach [e2] X.env = (false, eval e2 X.env) :: starEach [] X.env := by rfl) (hs3 : ((backTo pos (starEach [e2] X.env)).any fun x => x.fst) = false := by rfl) :
    PI X (.Tuple elts kk tpos) (.Call (.Name "zip" p) [e, e2] [] pos) (tI b F L O (m.bind fun xs => m2.bind fun ys => .ok (xs.zip ys))) := pi_imp (pi_zip hg hm (pa_cons h (pa_cons h2 pa_nil hs2) hs1) hs1 hs3) fun σ H R ⟨g, q⟩ => by
  rw [out_bind] at q
  refine ⟨g, q.mono (fun xs k v H1 g1 s1 r1 => ?_) fun _ z => z⟩
  rw [out_bind] at k
  refine ⟨g1, k.mono (fun ys k v H2 g2 s2 r2 => ?_) fun H' ⟨a, b⟩ => ⟨a, s1.trans b⟩⟩
  obtain ⟨a, vs, rfl, h3, h4⟩ := r1
  obtain ⟨c, ws, rfl, h5, h6⟩ := r2
  rw [hK]
  have h3' := rgn_grow s2 _ _ h3
  exact ⟨a, c, vs, ws, rfl, .of (rgn_sub _ _ h3'), .of (rgn_sub _ _ h5), k _ H2 (srcZ h4.length h6.length) g2 (s1.trans s2) ⟨⟨.of h3', h4.mono (rgn_grow s2)⟩, ⟨.of h5, h6⟩⟩⟩
theorem i_enum {elts : List Expr} {kk : Nat} {tpos : Pos} {e : Expr} {b : Bool} {m : Res (List α)} {p pos : Pos} (h : PE X e (tP b F L O m)) (hm : X.mg "enumerate" = none) (hg : Gl X "enumerate" := by rfl) (hK : X.K = F.K := by rfl)
    (hs1 : starEach [e] X.env = (false, eval e X.env) :: starEach [] X.env := by rfl) (hs : starEach [e] X.env = [(false, eval e X.env)] := by rfl) :
    PI X (.Tuple elts kk tpos) (.Call (.Name "enumerate" p) [e] [] pos) (tI b F L O (m.bind fun xs => .ok (enumF 0 xs))) := pi_imp (pi_enum hg hm (pa_cons h pa_nil hs1) hs) fun σ H R ⟨g, q⟩ => by
  rw [out_bind] at q
  refine ⟨g, q.mono (fun xs k v H1 g1 s1 r1 => ?_) fun _ z => z⟩
  obtain ⟨a, vs, rfl, h3, h4⟩ := r1
  rw [hK]
  exact ⟨a, vs, rfl, .of (rgn_sub _ _ h3), k _ H1 (srcE h4.length) g1 s1 ⟨.of h3, h4⟩⟩
end
/-! ### what changes the list at p -/
def KeepBut (p : Addr) (H H' : Hp) : Prop := ∀ x o, H x = some o → x ≠ p → H' x = some o
section
variable {X : Cx} {F : Fr} {L : List (Option Asr)} {p : Addr} {O : List Own} {α β γ ι : Type} [Rep α] [Rep β] [Rep γ] [OwR ι]
theorem KeepBut.trans {H H1 H2 : Hp} (a : KeepBut p H H1) (b : KeepBut p H1 H2) : KeepBut p H H2 := fun x o h hx => b x o (a x o h hx) hx
theorem KeepBut.of {H H' : Hp} (e : Same H H') : KeepBut p H H' := fun x o h _ => e x o h
def tE {γ : Type} [Rep γ] (b : Bool) (F : Fr) (L : List (Option Asr)) (p : Addr) (xs : ι) (O : List Own) (m : Res (γ × ι)) : TE := fun σ H Q =>
  G F L (ow F.K F.mg p xs :: O) σ H ∧ Out F m (fun r => ∀ v H', G F L (ow F.K F.mg p r.2 :: O) σ H' → KeepBut p H H' → rp F (rgn b F (ow F.K F.mg p r.2 :: O) H') v r.1 → Q v H') (XPS F)
def tEB (F : Fr) (L : List (Option Asr)) (p : Addr) (xs : ι) (O : List Own) (m : Res (Bool × ι)) : TT := fun σ H Q =>
  G F L (ow F.K F.mg p xs :: O) σ H ∧ Out F m (fun r => ∀ H', G F L (ow F.K F.mg p r.2 :: O) σ H' → KeepBut p H H' → Q r.1 H') (XPS F)
def tEA {τ : Type} [RepA τ] (b : Bool) (F : Fr) (L : List (Option Asr)) (p : Addr) (xs : ι) (O : List Own) (m : Res (τ × ι)) : TA := fun σ H Q =>
  G F L (ow F.K F.mg p xs :: O) σ H ∧ Out F m (fun r => ∀ vs H', G F L (ow F.K F.mg p r.2 :: O) σ H' → KeepBut p H H' → RepA.rep F.K F.mg (rgn b F (ow F.K F.mg p r.2 :: O) H') vs r.1 → Q vs H') (XPS F)
variable {xs : ι}
theorem e_p {e : Expr} {b : Bool} {m : Res γ} (hO : List.Sublist F.O0 (ow F.K F.mg p xs :: O)) (h : PE X e (tP b F L (ow F.K F.mg p xs :: O) m)) : PE X e (tE b F L p xs O (m.bind fun a => .ok (a, xs))) := pe_imp h fun σ H Q ⟨g, q⟩ => by
  rw [out_bind] at q
  exact ⟨g, q.mono (fun a k v H' g' s r => k v H' g' (.of s) r) fun H' ⟨a, _⟩ => a.go.sub hO⟩
theorem eb_p {e : Expr} {m : Res Bool} (hO : List.Sublist F.O0 (ow F.K F.mg p xs :: O)) (h : PT X e (tB' F L (ow F.K F.mg p xs :: O) m)) : PT X e (tEB F L p xs O (m.bind fun a => .ok (a, xs))) := pt_imp h fun σ H Q ⟨g, q⟩ => by
  rw [out_bind] at q
  exact ⟨g, q.mono (fun a k H' g' s => k H' g' (.of s)) fun H' ⟨a, _⟩ => a.go.sub hO⟩
theorem ne2 [Flat α] [Flat β] {x y e : Expr} {b1 b2 b3 : Bool} {r : R2} {ma : Res (α × ι)} {mb : ι → Res (β × ι)} {mc : α → β → Res γ} (c : ∀ {ta tb : TE}, PE X x ta → PE X y tb → PE X e (tOp r ta tb))
    (hx : PE X x (tE b1 F L p xs O ma)) (hy : ∀ xs', PE X y (tE b2 F L p xs' O (mb xs'))) (hr : ∀ xs' : ι, RR F L (ow F.K F.mg p xs' :: O) true true b3 r mc) (hO : ∀ xs' : ι, List.Sublist F.O0 (ow F.K F.mg p xs' :: O)) :
    PE X e (tE b3 F L p xs O (ma.bind fun u => (mb u.2).bind fun w => (mc u.1 w.1).bind fun z => .ok (z, w.2))) := pe_imp (c hx (pe_ex hy)) fun σ H Q ⟨g, q⟩ => by
  rw [out_bind] at q
  refine ⟨g, q.mono (fun u qx v1 H1 g1 s1 r1 => ?_) fun _ z => z⟩
  rw [out_bind] at qx
  refine ⟨u.2, g1, qx.mono (fun w qy v2 H2 g2 s2 r2 => ?_) fun _ z => z⟩
  rw [out_bind] at qy
  exact hr w.2 u.1 w.1 v1 v2 H2 σ Q g2 (Flat.iff.mpr (Flat.iff.mp r1)) (Flat.iff.mpr (Flat.iff.mp r2)) (qy.mono (fun z kz v H' g' s' r' => kz v H' g' ((s1.trans s2).trans (.of s')) r') fun H' ⟨a, b⟩ => a.go.sub (hO _))
theorem ne2t [Flat α] [Flat β] {x y e : Expr} {b1 b2 : Bool} {r : R2} {ma : Res (α × ι)} {mb : ι → Res (β × ι)} {mc : α → β → Res Bool} (c : ∀ {ta tb : TE}, PE X x ta → PE X y tb → PT X e (tTest (tOp r ta tb)))
    (hx : PE X x (tE b1 F L p xs O ma)) (hy : ∀ xs', PE X y (tE b2 F L p xs' O (mb xs'))) (hr : ∀ xs' : ι, RR F L (ow F.K F.mg p xs' :: O) true true true r mc) (hO : ∀ xs' : ι, List.Sublist F.O0 (ow F.K F.mg p xs' :: O)) :
    PT X e (tEB F L p xs O (ma.bind fun u => (mb u.2).bind fun w => (mc u.1 w.1).bind fun z => .ok (z, w.2))) := pt_imp (c hx (pe_ex hy)) fun σ H Q ⟨g, q⟩ => by
  rw [out_bind] at q
  refine ⟨g, q.mono (fun u qx v1 H1 g1 s1 r1 => ?_) fun _ z => z⟩
  rw [out_bind] at qx
  refine ⟨u.2, g1, qx.mono (fun w qy v2 H2 g2 s2 r2 => ?_) fun _ z => z⟩
  rw [out_bind] at qy
  exact hr w.2 u.1 w.1 v1 v2 H2 σ _ g2 (Flat.iff.mpr (Flat.iff.mp r1)) (Flat.iff.mpr (Flat.iff.mp r2)) (qy.mono (fun z kz v H' g' s' r' => ⟨z, r', kz H' g' ((s1.trans s2).trans (.of s'))⟩) fun H' ⟨a, b⟩ => a.go.sub (hO _))
/-- one argument -/
theorem ec1 [Flat α] {e : Expr} {b1 b3 : Bool} {r : List V → Hp → VK → Prop} {ma : Res (α × ι)} {mc : α → Res γ} (h : PE X e (tCB r (tCons (tE b1 F L p xs O ma) tNil))) (hr : ∀ xs' : ι, RC1 F L (ow F.K F.mg p xs' :: O) true b3 r mc) (hO : ∀ xs' : ι, List.Sublist F.O0 (ow F.K F.mg p xs' :: O)) :
    PE X e (tE b3 F L p xs O (ma.bind fun u => (mc u.1).bind fun z => .ok (z, u.2))) := pe_imp h fun σ H Q ⟨g, q⟩ => by
  rw [out_bind] at q
  refine ⟨g, q.mono (fun u qx v1 H1 g1 s1 r1 => ?_) fun _ z => z⟩
  rw [out_bind] at qx
  exact hr u.2 u.1 v1 H1 σ Q g1 (Flat.iff.mpr (Flat.iff.mp r1)) (qx.mono (fun z kz v H' g' s' r' => kz v H' g' (s1.trans (.of s')) r') fun H' ⟨a, b⟩ => a.go.sub (hO _))
/-- if .. else, and, or -/
theorem e_if {c a e : Expr} {pos : Pos} {b : Bool} {mc : Res (Bool × ι)} {ma mb : ι → Res (γ × ι)} (hc : PT X c (tEB F L p xs O mc)) (ha : ∀ xs', PE X a (tE b F L p xs' O (ma xs'))) (hb : ∀ xs', PE X e (tE b F L p xs' O (mb xs'))) :
    PE X (.IfExp c a e pos) (tE b F L p xs O (mc.bind fun u => if u.1 then ma u.2 else mb u.2)) := pe_imp (pe_ifExp hc (pe_ex ha) (pe_ex hb)) fun σ H Q ⟨g, q⟩ => by
  rw [out_bind] at q
  refine ⟨g, q.mono (fun u qc H1 g1 s1 => ?_) fun _ z => z⟩
  cases hu : u.1 with
  | true =>
    rw [hu] at qc
    exact ⟨u.2, g1, qc.mono (fun d kd v H' g' s' r' => kd v H' g' (s1.trans s') r') fun _ z => z⟩
  | false =>
    rw [hu] at qc
    exact ⟨u.2, g1, qc.mono (fun d kd v H' g' s' r' => kd v H' g' (s1.trans s') r') fun _ z => z⟩
theorem pw_ex {δ : Type} {e : Expr} {t : δ → TT} (h : ∀ b, PW X e (t b)) : PW X e (fun σ H Q => ∃ b, t b σ H Q) := ⟨fun wh pins s σ H Q I ⟨b, q⟩ => (h b).run wh pins s σ H Q I q⟩
theorem ew_and {x y : Expr} {rest : List Expr} {pos : Pos} {ma : Res (Bool × ι)} {mb : ι → Res (Bool × ι)} (hx : PT X x (tEB F L p xs O ma)) (hy : ∀ xs', PW X (.BoolOp .And (y :: rest) pos) (tEB F L p xs' O (mb xs'))) :
    PW X (.BoolOp .And (x :: y :: rest) pos) (tEB F L p xs O (ma.bind fun u => if u.1 then mb u.2 else .ok (false, u.2))) := pw_imp (pw_and hx (pw_ex hy)) fun σ H Q ⟨g, q⟩ => by
  rw [out_bind] at q
  refine ⟨g, q.mono (fun u qc H1 g1 s1 => ?_) fun _ z => z⟩
  cases hu : u.1 with
  | true =>
    rw [hu] at qc
    show ∃ b, tEB F L p b O (mb b) σ H1 Q
    exact ⟨u.2, g1, qc.mono (fun d kd H' g' s' => kd H' g' (s1.trans s')) fun _ z => z⟩
  | false =>
    rw [hu] at qc
    exact qc H1 g1 s1
theorem ew_or {x y : Expr} {rest : List Expr} {pos : Pos} {ma : Res (Bool × ι)} {mb : ι → Res (Bool × ι)} (hx : PT X x (tEB F L p xs O ma)) (hy : ∀ xs', PW X (.BoolOp .Or (y :: rest) pos) (tEB F L p xs' O (mb xs'))) :
    PW X (.BoolOp .Or (x :: y :: rest) pos) (tEB F L p xs O (ma.bind fun u => if u.1 then .ok (true, u.2) else mb u.2)) := pw_imp (pw_or hx (pw_ex hy)) fun σ H Q ⟨g, q⟩ => by
  rw [out_bind] at q
  refine ⟨g, q.mono (fun u qc H1 g1 s1 => ?_) fun _ z => z⟩
  cases hu : u.1 with
  | true =>
    rw [hu] at qc
    exact qc H1 g1 s1
  | false =>
    rw [hu] at qc
    show ∃ b, tEB F L p b O (mb b) σ H1 Q
    exact ⟨u.2, g1, qc.mono (fun d kd H' g' s' => kd H' g' (s1.trans s')) fun _ z => z⟩
end
end NF

set_option Elab.async false
set_option linter.all false
set_option maxRecDepth 100000
/-! Nf8: statements that change an owned list; defs that do. -/
namespace NF
open PySem PySem.Spec PyProof.Rows L2
open Data (toD)
section
variable {X : Cx} {F : Fr} {L : List (Option Asr)} {p : Addr} {O : List Own} {α β γ ε : Type} [Rep α] [Rep β] [Rep γ] [Rep ε]
/-! the owned objects in another order -/
theorem GO.perm {O2 : List Own} {H : Hp} (g : GO F O H) (h : O.Perm O2) : GO F O2 H where
  objs := fun w hw => let ⟨o, ho, q⟩ := g.objs w (h.symm.subset hw); ⟨o, ho, w.mono (less_sub fun a ha => by
    rcases List.mem_append.mp ha with z | z
    · exact List.mem_append_left _ ((h.map Own.a).symm.subset z)
    · exact List.mem_append_right _ z) q⟩
  nd := (h.map Own.a).nodup_iff.mp g.nd
  own := fun w hw => g.own w (h.symm.subset hw)
  keep := g.keep
  live := g.live
  hid := g.hid
  apart := fun w hw => g.apart w (h.symm.subset hw)
  facts := fun z hz => z.mono (less_sub fun a ha => by
    rcases List.mem_append.mp ha with z | z
    · exact List.mem_append_left _ ((h.map Own.a).symm.subset z)
    · exact List.mem_append_right _ z) (g.facts z hz)
theorem G.perm {O2 : List Own} {σ : L2.St} {H : Hp} (g : G F L O σ H) (h : O.Perm O2) : G F L O2 σ H := ⟨L2.Paired.mapP g.slots fun _ _ q => q.mono (less_sub fun a ha => by
    rcases List.mem_append.mp ha with z | z
    · exact List.mem_append_left _ ((h.map Own.a).symm.subset z)
    · exact List.mem_append_right _ z), g.go.perm h⟩
theorem s_perm {B : Type} {st : Stmt} {m : Res B} {L' : B → List (Option Asr)} {O2 : List Own} {O' O2' : B → List Own} (h : O.Perm O2) (h' : ∀ b, (O2' b).Perm (O' b)) (hs : PS X st (tN F L O2 m L' O2')) : PS X st (tN F L O m L' O') := ps_imp hs fun D σ H ⟨g, q⟩ =>
  ⟨g.perm h, q.mono (fun b k σ' H' g' => k σ' H' (g'.perm (h' b))) fun _ z => z⟩
theorem b_perm {D' : Type} {st : List Stmt} {m : Res D'} {Ret : D' → V → Hp → Prop} {O2 : List Own} (h : O.Perm O2) (hs : PSs X st (tT F L O2 m Ret)) : PSs X st (tT F L O m Ret) := pss_imp hs fun D σ H ⟨g, q⟩ => ⟨g.perm h, q⟩
theorem m_perm {B D' : Type} {st : List Stmt} {m : Res (Sum B D')} {L' : B → List (Option Asr)} {O' : B → List Own} {Ret : D' → V → Hp → Prop} {O2 : List Own} (h : O.Perm O2) (hs : PSs X st (tM F L O2 m L' O' Ret)) : PSs X st (tM F L O m L' O' Ret) := pss_imp hs fun D σ H ⟨g, q⟩ => ⟨g.perm h, q⟩
theorem n_perm {B : Type} {st : List Stmt} {m : Res B} {L' : B → List (Option Asr)} {O' : B → List Own} {O2 : List Own} (h : O.Perm O2) (hs : PSs X st (tN F L O2 m L' O')) : PSs X st (tN F L O m L' O') := pss_imp hs fun D σ H ⟨g, q⟩ => ⟨g.perm h, q⟩
/-! the list at p becomes another one -/
theorem g_upd {xs xs' : List ε} {vs' : List V} {σ : L2.St} {H : Hp} (g : G F L (ow F.K F.mg p xs :: O) σ H) (r : Reps F.K F.mg (rg F (ow F.K F.mg p xs :: O) H) vs' xs') :
    G F L (ow F.K F.mg p xs' :: O) σ (upd H p (.lst vs')) ∧ KeepBut p H (upd H p (.lst vs')) := by
  have hp : p ∈ addrs (ow F.K F.mg p xs :: O) ++ F.A := List.mem_append_left _ List.mem_cons_self
  have er : Same (rg F (ow F.K F.mg p xs :: O) H) (rg F (ow F.K F.mg p xs' :: O) (upd H p (.lst vs'))) := fun a o z => by
    unfold rg at z ⊢
    by_cases hb : a ∈ addrs (ow F.K F.mg p xs :: O) ++ F.A
    · rw [less_in hb] at z; cases z
    · rw [less_out hb] at z
      rw [less_out (show a ∉ addrs (ow F.K F.mg p xs' :: O) ++ F.A from hb), upd_ne (fun y => hb (by rw [y]; exact hp))]
      exact z
  have nd := List.nodup_cons.mp (show (p :: addrs O).Nodup from g.go.nd)
  refine ⟨⟨L2.Paired.mapP g.slots fun _ _ q => q.mono er, ?_⟩, fun x o h hx => by rw [upd_ne hx]; exact h⟩
  exact {
    objs := fun w hw => by
      rcases List.mem_cons.mp hw with rfl | hw
      · exact ⟨_, upd_same, vs', rfl, r.mono er⟩
      · obtain ⟨o, ho, q⟩ := g.go.objs w (List.mem_cons_of_mem _ hw)
        have hne : w.a ≠ p := fun y => nd.1 (by rw [← y]; exact List.mem_map.mpr ⟨w, hw, rfl⟩)
        exact ⟨o, by rw [upd_ne hne]; exact ho, w.mono er q⟩
    nd := g.go.nd
    own := fun w hw => by
      rcases List.mem_cons.mp hw with rfl | hw
      · exact g.go.own (ow F.K F.mg p xs) List.mem_cons_self
      · exact g.go.own w (List.mem_cons_of_mem _ hw)
    keep := fun a o h hw => by
      have hne : a ≠ p := fun y => by
        subst y
        rcases g.go.own _ List.mem_cons_self with z | z
        · exact hw z
        · have z' : F.H0 a = none := z
          rw [z'] at h; cases h
      rw [upd_ne hne]
      exact g.go.keep a o h hw
    live := fun a h => by
      by_cases hne : a = p
      · subst hne; rw [upd_same]; simp
      · rw [upd_ne hne]; exact g.go.live a h
    hid := g.go.hid
    apart := fun w hw => by
      rcases List.mem_cons.mp hw with rfl | hw
      · exact g.go.apart (ow F.K F.mg p xs) List.mem_cons_self
      · exact g.go.apart w (List.mem_cons_of_mem _ hw)
    facts := fun z hz => z.mono er (g.go.facts z hz) }
variable {xs : List ε}
theorem G.head {σ : L2.St} {H : Hp} (g : G F L (ow F.K F.mg p xs :: O) σ H) : ∃ vs, H p = some (.lst vs) ∧ Reps F.K F.mg (rg F (ow F.K F.mg p xs :: O) H) vs xs := by
  obtain ⟨o, h3, vs, h4, h5⟩ := g.go.objs _ List.mem_cons_self
  exact ⟨vs, h4 ▸ h3, h5⟩
/-- x = what changes the list -/
theorem s_setE {ι : Type} [OwR ι] {xs : ι} {x : Str} {e : Expr} {pos pos' : Pos} (i : Nat) (hN : X.N.Nodup) {m : Res (α × ι)} (he : PE X e (tE true F L p xs O m)) (hi : X.N[i]? = some x := by rfl) (hx : L2.Loc X.env.scope x := by first | exact .inl rfl | exact .inr rfl) (hs : swapsWith e (some (.Name x pos')) pos.line X.env = pure false := by rfl) (hf : X.fn x = true ∨ X.env.scope.names.lookup x = some .local := by first | exact .inl rfl | exact .inr rfl) :
    PS X (.Assign [.Name x pos'] e pos) (tN F L (ow F.K F.mg p xs :: O) m (fun r => L.set i (vl F.K F.mg r.1)) (fun r => ow F.K F.mg p r.2 :: O)) := ps_imp (ps_set (i := i) hN hi hx he hs hf) fun D σ H ⟨g, q⟩ =>
  ⟨g, q.mono (fun a k v H1 g1 s1 r1 => k _ _ ⟨set_ok (p := vl F.K F.mg a.1) r1 i g1.slots, g1.go⟩) fun _ z => z⟩
/-- e, for what it changes -/
theorem s_exprE {ι : Type} [OwR ι] {xs : ι} {e : Expr} {pos : Pos} {m : Res (α × ι)} (he : PE X e (tE true F L p xs O m)) (hs : swapsWith e none pos.line X.env = pure false := by rfl) :
    PS X (.Expr e pos) (tN F L (ow F.K F.mg p xs :: O) m (fun _ => L) (fun r => ow F.K F.mg p r.2 :: O)) := ps_imp (ps_expr he hs) fun D σ H ⟨g, q⟩ =>
  ⟨g, q.mono (fun a k v H1 g1 s1 r1 => k _ _ g1) fun _ z => z⟩
/-- x[i] = e -/
def setR (xs : List ε) (i : Int) (a : ε) : Res (List ε) := match ixN xs.length i with
  | some j => .ok (xs.set j a)
  | none => .bad
theorem s_sub {x : Str} {e ie : Expr} {pos pos1 pos2 : Pos} (i : Nat) (hL : L[i]? = some (rf p)) {m : Res (ε × List ε)} {mi : List ε → Res Int} (hO : ∀ xs' : List ε, List.Sublist F.O0 (ow F.K F.mg p xs' :: O)) (he : PE X e (tE true F L p xs O m)) (hie : ∀ xs' : List ε, PE X ie (tP true F L (ow F.K F.mg p xs' :: O) (mi xs')))
    (hN : X.N[i]? = some x := by rfl) (hv : Vis X.env.scope x := by first | exact Or.inl rfl | exact Or.inr (Or.inl rfl) | exact Or.inr (Or.inr rfl)) (hd : (x == ("__debug__" : Str)) = false := by decide) (hcd : (x == ("__classdict__" : Str)) = false := by decide)
    (ha : ∀ v, assign (.Subscript (.Name x pos1) ie pos2) X.env v = (do
      let ov ← holding [v] (eval (.Name x pos1) X.env)
      let iv ← holding [v, ov] (eval ie X.env)
      standAt pos2
      holding [v, ov, iv] (setItem ov iv v)
      release [v, ov, iv] []) := by intro _; rfl) (h1 : swapsWithSole [.Subscript (.Name x pos1) ie pos2] e pos.line X.env = pure false := by rfl) (h2 : swappedStores [.Subscript (.Name x pos1) ie pos2] e X.env = pure none := by rfl)
    (h3 : (assignEach [.Subscript (.Name x pos1) ie pos2] X.env).map (·.2) = [assign (.Subscript (.Name x pos1) ie pos2) X.env] := by rfl) :
    PS X (.Assign [.Subscript (.Name x pos1) ie pos2] e pos) (tN F L (ow F.K F.mg p xs :: O) (m.bind fun r => (mi r.2).bind fun j => setR r.2 j r.1) (fun _ => L) (fun ys => ow F.K F.mg p ys :: O)) := ps_imp (ps_asg he (pg_sub (pe_var hN hv hd hcd) (pe_ex hie) set_list ha) h1 h2 h3) fun D σ H ⟨g, q⟩ => by
  rw [out_bind] at q
  refine ⟨g, q.mono (fun r k v H1 g1 s1 r1 => ?_) fun _ z => z⟩
  obtain ⟨w, h4, h5⟩ := g1.slot hL
  rw [out_bind] at k
  refine ⟨w, h4, r.2, g1, k.mono (fun j k v2 H2 g2 s2 r2 => ?_) fun H' ⟨a, _⟩ => a.go.sub (hO _)⟩
  unfold setR at k
  obtain ⟨vs, h6, h7⟩ := g2.head
  cases e : ixN r.2.length j with
  | none => rw [e] at k; exact k.elim
  | some n =>
    rw [e] at k
    refine ⟨p, vs, j, n, h5, r2, h6, by rw [h7.length]; exact e, ?_⟩
    exact k σ _ (g_upd g2 (reps_set (Rep.mono (rg_grow s2) r1) n h7)).1
/-- x.append(e) -/
theorem s_app {x : Str} {e : Expr} {pos pos1 pos2 cpos : Pos} (i : Nat) (hL : L[i]? = some (rf p)) {m : Res ε} (hO : ∀ xs' : List ε, List.Sublist F.O0 (ow F.K F.mg p xs' :: O)) (he : PE X e (tP true F L (ow F.K F.mg p xs :: O) m))
    (h : ∀ {to : TE} {t : TA}, PE X (.Name x pos1) to → PA X [e] t → PE X (.Call (.Attribute (.Name x pos1) "append" pos2) [e] [] cpos) (tBM X.K "list" rAppend to t)) (hs1 : starEach [e] X.env = (false, eval e X.env) :: starEach [] X.env := by rfl)
    (hN : X.N[i]? = some x := by rfl) (hv : Vis X.env.scope x := by first | exact Or.inl rfl | exact Or.inr (Or.inl rfl) | exact Or.inr (Or.inr rfl)) (hd : (x == ("__debug__" : Str)) = false := by decide) (hcd : (x == ("__classdict__" : Str)) = false := by decide)
    (hs : swapsWith (.Call (.Attribute (.Name x pos1) "append" pos2) [e] [] cpos) none pos.line X.env = pure false := by rfl) :
    PS X (.Expr (.Call (.Attribute (.Name x pos1) "append" pos2) [e] [] cpos) pos) (tN F L (ow F.K F.mg p xs :: O) (m.bind fun a => need (xs.length < sizeLine) (.ok (xs ++ [a]))) (fun _ => L) (fun ys => ow F.K F.mg p ys :: O)) := ps_imp (ps_expr (h (pe_var hN hv hd hcd) (pa_cons he pa_nil hs1)) hs) fun D σ H ⟨g, q⟩ => by
  obtain ⟨w, h4, h5⟩ := g.slot hL
  obtain ⟨vs, h6, h7⟩ := g.head
  rw [out_bind] at q
  refine ⟨w, h4, ?_, g, q.mono (fun a k v H1 g1 s1 r1 => ?_) fun H' ⟨a, _⟩ => a.go.sub (hO _)⟩
  · rw [show w = V.ref p from h5]
    exact .inl ⟨rfl, _, .of h6⟩
  · rw [out_need] at k
    obtain ⟨vs', h8, h9⟩ := g1.head
    refine ⟨p, vs', v, h5, rfl, h8, by rw [h9.length]; exact k.1, ?_⟩
    exact k.2 σ _ (g_upd g1 (reps_append h9 (.cons r1 .nil))).1
/-- x.pop(i) -/
def popAtR (xs : List ε) (i : Int) : Res (ε × List ε) := match seqIndex? i xs.length with
  | some k => match xs[k]? with
    | some a => need (Rg63 i) (.ok (a, xs.eraseIdx k))
    | none => .bad
  | none => .bad
theorem reps_erase {K : Fg} {mg : MG} {H : Hp} : ∀ {vs : List V} {as : List ε} (n : Nat), Reps K mg H vs as → Reps K mg H (vs.eraseIdx n) (as.eraseIdx n)
  | _, _, _, .nil => .nil
  | _, _, 0, .cons _ t => t
  | _, _, n + 1, .cons q t => .cons q (reps_erase n t)
theorem e_popAt {x : Str} {ie : Expr} {pos1 pos2 cpos : Pos} (i : Nat) (hL : L[i]? = some (rf p)) {mi : Res Int} (hO : ∀ xs' : List ε, List.Sublist F.O0 (ow F.K F.mg p xs' :: O)) (hie : PE X ie (tP true F L (ow F.K F.mg p xs :: O) mi))
    (h : ∀ {to : TE} {t : TA}, PE X (.Name x pos1) to → PA X [ie] t → PE X (.Call (.Attribute (.Name x pos1) "pop" pos2) [ie] [] cpos) (tBM X.K "list" rPopAt to t)) (hs1 : starEach [ie] X.env = (false, eval ie X.env) :: starEach [] X.env := by rfl)
    (hN : X.N[i]? = some x := by rfl) (hv : Vis X.env.scope x := by first | exact Or.inl rfl | exact Or.inr (Or.inl rfl) | exact Or.inr (Or.inr rfl)) (hd : (x == ("__debug__" : Str)) = false := by decide) (hcd : (x == ("__classdict__" : Str)) = false := by decide) :
    PE X (.Call (.Attribute (.Name x pos1) "pop" pos2) [ie] [] cpos) (tE true F L p xs O (mi.bind fun j => popAtR xs j)) := pe_imp (h (pe_var hN hv hd hcd) (pa_cons hie pa_nil hs1)) fun σ H Q ⟨g, q⟩ => by
  obtain ⟨w, h4, h5⟩ := g.slot hL
  obtain ⟨vs, h6, h7⟩ := g.head
  rw [out_bind] at q
  refine ⟨w, h4, ?_, g, q.mono (fun j k v H1 g1 s1 r1 => ?_) fun H' ⟨a, _⟩ => a.go.sub (hO _)⟩
  · rw [show w = V.ref p from h5]
    exact .inl ⟨rfl, _, .of h6⟩
  · obtain ⟨vs', h8, h9⟩ := g1.head
    unfold popAtR at k
    cases e : seqIndex? j xs.length with
    | none => rw [e] at k; exact k.elim
    | some n =>
      rw [e] at k
      cases e2 : xs[n]? with
      | none => simp only [e2] at k; exact k.elim
      | some a =>
        simp only [e2] at k
        rw [out_need] at k
        obtain ⟨y, h10, h11⟩ := reps_get h9 e2
        have r1' : v = V.int j := r1
        refine ⟨p, vs', j, n, y, h5, by rw [r1'], h8, k.1.1, k.1.2, by rw [h9.length]; exact e, h10, ?_⟩
        have gu := g_upd g1 (reps_erase n h9)
        refine k.2 y _ gu.1 ((KeepBut.of s1).trans gu.2) ?_
        exact Rep.mono (fun a o z => by
          unfold rg at z
          show rgn true F (ow F.K F.mg p (xs.eraseIdx n) :: O) _ a = some o
          show less _ _ a = some o
          by_cases hb : a ∈ addrs (ow F.K F.mg p xs :: O) ++ F.A
          · rw [less_in hb] at z; cases z
          · rw [less_out hb] at z
            rw [less_out (show a ∉ addrs (ow F.K F.mg p (xs.eraseIdx n) :: O) ++ F.A from hb), upd_ne (fun y => hb (by rw [y]; exact List.mem_append_left _ List.mem_cons_self))]
            exact z) h11
end
end NF

set_option Elab.async false
set_option linter.all false
set_option maxRecDepth 100000
/-! Nf9: built-ins. -/
namespace NF
open PySem PySem.Spec PyProof.Rows L2
open Data (toD)
/-- the name of a value's type -/
class Ty (α : Type) [Rep α] where
  tyN : α → String
  ok : ∀ {K : Fg} {mg : MG} {H : Hp} {v : V} {a : α}, Rep.rep K mg H v a → TyX K H v (.type (tyN a))
theorem tyx_tup {K : Fg} {H : Hp} {p : Addr} {vs : List V} (h : SqT K H p vs) : TyX K H (.ref p) (.type "tuple") := by
  rcases h with (h | ⟨o, h⟩) | ⟨o, its, n, h1, h2, _⟩
  · exact .base (.tup h)
  · exact .fTuple h
  · exact .kTuple h1 h2
theorem tyx_lst {K : Fg} {H : Hp} {p : Addr} {vs : List V} (h : SqL K H p vs) : TyX K H (.ref p) (.type "list") := by
  rcases h with (h | ⟨o, h⟩) | ⟨o, its, n, h1, h2, _⟩
  · exact .base (.lst h)
  · exact .base (.frz h)
  · exact .kList h1 h2
instance : Ty Int := ⟨fun _ => "int", fun {K mg H v a} h => by subst h; exact .base (.int a)⟩
instance : Ty Bool := ⟨fun _ => "bool", fun {K mg H v a} h => by subst h; exact .base (.bl a)⟩
instance : Ty Str := ⟨fun _ => "str", fun {K mg H v a} h => by subst h; exact .base (.str a)⟩
instance : Ty Unit := ⟨fun _ => "NoneType", fun {K mg H v a} h => by subst h; exact .base .non⟩
instance {α : Type} [Rep α] : Ty (List α) := ⟨fun _ => "list", fun ⟨p, vs, h1, h2, h3⟩ => by subst h1; exact tyx_lst (.of h2)⟩
instance {α : Type} [Rep α] : Ty (Tp α) := ⟨fun _ => "tuple", fun ⟨p, vs, h1, h2, h3⟩ => by subst h1; exact tyx_tup h2⟩
instance {α β : Type} [Rep α] [Rep β] : Ty (α × β) := ⟨fun _ => "tuple", fun ⟨p, a, b, h1, h2, _⟩ => by subst h1; exact tyx_tup h2⟩
def dName : PyData → String
  | .none => "NoneType"
  | .bool _ => "bool"
  | .int _ => "int"
  | .str _ => "str"
  | .list _ => "list"
  | .tuple _ => "tuple"
  | .dict _ => "dict"
instance : Ty PyData := ⟨dName, fun {K mg H v a} h => by
  cases (show Dp K H v a from h) with
  | non => exact .base .non
  | bl b => exact .base (.bl b)
  | int i => exact .base (.int i)
  | str x => exact .base (.str x)
  | lst h2 hs => exact tyx_lst h2
  | tup h2 hs => exact tyx_tup h2⟩
/-- isinstance by the names -/
def isT (T n : String) : Res Bool := match kitB n T with
  | some b => .ok b
  | none => .bad
section
variable {X : Cx} {F : Fr} {L : List (Option Asr)} {O : List Own} {α β γ s : Type} [Rep α] [Rep β] [Rep γ] [Rep s] {b1 b2 b3 : Bool} {pos p1 p2 : Pos}
theorem ty_grow [Ty α] {K : Fg} {H H' : Hp} {t : Value} {v : V} (h : TyX K H v t) : True := trivial
theorem n_isi [Ty α] {e : Expr} {T : Str} {n : String} {m : Res α} (h : PE X e (tP b1 F L O m)) (hT : bootBuiltins T = some (.type n)) (hm : X.mg T = none) (hi : X.mg "isinstance" = none) (hg : Gl X "isinstance" := by rfl) (hgT : Gl X T := by rfl) (hK : X.K = F.K := by rfl) (hM : X.mg = F.mg := by rfl)
    (hn : T ≠ "__name__" := by decide) (hd : (T == ("__debug__" : Str)) = false := by decide)
    (h1 : starEach [e, .Name T p2] X.env = (false, eval e X.env) :: starEach [.Name T p2] X.env := by rfl) (h2 : starEach [.Name T p2] X.env = (false, eval (.Name T p2) X.env) :: starEach [] X.env := by rfl)
    (c : ∀ {r : List V → Hp → VK → Prop} {t : TA}, CallR X (.builtin "isinstance") r → PA X [e, .Name T p2] t → PE X (.Call (.Name "isinstance" p1) [e, .Name T p2] [] pos) (tCB r t)) :
    PE X (.Call (.Name "isinstance" p1) [e, .Name T p2] [] pos) (tP b3 F L O (m.bind fun a => isT n (Ty.tyN a))) := pe_imp (c call_isi (pa_cons h (pa_cons (pe_bltn (v := .ty n) hgT hm hT rfl hn hd) pa_nil h2) h1)) fun σ H Q ⟨g, q⟩ => by
  rw [out_bind] at q
  refine ⟨g, q.mono (fun a k v H1 g1 s1 r1 => ?_) fun _ z => z⟩
  unfold isT at k
  cases e : kitB (Ty.tyN a) n with
  | none => rw [e] at k; exact k.elim
  | some b =>
    rw [e] at k
    have ht : TyX F.K (rgn b1 F O H1) v (.type (Ty.tyN a)) := Ty.ok r1
    have ht' : TyX X.K H1 v (.type (Ty.tyN a)) := by rw [hK]; exact Ty.ok (α := α) (mg := F.mg) (Rep.mono rgn_sub r1)
    exact ⟨v, .ty n, _, _, b, rfl, .ty n, ht', kit_ty e, k _ H1 g1 s1 rfl⟩
/-- abs, int, bool, max, min -/
theorem n_abs {e : Expr} {m : Res Int} {es} (h : PE X e (tCB es (tCons (tP b1 F L O m) tNil))) (er : es = fun xs H Q => ∃ i, xs = [V.int i] ∧ Q (.int (if i < 0 then -i else i)) H) : PE X e (tP b3 F L O (m.bind fun i => .ok (if i < 0 then -i else i))) := nc1 h fun x vx H σ Q g rx q => by
  subst er; cases rx; exact ⟨x, rfl, kp_flat (α := Int) g q⟩
theorem n_int1 {e : Expr} {m : Res Int} {es} (h : PE X e (tCB es (tCons (tP b1 F L O m) tNil))) (er : es = fun xs H Q => (∃ i, xs = [V.int i] ∧ Q (.int i) H) ∨ ∃ k, xs = [V.bl k] ∧ Q (.int (if k then 1 else 0)) H) : PE X e (tP b3 F L O (m.bind fun i => .ok i)) := nc1 h fun x vx H σ Q g rx q => by
  subst er; cases rx; exact .inl ⟨x, rfl, kp_flat (α := Int) g q⟩
theorem n_intB {e : Expr} {m : Res Bool} {es} (h : PE X e (tCB es (tCons (tP b1 F L O m) tNil))) (er : es = fun xs H Q => (∃ i, xs = [V.int i] ∧ Q (.int i) H) ∨ ∃ k, xs = [V.bl k] ∧ Q (.int (if k then 1 else 0)) H) : PE X e (tP b3 F L O (m.bind fun k => .ok (if k then (1 : Int) else 0))) := nc1 h fun x vx H σ Q g rx q => by
  subst er; cases rx; exact .inr ⟨x, rfl, kp_flat (α := Int) g q⟩
theorem n_max2 {e : Expr} {ma mb : Res Int} {es} (h : PE X e (tCB es (tCons (tP b1 F L O ma) (tCons (tP b2 F L O mb) tNil)))) (er : es = fun xs H Q => ∃ i j, xs = [V.int i, V.int j] ∧ Q (.int (if j > i then j else i)) H) : PE X e (tP b3 F L O (ma.bind fun i => mb.bind fun j => .ok (if j > i then j else i))) := nc2 h fun x y vx vy H σ Q g rx ry q => by
  subst er; cases rx; cases ry; exact ⟨x, y, rfl, kp_flat (α := Int) g q⟩
theorem n_min2 {e : Expr} {ma mb : Res Int} {es} (h : PE X e (tCB es (tCons (tP b1 F L O ma) (tCons (tP b2 F L O mb) tNil)))) (er : es = fun xs H Q => ∃ i j, xs = [V.int i, V.int j] ∧ Q (.int (if j < i then j else i)) H) : PE X e (tP b3 F L O (ma.bind fun i => mb.bind fun j => .ok (if j < i then j else i))) := nc2 h fun x y vx vy H σ Q g rx ry q => by
  subst er; cases rx; cases ry; exact ⟨x, y, rfl, kp_flat (α := Int) g q⟩
/-- the least, the greatest of a list of ints -/
def minR (xs : List Int) : Res Int := match xs with
  | [] => .bad
  | x :: r => .ok (r.foldl min x)
def maxR (xs : List Int) : Res Int := match xs with
  | [] => .bad
  | x :: r => .ok (r.foldl max x)
theorem foldl_min_le : ∀ (r : List Int) (x : Int), r.foldl min x ≤ x ∧ (∀ y ∈ r, r.foldl min x ≤ y) ∧ (r.foldl min x = x ∨ r.foldl min x ∈ r)
  | [], x => ⟨Int.le_refl _, fun _ h => (List.not_mem_nil h).elim, .inl rfl⟩
  | y :: r, x => by
    obtain ⟨h1, h2, h3⟩ := foldl_min_le r (min x y)
    refine ⟨by show r.foldl min (min x y) ≤ x; omega, fun z hz => ?_, ?_⟩
    · rcases List.mem_cons.mp hz with rfl | hz
      · show r.foldl min (min x z) ≤ z; omega
      · exact h2 z hz
    · show r.foldl min (min x y) = x ∨ r.foldl min (min x y) ∈ y :: r
      rcases h3 with h3 | h3
      · by_cases h : x ≤ y
        · left; omega
        · right; rw [h3, show min x y = y by omega]; exact List.mem_cons_self
      · right; exact List.mem_cons_of_mem _ h3
theorem foldl_max_le : ∀ (r : List Int) (x : Int), x ≤ r.foldl max x ∧ (∀ y ∈ r, y ≤ r.foldl max x) ∧ (r.foldl max x = x ∨ r.foldl max x ∈ r)
  | [], x => ⟨Int.le_refl _, fun _ h => (List.not_mem_nil h).elim, .inl rfl⟩
  | y :: r, x => by
    obtain ⟨h1, h2, h3⟩ := foldl_max_le r (max x y)
    refine ⟨by show x ≤ r.foldl max (max x y); omega, fun z hz => ?_, ?_⟩
    · rcases List.mem_cons.mp hz with rfl | hz
      · show z ≤ r.foldl max (max x z); omega
      · exact h2 z hz
    · show r.foldl max (max x y) = x ∨ r.foldl max (max x y) ∈ y :: r
      rcases h3 with h3 | h3
      · by_cases h : y ≤ x
        · left; omega
        · right; rw [h3, show max x y = y by omega]; exact List.mem_cons_self
      · right; exact List.mem_cons_of_mem _ h3
theorem n_min {e : Expr} {m : Res (List Int)} {es} (h : PE X e (tCB es (tCons (tP b1 F L O m) tNil))) (er : es = rMin F.K) : PE X e (tP b3 F L O (m.bind minR)) := nc1 h fun x vx H σ Q g rx q => by
  subst er
  obtain ⟨p, vs, rfl, h2, h3⟩ := rx
  have e := reps_flat.mp h3
  subst e
  cases x with
  | nil => exact q.elim
  | cons y r =>
    refine ⟨p, y :: r, rfl, .of (rgn_sub _ _ h2), by simp, fun m hm hle => ?_⟩
    obtain ⟨f1, f2, f3⟩ := foldl_min_le r y
    have em : m = r.foldl min y := by
      have a1 : m ≤ r.foldl min y := by
        rcases f3 with f3 | f3
        · rw [f3]; exact hle y List.mem_cons_self
        · exact hle _ (List.mem_cons_of_mem _ f3)
      have a2 : r.foldl min y ≤ m := by
        rcases List.mem_cons.mp hm with e | e
        · rw [e]; exact f1
        · exact f2 m e
      omega
    subst em
    exact kp_flat (α := Int) g q
theorem n_max {e : Expr} {m : Res (List Int)} {es} (h : PE X e (tCB es (tCons (tP b1 F L O m) tNil))) (er : es = rMax F.K) : PE X e (tP b3 F L O (m.bind maxR)) := nc1 h fun x vx H σ Q g rx q => by
  subst er
  obtain ⟨p, vs, rfl, h2, h3⟩ := rx
  have e := reps_flat.mp h3
  subst e
  cases x with
  | nil => exact q.elim
  | cons y r =>
    refine ⟨p, y :: r, rfl, .of (rgn_sub _ _ h2), by simp, fun m hm hle => ?_⟩
    obtain ⟨f1, f2, f3⟩ := foldl_max_le r y
    have em : m = r.foldl max y := by
      have a1 : r.foldl max y ≤ m := by
        rcases f3 with f3 | f3
        · rw [f3]; exact hle y List.mem_cons_self
        · exact hle _ (List.mem_cons_of_mem _ f3)
      have a2 : m ≤ r.foldl max y := by
        rcases List.mem_cons.mp hm with e | e
        · rw [e]; exact f1
        · exact f2 m e
      omega
    subst em
    exact kp_flat (α := Int) g q
theorem n_sum {e : Expr} {m : Res (List Int)} {es} (h : PE X e (tCB es (tCons (tP b1 F L O m) tNil))) (er : es = rSum F.K) : PE X e (tP b3 F L O (m.bind fun xs => .ok xs.sum)) := nc1 h fun x vx H σ Q g rx q => by
  subst er
  obtain ⟨p, vs, rfl, h2, h3⟩ := rx
  have e := reps_flat.mp h3
  subst e
  exact ⟨p, x, rfl, .of (rgn_sub _ _ h2), kp_flat (α := Int) g q⟩
theorem n_all {e : Expr} {m : Res (List Bool)} {es} (h : PE X e (tCB es (tCons (tP b1 F L O m) tNil))) (er : es = rAll F.K) : PE X e (tP b3 F L O (m.bind fun xs => .ok (xs.all id))) := nc1 h fun x vx H σ Q g rx q => by
  subst er
  obtain ⟨p, vs, rfl, h2, h3⟩ := rx
  have e := reps_flat.mp h3
  subst e
  exact ⟨p, x, rfl, .of (rgn_sub _ _ h2), kp_flat (α := Bool) g q⟩
theorem n_any {e : Expr} {m : Res (List Bool)} {es} (h : PE X e (tCB es (tCons (tP b1 F L O m) tNil))) (er : es = rAny F.K) : PE X e (tP b3 F L O (m.bind fun xs => .ok (xs.any id))) := nc1 h fun x vx H σ Q g rx q => by
  subst er
  obtain ⟨p, vs, rfl, h2, h3⟩ := rx
  have e := reps_flat.mp h3
  subst e
  exact ⟨p, x, rfl, .of (rgn_sub _ _ h2), kp_flat (α := Bool) g q⟩
/-- list(xs), tuple(xs) -/
theorem f_list [Lk s α] {e : Expr} {m : Res s} {es} (h : PE X e (tCB es (tCons (tP b1 F L O m) tNil))) (er : es = fun xs H Q => ∃ p ys, xs = [V.ref p] ∧ (SqL F.K H p ys ∨ SqT F.K H p ys) ∧ ∀ l, H l = none → Q (.ref l) (upd H l (.lst ys))) : PE X e (tF b1 F L O (m.bind fun x => .ok (Lk.its x))) := nc1f h fun x vx H σ Q g rx q => by
  subst er
  obtain ⟨p, vs, rfl, h2, h3⟩ := Lk.get rx
  exact ⟨p, vs, rfl, h2.elim (fun z => .inl (rgn_sub.seq z)) (fun z => .inr (same_t rgn_sub z)), kf_new g q h3⟩
theorem n_tupleOf [Lk s α] {e : Expr} {m : Res s} {es} (h : PE X e (tCB es (tCons (tP b1 F L O m) tNil))) (er : es = fun xs H Q => ∃ p ys, xs = [V.ref p] ∧ ((SqL F.K H p ys ∧ ∀ l, H l = none → Q (.ref l) (upd H l (.tup ys))) ∨ SqT F.K H p ys ∧ Q (.ref p) H)) : PE X e (tP b1 F L O (m.bind fun x => .ok (Tp.mk (Lk.its x)))) := nc1 h fun x vx H σ Q g rx q => by
  subst er
  obtain ⟨p, vs, rfl, h2, h3⟩ := Lk.get rx
  refine ⟨p, vs, rfl, ?_⟩
  rcases h2 with h2 | h2
  · exact .inl ⟨rgn_sub.seq h2, fun l hl => q _ _ (g.grow (same_upd hl)) (same_upd hl) ⟨l, vs, rfl, .of (rgn_new g (same_upd hl) hl upd_same), h3.mono (rgn_grow (same_upd hl))⟩⟩
  · exact .inr ⟨same_t rgn_sub h2, q _ H g (Same.refl _) ⟨p, vs, rfl, h2, h3⟩⟩
/-- n.bit_length() -/
theorem n_bits {o : Expr} {apos : Pos} {m : Res Int} (h : PE X o (tP b1 F L O m)) (hb : attributeBase o "bit_length" X.env (eval o X.env) = eval o X.env := by rfl) (hl : (apos.endLine == pos.line) = true := by rfl) :
    PE X (.Call (.Attribute o "bit_length" apos) [] [] pos) (tP b3 F L O (m.bind fun i => .ok ((Builtin.Int.intBits i : Nat) : Int))) := pe_imp (pe_bits h hb hl) fun σ H Q ⟨g, q⟩ => by
  rw [out_bind] at q
  exact ⟨g, q.mono (fun i k v H1 g1 s1 r1 => ⟨i, r1, k _ H1 g1 s1 rfl⟩) fun _ z => z⟩
end
end NF

set_option Elab.async false
set_option linter.all false
set_option maxRecDepth 100000
/-! Nf10: where a def stands; defs that change a list. -/
namespace NF
open PySem PySem.Spec PyProof.Rows L2
open Data (toD)
/-- a def of the module, with its promise -/
structure DefAt (P : Program) (w : World) (K : Fg) (mg : MG) (base : Heap) (cx : CXT) (k : Nat) (x : Str) (ps : List Str) (sp : Sp) : Prop where
  ex : ∃ (f : Addr) (fd : FuncData), FnOk P w K mg base cx k f fd ps sp ∧ mg x = some (.ref f) ∧ PySem.W.keepIn K (.ref f) = true ∧ Binds K fd ps []
section
variable {X : Cx} {F : Fr} {L : List (Option Asr)} {O : List Own} {p : Addr} {τ ρ α ι : Type} [RepA τ] [Rep ρ] [Rep α] [OwR ι]
variable {k : Nat} {ps : List Str} {x : Str} {p1 pos : Pos} {e : Expr} {es : List Expr} {b : Bool}
theorem nd_call {mir : τ → Res ρ} {m : Res τ} (D : DefAt X.prog X.w X.K X.mg X.base CX0 k x ps (spP X.K X.mg mir)) (hr : Room k X.A) (ha : PA X (e :: es) (tA b F L O m)) (hg : Gl X x := by rfl) (hE : F.E = E0 := by rfl) (hK : X.K = F.K := by rfl) (hM : X.mg = F.mg := by rfl) (hd : (x == ("__debug__" : Str)) = false := by decide)
    (hs : starEach (e :: es) X.env = (false, eval e X.env) :: starEach es X.env := by rfl) (hs2 : ((backTo pos (starEach es X.env)).any fun x => x.fst) = false := by rfl) : PE X (.Call (.Name x p1) (e :: es) [] pos) (tP b F L O (m.bind mir)) := by
  obtain ⟨f, fd, h1, h2, h3, h4⟩ := D.ex
  exact n_call h1 hr h2 h3 h4 ha hg hE hK hM hd hs hs2
theorem fd_call {mir : τ → Res (List α)} {m : Res τ} (D : DefAt X.prog X.w X.K X.mg X.base CX0 k x ps (spF X.K X.mg mir)) (hr : Room k X.A) (ha : PA X (e :: es) (tA b F L O m)) (hg : Gl X x := by rfl) (hE : F.E = E0 := by rfl) (hK : X.K = F.K := by rfl) (hM : X.mg = F.mg := by rfl) (hd : (x == ("__debug__" : Str)) = false := by decide)
    (hs : starEach (e :: es) X.env = (false, eval e X.env) :: starEach es X.env := by rfl) (hs2 : ((backTo pos (starEach es X.env)).any fun x => x.fst) = false := by rfl) : PE X (.Call (.Name x p1) (e :: es) [] pos) (tF b F L O (m.bind mir)) := by
  obtain ⟨f, fd, h1, h2, h3, h4⟩ := D.ex
  exact f_call h1 hr h2 h3 h4 ha hg hE hK hM hd hs hs2
end
/-! ### defs that change the list that is passed first -/
abbrev F2 (K : Fg) (mg : MG) (H : Hp) (A : List Addr) (E : XK) (p : Addr) : Fr := ⟨K, mg, H, [p], A, [], E, []⟩
def spI {τ ρ ι : Type} [RepA τ] [Rep ρ] [OwR ι] (K : Fg) (mg : MG) (mir : ι → τ → Res (ρ × ι)) : Sp := fun vs H Q _ => ∃ (p : Addr) (a : τ) (A : List Addr) (xs : ι) (us : List V) (ob : HO), (∀ x ∈ A, H x ≠ none) ∧ p ∉ A ∧ vs = .ref p :: us ∧ RepA.rep K mg (less H (p :: A)) us a ∧
  H p = some ob ∧ OwR.P K mg (less H (p :: A)) ob xs ∧
  Out (F2 K mg H A E0 p) (mir xs a) (fun r => ∀ v H' ob', KeepBut p H H' → H' p = some ob' → OwR.P K mg (less H' (p :: A)) ob' r.2 → Rep.rep K mg (less H' (p :: A)) v r.1 → Q v H') (fun H' => GO (F2 K mg H A E0 p) [] H')
def rI {ρ ι : Type} [Rep ρ] [OwR ι] (F : Fr) (p : Addr) (r : ρ × ι) (v : V) (H : Hp) : Prop := GO F [ow F.K F.mg p r.2] H ∧ rp F (rg F [ow F.K F.mg p r.2] H) v r.1
theorem go_startI {ι : Type} [OwR ι] {K : Fg} {mg : MG} {H : Hp} {A : List Addr} {E : XK} {p : Addr} {xs : ι} {ob : HO} (hA : ∀ x ∈ A, H x ≠ none) (hp : p ∉ A) (h : H p = some ob) (r : OwR.P K mg (less H (p :: A)) ob xs) : GO (F2 K mg H A E p) [ow K mg p xs] H where
  objs := fun w hw => by
    rw [List.mem_singleton.mp hw]
    exact ⟨_, h, r⟩
  nd := by simp
  own := fun w hw => by rw [List.mem_singleton.mp hw]; exact .inl List.mem_cons_self
  keep := fun _ _ h _ => h
  live := fun _ h => h
  hid := hA
  apart := fun w hw => by rw [List.mem_singleton.mp hw]; exact hp
  facts := fun _ h => (List.not_mem_nil h).elim
section
variable {P : Program} {w : World} {K : Fg} {mg : MG} {base : Heap} {τ ρ ι : Type} [RepA τ] [Rep ρ] [OwR ι]
variable {x qual : Str} {st : Stmt} {f : Addr} {fd : FuncData} {N ps : List Str} {k : Nat}
theorem def_I {mir : ι → τ → Res (ρ × ι)} (Fu : Fun K x qual st f fd) (S : FnScope N ps (defScope st)) (L0 : Addr → τ → List (Option Asr)) (hl : ∀ (vs : List V) (R : Hp) (p : Addr) (a : τ), RepA.rep K mg R vs a → (V.ref p :: vs).length = ps.length ∧ Paired (SlotOk R) (L0 p a) (start N (V.ref p :: vs)))
    (body : ∀ (cdv : Value) (A : Around) (outer : List Env) (s : Shared) (H : Hp) (Av : List Addr) (E : XK) (p : Addr) (xs : ι) (a : τ), Room k (A.deeper (envOfC qual (defScope st) s.heap.objs.size f cdv)) →
      PSs (cxOf CX0 P w K mg base N qual (defScope st) f cdv A outer s H E).nox (defBody st) (tT (F2 K mg H Av E0 p) (L0 p a) [ow K mg p xs] (mir xs a) (rI (F2 K mg H Av E0 p) p))) :
    FnOk P w K mg base CX0 (k + 1) f fd ps (spI K mg mir) := by
  refine Fu.ok S (fun vs H Q E ⟨p, a, A, xs, us, ob, _, _, e, h, _⟩ => by rw [e]; exact (hl us _ p a h).1) (fun cdv A outer s H vs Q E hr ⟨p, a, Av, xs, us, ob, hA, hp, e, h, h1, h2, q⟩ => ⟨_, body cdv A outer s H Av E p xs a hr, ⟨?_, go_startI hA hp h1 h2⟩, ?_⟩)
  · rw [e]
    exact (hl us _ p a h).2
  · refine q.mono (fun r k v H' ⟨g, r'⟩ => ?_) fun H' g => g
    obtain ⟨vs', h3, h4⟩ := g.objs _ List.mem_cons_self
    exact k v H' vs' (fun x o h hx => g.keep x o h (fun z => hx (List.mem_singleton.mp z))) h3 h4 r'
end
section
variable {X : Cx} {F : Fr} {L : List (Option Asr)} {O : List Own} {p : Addr} {τ ρ α ι : Type} [RepA τ] [Rep ρ] [Rep α] [OwR ι] {xs : ι}
variable {k : Nat} {ps : List Str} {x y : Str} {p1 p2 pos : Pos} {e : Expr} {es : List Expr}
/-! arguments -/
theorem ea_p {b : Bool} {es : List Expr} {m : Res τ} (hO : List.Sublist F.O0 (ow F.K F.mg p xs :: O)) (h : PA X es (tA b F L (ow F.K F.mg p xs :: O) m)) : PA X es (tEA b F L p xs O (m.bind fun a => .ok (a, xs))) := pa_imp h fun σ H Q ⟨g, q⟩ => by
  rw [out_bind] at q
  exact ⟨g, q.mono (fun a k vs H' g' s r => k vs H' g' (.of s) r) fun H' ⟨a, _⟩ => a.go.sub hO⟩
theorem pa_ex {δ : Type} {es : List Expr} {t : δ → TA} (h : ∀ b, PA X es (t b)) : PA X es (fun σ H Q => ∃ b, t b σ H Q) := ⟨fun pos pins s σ H Q I ⟨b, q⟩ => (h b).run pos pins s σ H Q I q⟩
theorem ea_cons [Flat α] {e : Expr} {es : List Expr} {ma : Res (α × ι)} {mr : ι → Res (τ × ι)} (he : PE X e (tE true F L p xs O ma)) (hr : ∀ xs', PA X es (tEA true F L p xs' O (mr xs'))) (hs : starEach (e :: es) X.env = (false, eval e X.env) :: starEach es X.env := by rfl) :
    PA X (e :: es) (tEA true F L p xs O (ma.bind fun u => (mr u.2).bind fun w => .ok (Ar.mk u.1 w.1, w.2))) := pa_imp (pa_cons he (pa_ex hr) hs) fun σ H Q ⟨g, q⟩ => by
  rw [out_bind] at q
  refine ⟨g, q.mono (fun u qx v1 H1 g1 s1 r1 => ?_) fun _ z => z⟩
  rw [out_bind] at qx
  refine ⟨u.2, g1, qx.mono (fun w qy v2 H2 g2 s2 r2 => ?_) fun _ z => z⟩
  exact qy _ H2 g2 (s1.trans s2) ⟨v1, v2, rfl, Flat.iff.mpr (Flat.iff.mp r1), r2⟩
/-- a pure argument, whose value stands outside the list -/
theorem ea_consP {e : Expr} {es : List Expr} {ma : Res α} {mr : Res (τ × ι)} (hO : List.Sublist F.O0 (ow F.K F.mg p xs :: O)) (he : PE X e (tP true F L (ow F.K F.mg p xs :: O) ma)) (hr : PA X es (tEA true F L p xs O mr)) (hs : starEach (e :: es) X.env = (false, eval e X.env) :: starEach es X.env := by rfl) :
    PA X (e :: es) (tEA true F L p xs O (ma.bind fun u => mr.bind fun w => .ok (Ar.mk u w.1, w.2))) := pa_imp (pa_cons he hr hs) fun σ H Q ⟨g, q⟩ => by
  rw [out_bind] at q
  refine ⟨g, q.mono (fun u qx v1 H1 g1 s1 r1 => ?_) fun H' ⟨a, _⟩ => a.go.sub hO⟩
  rw [out_bind] at qx
  refine ⟨g1, qx.mono (fun w qy v2 H2 g2 s2 r2 => ?_) fun _ z => z⟩
  refine qy _ H2 g2 ((KeepBut.of s1).trans s2) ⟨v1, v2, rfl, Rep.mono (fun a o z => ?_) r1, r2⟩
  have hb : a ∉ addrs (ow F.K F.mg p xs :: O) ++ F.A := fun y => by
    have z' : less H1 _ a = some o := z
    rw [less_in y] at z'
    cases z'
  have z' : less H1 (addrs (ow F.K F.mg p xs :: O) ++ F.A) a = some o := z
  rw [less_out hb] at z'
  show less H2 (addrs (ow F.K F.mg p w.2 :: O) ++ F.A) a = some o
  rw [less_out (show a ∉ addrs (ow F.K F.mg p w.2 :: O) ++ F.A from hb)]
  exact s2 _ _ z' (fun y => hb (by rw [y]; exact List.mem_append_left _ List.mem_cons_self))
/-- f(pool, ..) -/
theorem e_call {mir : ι → τ → Res (ρ × ι)} {m : Res (τ × ι)} (i : Nat) (D : DefAt X.prog X.w X.K X.mg X.base CX0 k x ps (spI X.K X.mg mir)) (hr : Room k X.A) (hL : L[i]? = some (rf p)) (ha : PA X es (tEA true F L p xs O m)) (hg : Gl X x := by rfl) (hE : F.E = E0 := by rfl) (hO0 : F.O0 = [] := by rfl) (hK : X.K = F.K := by rfl) (hM : X.mg = F.mg := by rfl) (hd : (x == ("__debug__" : Str)) = false := by decide)
    (hN : X.N[i]? = some y := by rfl) (hv : Vis X.env.scope y := by first | exact Or.inl rfl | exact Or.inr (Or.inl rfl) | exact Or.inr (Or.inr rfl)) (hd2 : (y == ("__debug__" : Str)) = false := by decide) (hcd : (y == ("__classdict__" : Str)) = false := by decide)
    (hs : starEach (.Name y p2 :: es) X.env = (false, eval (.Name y p2) X.env) :: starEach es X.env := by rfl) (hs2 : ((backTo pos (starEach es X.env)).any fun x => x.fst) = false := by rfl) : PE X (.Call (.Name x p1) (.Name y p2 :: es) [] pos) (tE true F L p xs O (m.bind fun u => mir u.2 u.1)) := by
  obtain ⟨f, fd, h1, h2, h3, h4⟩ := D.ex
  refine pe_imp (pe_call h1 hr hg h2 h3 h4 .nil pass0 (pa_cons (pe_var hN hv hd2 hcd) ha hs) hd hs hs2) fun σ H Q ⟨g, q⟩ => ?_
  rw [out_bind] at q
  obtain ⟨w, h5, h6⟩ := g.slot hL
  refine ⟨w, h5, g, q.mono (fun u qa vs H1 g1 s1 r1 => ?_) fun _ z => z⟩
  obtain ⟨ws, h7, h8⟩ := g1.go.objs _ List.mem_cons_self
  have e1 : w = V.ref p := h6
  subst e1
  show spI X.K X.mg mir ((V.ref p :: vs) ++ []) H1 Q E0
  rw [List.append_nil, hK, hM]
  have hmem : ∀ a ∈ addrs O ++ F.A, H1 a ≠ none := fun a ha z => g1.go.out z (List.mem_cons_of_mem _ ha)
  have hpn : p ∉ addrs O ++ F.A := fun z => by
    rcases List.mem_append.mp z with z | z
    · exact (List.nodup_cons.mp (show (p :: addrs O).Nodup from g1.go.nd)).1 z
    · exact g1.go.apart _ List.mem_cons_self z
  refine ⟨p, u.1, addrs O ++ F.A, u.2, vs, ws, hmem, hpn, rfl, r1, h7, h8, ?_⟩
  have back : ∀ {H' : Hp} {ys : ι} {ws' : HO}, KeepBut p H1 H' → H' p = some ws' → OwR.P F.K F.mg (less H' (p :: (addrs O ++ F.A))) ws' ys → G F L (ow F.K F.mg p ys :: O) σ H' := fun {H' ys ws'} kb hp' rr => by
    have er : Same (rg F (ow F.K F.mg p u.2 :: O) H1) (rg F (ow F.K F.mg p ys :: O) H') := fun a o z => by
      have hb : a ∉ addrs (ow F.K F.mg p u.2 :: O) ++ F.A := fun y => by unfold rg at z; rw [less_in y] at z; cases z
      unfold rg at z ⊢
      rw [less_out hb] at z
      rw [less_out (show a ∉ addrs (ow F.K F.mg p ys :: O) ++ F.A from hb)]
      exact kb _ _ z (fun y => hb (by rw [y]; exact List.mem_append_left _ List.mem_cons_self))
    refine ⟨L2.Paired.mapP g1.slots fun _ _ z => z.mono er, ?_⟩
    exact {
      objs := fun w hw => by
        rcases List.mem_cons.mp hw with rfl | hw
        · exact ⟨_, hp', rr⟩
        · obtain ⟨o, ho, q⟩ := g1.go.objs w (List.mem_cons_of_mem _ hw)
          exact ⟨o, kb _ _ ho (fun y => hpn (by rw [← y]; exact List.mem_append_left _ (List.mem_map.mpr ⟨w, hw, rfl⟩))), w.mono er q⟩
      nd := g1.go.nd
      own := fun w hw => by
        rcases List.mem_cons.mp hw with rfl | hw
        · exact g1.go.own (ow F.K F.mg p u.2) List.mem_cons_self
        · exact g1.go.own w (List.mem_cons_of_mem _ hw)
      keep := fun a o h hw => by
        refine kb _ _ (g1.go.keep a o h hw) fun y => ?_
        subst y
        rcases g1.go.own _ List.mem_cons_self with z | z
        · exact hw z
        · have z' : F.H0 a = none := z
          rw [z'] at h; cases h
      live := fun a h => by
        by_cases hne : a = p
        · subst hne; rw [hp']; simp
        · cases z : H1 a with
          | none => exact (g1.go.live a h z).elim
          | some o => rw [kb _ _ z hne]; simp
      hid := g1.go.hid
      apart := fun w hw => by
        rcases List.mem_cons.mp hw with rfl | hw
        · exact g1.go.apart (ow F.K F.mg p u.2) List.mem_cons_self
        · exact g1.go.apart w (List.mem_cons_of_mem _ hw)
      facts := fun z hz => z.mono er (g1.go.facts z hz) }
  cases e : mir u.2 u.1 with
  | ok r =>
    rw [e] at qa
    exact fun v H' ws' kb h9 h10 h11 => qa v H' (back kb h9 h10) (s1.trans kb) h11
  | err c fs =>
    rw [e] at qa
    rw [← hE]
    exact fun C d H' h9 h10 h12 => qa C d H' h9 (h10.older g1.go.live) (by
      rw [XPS, hO0]
      exact {
        objs := fun _ h => (List.not_mem_nil h).elim
        nd := List.nodup_nil
        own := fun _ h => (List.not_mem_nil h).elim
        keep := fun a o h hw => by
          have hne : a ≠ p := fun y => by
            subst y
            rcases g1.go.own _ List.mem_cons_self with z | z
            · exact hw z
            · have z' : F.H0 a = none := z
              rw [z'] at h; cases h
          exact h12.keep a o (g1.go.keep a o h hw) (fun z => hne (List.mem_singleton.mp z))
        live := fun a h => h12.live a (g1.go.live a h)
        hid := g1.go.hid
        apart := fun _ h => (List.not_mem_nil h).elim
        facts := fun z hz => z.mono (fun a o y => by
          have hb : a ∉ addrs (ow F.K F.mg p u.2 :: O) ++ F.A := fun y' => by unfold rg at y; rw [less_in y'] at y; cases y
          unfold rg at y ⊢
          rw [less_out hb] at y
          rw [show addrs ([] : List Own) ++ F.A = F.A from rfl, less_out (fun y' => hb (List.mem_append_right _ y'))]
          exact h12.keep a o y (fun z => hb (by rw [List.mem_singleton.mp z]; exact List.mem_append_left _ List.mem_cons_self))) (g1.go.facts z hz) })
  | bad =>
    rw [e] at qa
    exact qa.elim
/-! handing back from a def that changes p -/
theorem b_retI {m : Res ρ} {e : Expr} {pos : Pos} (he : PE X e (tP true F L O m)) (hO1 : List.Sublist [ow F.K F.mg p xs] O) (hO : List.Sublist F.O0 O) : PSs X [.Return (some e) pos] (tT F L O (m.bind fun a => .ok (a, xs)) (rI F p)) := pss_one (ps_imp (ps_ret he) fun D σ H ⟨g, q⟩ => by
  rw [out_bind] at q
  exact ⟨g, q.mono (fun a k v H1 g1 s1 r1 => k v H1 ⟨g1.go.sub hO1, Rep.mono (rg_sub hO1) r1⟩) fun H' ⟨a, _⟩ => a.go.sub hO⟩)
theorem b_retE {m : Res (ρ × ι)} {e : Expr} {pos : Pos} (he : PE X e (tE true F L p xs O m)) : PSs X [.Return (some e) pos] (tT F L (ow F.K F.mg p xs :: O) m (rI F p)) := pss_one (ps_imp (ps_ret he) fun D σ H ⟨g, q⟩ =>
  ⟨g, q.mono (fun r k v H1 g1 s1 r1 => k v H1 ⟨g1.go.sub (.cons₂ _ (List.nil_sublist _)), Rep.mono (rg_sub (.cons₂ _ (List.nil_sublist _))) r1⟩) fun _ z => z⟩)
/-- an owned list (at q) handed back as a value -/
theorem b_retOI {as : List α} {q : Addr} {z : Str} {pos' pos : Pos} (i : Nat) (hL : L[i]? = some (rf q)) (hm : ow F.K F.mg q as ∈ O) (hO1 : List.Sublist [ow F.K F.mg p xs] O) (hne : (ow F.K F.mg p xs :: ow F.K F.mg q as :: []).Sublist O ∨ (ow F.K F.mg q as :: ow F.K F.mg p xs :: []).Sublist O) (hO : List.Sublist F.O0 O) (hN : X.N[i]? = some z := by rfl) (hv : Vis X.env.scope z := by first | exact Or.inl rfl | exact Or.inr (Or.inl rfl) | exact Or.inr (Or.inr rfl)) (hd : (z == ("__debug__" : Str)) = false := by decide)
    (hcd : (z == ("__classdict__" : Str)) = false := by decide) : PSs X [.Return (some (.Name z pos')) pos] (tT F L O (.ok (as, xs)) (rI F p)) := pss_one (ps_imp (ps_ret (pe_var hN hv hd hcd)) fun D σ H ⟨g, k⟩ => by
  obtain ⟨v, h1, h2⟩ := g.slot hL
  obtain ⟨o, h3, vs, h4, h5⟩ := g.go.objs _ hm
  subst h4
  refine ⟨v, h1, k v H ⟨g.go.sub hO1, q, vs, h2, ?_, h5.mono (rg_sub hO1)⟩⟩
  have nq : q ≠ p := by
    rcases hne with hne | hne
    · have nd := g.go.nd.sublist (hne.map Own.a)
      have nd' : [p, q].Nodup := nd
      intro e
      subst e
      simp at nd'
    · have nd := g.go.nd.sublist (hne.map Own.a)
      have nd' : [q, p].Nodup := nd
      intro e
      subst e
      simp at nd'
  show less H _ q = some (.lst vs)
  rw [less_out]
  · exact h3
  · intro y
    rcases List.mem_cons.mp (show q ∈ p :: F.A from y) with y | y
    · exact nq y
    · exact g.go.apart _ hm y)
end
end NF

set_option Elab.async false
set_option linter.all false
set_option maxRecDepth 100000
/-! Nf11: the operators that change the list; further statements. -/
namespace NF
open PySem PySem.Spec PyProof.Rows L2
open Data (toD)
section
variable {X : Cx} {F : Fr} {L : List (Option Asr)} {p : Addr} {O : List Own} {α β γ ι s : Type} [Rep α] [Rep β] [Rep γ] [OwR ι] [Rep s] {xs : ι}
section
variable {x y : Expr} {pos : Pos} {b1 b2 b3 : Bool} {ma : Res (Int × ι)} {mb : ι → Res (Int × ι)}
variable (hx : PE X x (tE b1 F L p xs O ma)) (hy : ∀ xs', PE X y (tE b2 F L p xs' O (mb xs'))) (hO : ∀ xs' : ι, List.Sublist F.O0 (ow F.K F.mg p xs' :: O))
include hx hy hO
theorem e_add : PE X (.BinOp x .Add y pos) (tE b3 F L p xs O (ma.bind fun u => (mb u.2).bind fun w => .ok (u.1 + w.1, w.2))) := ne2 (pe_op op_add) hx hy (fun _ => rr_I0 (g := fun x y => x + y)) hO
theorem e_sub : PE X (.BinOp x .Sub y pos) (tE b3 F L p xs O (ma.bind fun u => (mb u.2).bind fun w => .ok (u.1 - w.1, w.2))) := ne2 (pe_op op_sub) hx hy (fun _ => rr_I0 (g := fun x y => x - y)) hO
theorem e_mul : PE X (.BinOp x .Mult y pos) (tE b3 F L p xs O (ma.bind fun u => (mb u.2).bind fun w => (need (CMul u.1 w.1) (.ok (u.1 * w.1))).bind fun z => .ok (z, w.2))) := ne2 (pe_op op_mul) hx hy (fun _ => rr_I (g := fun x y => x * y)) hO
theorem e_mod : PE X (.BinOp x .Mod y pos) (tE b3 F L p xs O (ma.bind fun u => (mb u.2).bind fun w => (need (0 < w.1) (.ok (u.1 % w.1))).bind fun z => .ok (z, w.2))) := ne2 (pe_op op_mod) hx hy (fun _ => rr_I (C := fun _ y => 0 < y) (g := fun x y => x % y)) hO
theorem e_fdiv : PE X (.BinOp x .FloorDiv y pos) (tE b3 F L p xs O (ma.bind fun u => (mb u.2).bind fun w => (need (CDiv u.1 w.1) (.ok (u.1 / w.1))).bind fun z => .ok (z, w.2))) := ne2 (pe_op op_fdiv) hx hy (fun _ => rr_I (g := fun x y => x / y)) hO
theorem et_eq : PT X (.Compare x [.Eq] [y] pos) (tEB F L p xs O (ma.bind fun u => (mb u.2).bind fun w => .ok (decide (u.1 = w.1), w.2))) := ne2t (mc := fun x y => .ok (decide (x = y))) (fun h1 h2 => pt_cmpR op_eq h1 h2 (nomark _)) hx hy (fun _ x y vx vy H σ Q g rx ry q => by
  cases rx; cases ry
  exact ⟨rfl, by rw [show decide (V.int x = V.int y) = decide (x = y) by simp]; exact kp_flat g q⟩) hO
theorem et_ne : PT X (.Compare x [.NotEq] [y] pos) (tEB F L p xs O (ma.bind fun u => (mb u.2).bind fun w => .ok (!decide (u.1 = w.1), w.2))) := ne2t (mc := fun x y => .ok (!decide (x = y))) (fun h1 h2 => pt_cmpR op_ne h1 h2 (nomark _)) hx hy (fun _ x y vx vy H σ Q g rx ry q => by
  cases rx; cases ry
  exact ⟨rfl, by rw [show decide (V.int x = V.int y) = decide (x = y) by simp]; exact kp_flat g q⟩) hO
theorem et_lt : PT X (.Compare x [.Lt] [y] pos) (tEB F L p xs O (ma.bind fun u => (mb u.2).bind fun w => .ok (decide (u.1 < w.1), w.2))) := ne2t (mc := fun x y => .ok (decide (x < y))) (fun h1 h2 => pt_cmpR op_lt h1 h2 (nomark _)) hx hy (fun _ => rr_I0 (g := fun x y => decide (x < y))) hO
theorem et_gt : PT X (.Compare x [.Gt] [y] pos) (tEB F L p xs O (ma.bind fun u => (mb u.2).bind fun w => .ok (decide (w.1 < u.1), w.2))) := ne2t (mc := fun x y => .ok (decide (y < x))) (fun h1 h2 => pt_cmpR op_gt h1 h2 (nomark _)) hx hy (fun _ => rr_I0 (g := fun x y => decide (y < x))) hO
end
theorem ec2 [Flat α] [Flat β] {e : Expr} {b1 b2 b3 : Bool} {r : List V → Hp → VK → Prop} {ma : Res (α × ι)} {mb : ι → Res (β × ι)} {mc : α → β → Res γ} {t1 t2 : TE}
    (h : PE X e (tCB r (tCons (tE b1 F L p xs O ma) (tCons (fun σ H Q => ∃ xs', tE b2 F L p xs' O (mb xs') σ H Q) tNil))))
    (hr : ∀ xs' : ι, ∀ x y vx vy H σ Q, G F L (ow F.K F.mg p xs' :: O) σ H → rp F (rgn true F (ow F.K F.mg p xs' :: O) H) vx x → rp F (rgn true F (ow F.K F.mg p xs' :: O) H) vy y → Out F (mc x y) (KP γ b3 F L (ow F.K F.mg p xs' :: O) σ H Q) (XP F L (ow F.K F.mg p xs' :: O) σ H) → r [vx, vy] H Q) (hO : ∀ xs' : ι, List.Sublist F.O0 (ow F.K F.mg p xs' :: O)) :
    PE X e (tE b3 F L p xs O (ma.bind fun u => (mb u.2).bind fun w => (mc u.1 w.1).bind fun z => .ok (z, w.2))) := pe_imp h fun σ H Q ⟨g, q⟩ => by
  rw [out_bind] at q
  refine ⟨g, q.mono (fun u qx v1 H1 g1 s1 r1 => ?_) fun _ z => z⟩
  rw [out_bind] at qx
  refine ⟨u.2, g1, qx.mono (fun w qy v2 H2 g2 s2 r2 => ?_) fun _ z => z⟩
  rw [out_bind] at qy
  exact hr w.2 u.1 w.1 v1 v2 H2 σ Q g2 (Flat.iff.mpr (Flat.iff.mp r1)) (Flat.iff.mpr (Flat.iff.mp r2)) (qy.mono (fun z kz v H' g' s' r' => kz v H' g' ((s1.trans s2).trans (.of s')) r') fun H' ⟨a, b⟩ => a.go.sub (hO _))
/-- int(e), e an int -/
theorem e_int1 {e : Expr} {b1 b3 : Bool} {m : Res (Int × ι)} {es} (h : PE X e (tCB es (tCons (tE b1 F L p xs O m) tNil))) (er : es = fun xs H Q => (∃ i, xs = [V.int i] ∧ Q (.int i) H) ∨ ∃ k, xs = [V.bl k] ∧ Q (.int (if k then 1 else 0)) H) (hO : ∀ xs' : ι, List.Sublist F.O0 (ow F.K F.mg p xs' :: O)) : PE X e (tE b3 F L p xs O (m.bind fun u => .ok (u.1, u.2))) := ec1 (mc := fun i => .ok i) h (fun xs' x vx H σ Q g rx q => by
  subst er; cases rx; exact .inl ⟨x, rfl, kp_flat (α := Int) g q⟩) hO
theorem e_max2 {e : Expr} {b1 b2 b3 : Bool} {ma : Res (Int × ι)} {mb : ι → Res (Int × ι)} {es} (h : PE X e (tCB es (tCons (tE b1 F L p xs O ma) (tCons (fun σ H Q => ∃ xs', tE b2 F L p xs' O (mb xs') σ H Q) tNil)))) (er : es = fun xs H Q => ∃ i j, xs = [V.int i, V.int j] ∧ Q (.int (if j > i then j else i)) H) (hO : ∀ xs' : ι, List.Sublist F.O0 (ow F.K F.mg p xs' :: O)) : PE X e (tE b3 F L p xs O (ma.bind fun u => (mb u.2).bind fun w => .ok (if w.1 > u.1 then w.1 else u.1, w.2))) := ec2 (mc := fun i j => .ok (if j > i then j else i)) (t1 := tC .non) (t2 := tC .non) h (fun xs' x y vx vy H σ Q g rx ry q => by
  subst er; cases rx; cases ry; exact ⟨x, y, rfl, kp_flat (α := Int) g q⟩) hO
theorem e_min2 {e : Expr} {b1 b2 b3 : Bool} {ma : Res (Int × ι)} {mb : ι → Res (Int × ι)} {es} (h : PE X e (tCB es (tCons (tE b1 F L p xs O ma) (tCons (fun σ H Q => ∃ xs', tE b2 F L p xs' O (mb xs') σ H Q) tNil)))) (er : es = fun xs H Q => ∃ i j, xs = [V.int i, V.int j] ∧ Q (.int (if j < i then j else i)) H) (hO : ∀ xs' : ι, List.Sublist F.O0 (ow F.K F.mg p xs' :: O)) : PE X e (tE b3 F L p xs O (ma.bind fun u => (mb u.2).bind fun w => .ok (if w.1 < u.1 then w.1 else u.1, w.2))) := ec2 (mc := fun i j => .ok (if j < i then j else i)) (t1 := tC .non) (t2 := tC .non) h (fun xs' x y vx vy H σ Q g rx ry q => by
  subst er; cases rx; cases ry; exact ⟨x, y, rfl, kp_flat (α := Int) g q⟩) hO
theorem ew_and1 {x : Expr} {pos : Pos} {m : Res (Bool × ι)} (h : PT X x (tEB F L p xs O m)) : PW X (.BoolOp .And [x] pos) (tEB F L p xs O m) := pw_and1 h
theorem ew_or1 {x : Expr} {pos : Pos} {m : Res (Bool × ι)} (h : PT X x (tEB F L p xs O m)) : PW X (.BoolOp .Or [x] pos) (tEB F L p xs O m) := pw_or1 h
/-! ifs whose tests change the list -/
section
variable {D' B : Type} {Ret : D' → V → Hp → Prop} {c : Expr} {mc : Res (Bool × ι)} {body orelse rest : List Stmt} {pos : Pos} {L' : B → List (Option Asr)} {O' : B → List Own}
theorem be_if {m1 m2 : ι → Res D'} (hc : PT X c (tEB F L p xs O mc)) (hb : ∀ xs', PSs X body (tT F L (ow F.K F.mg p xs' :: O) (m1 xs') Ret)) (hr : ∀ xs', PSs X rest (tT F L (ow F.K F.mg p xs' :: O) (m2 xs') Ret)) : PSs X (.If c body [] pos :: rest) (tT F L (ow F.K F.mg p xs :: O) (mc.bind fun u => if u.1 then m1 u.2 else m2 u.2) Ret) := pss_imp (pss_cons (ps_if hc (pss_ex hb) pss_nil) (pss_ex hr)) fun D σ H ⟨g, q⟩ => by
  rw [out_bind] at q
  refine ⟨g, q.mono (fun u k H1 g1 s1 => ?_) fun _ z => z⟩
  cases hu : u.1 with
  | true => rw [hu] at k; exact ⟨u.2, g1, k⟩
  | false => rw [hu] at k; exact ⟨u.2, g1, k⟩
theorem se_if {m1 m2 : ι → Res B} (sp : Sp2 L' O') (hc : PT X c (tEB F L p xs O mc)) (hb : ∀ xs', PSs X body (tN F L (ow F.K F.mg p xs' :: O) (m1 xs') L' O')) (hr : ∀ xs', PSs X orelse (tN F L (ow F.K F.mg p xs' :: O) (m2 xs') L' O')) : PS X (.If c body orelse pos) (tN F L (ow F.K F.mg p xs :: O) (mc.bind fun u => if u.1 then m1 u.2 else m2 u.2) L' O') := ps_imp (ps_if hc (pss_ex hb) (pss_ex hr)) fun D σ H ⟨g, q⟩ => by
  rw [out_bind] at q
  refine ⟨g, q.mono (fun u k H1 g1 s1 => ?_) fun _ z => z⟩
  cases hu : u.1 with
  | true => rw [hu] at k; exact ⟨u.2, g1, k⟩
  | false => rw [hu] at k; exact ⟨u.2, g1, k⟩
theorem s_ifS {m1 m2 : Res B} {mc : Res Bool} {O : List Own} (sp : Sp2 L' O') (hc : PT X c (tB' F L O mc)) (hb : PSs X body (tN F L O m1 L' O')) (hr : PSs X orelse (tN F L O m2 L' O')) (hO : List.Sublist F.O0 O) : PS X (.If c body orelse pos) (tN F L O (mc.bind fun c => if c then m1 else m2) L' O') := s_if hc hb hr hO
end
/-! coercions -/
theorem n_sql {e : Expr} {b : Bool} {m : Res (List α)} (h : PE X e (tP b F L O m)) : PE X e (tP b F L O (m.bind fun x => .ok (Sq.l x))) := pe_imp h fun σ H Q ⟨g, q⟩ => by
  rw [out_bind] at q
  exact ⟨g, q.mono (fun a k v H1 g1 s1 r1 => k v H1 g1 s1 r1) fun _ z => z⟩
theorem n_sqt {e : Expr} {b : Bool} {m : Res (Tp α)} (h : PE X e (tP b F L O m)) : PE X e (tP b F L O (m.bind fun x => .ok (Sq.t x.xs))) := pe_imp h fun σ H Q ⟨g, q⟩ => by
  rw [out_bind] at q
  exact ⟨g, q.mono (fun a k v H1 g1 s1 r1 => k v H1 g1 s1 r1) fun _ z => z⟩
theorem n_toD [Data α] {e : Expr} {b : Bool} {m : Res α} (h : PE X e (tP b F L O m)) : PE X e (tP b F L O (m.bind fun x => .ok (toD x))) := pe_imp h fun σ H Q ⟨g, q⟩ => by
  rw [out_bind] at q
  exact ⟨g, q.mono (fun a k v H1 g1 s1 r1 => k v H1 g1 s1 (Data.dp r1)) fun _ z => z⟩
/-- a, b = e -/
theorem s_unp {x y : Str} {e : Expr} {px py pt pos : Pos} {kk : Nat} (i j : Nat) (hij : i ≠ j) [Flat α] [Flat β] (hc : X.calm = true) (hN : X.N.Nodup) (hO : List.Sublist F.O0 O) {b : Bool} {m : Res (α × β)} (he : PE X e (tP b F L O m))
    (hi : X.N[i]? = some x := by rfl) (hj : X.N[j]? = some y := by rfl) (hx : L2.Loc X.env.scope x := by first | exact .inl rfl | exact .inr rfl) (hy : L2.Loc X.env.scope y := by first | exact .inl rfl | exact .inr rfl)
    (hf : X.fn x = true ∨ X.env.scope.names.lookup x = some .local := by first | exact .inl rfl | exact .inr rfl) (hf2 : X.fn y = true ∨ X.env.scope.names.lookup y = some .local := by first | exact .inl rfl | exact .inr rfl) (hK : X.K = F.K := by rfl)
    (h1 : (assignEach [.Name x px, .Name y py] X.env).map (·.2) = assign (.Name x px) X.env :: (assignEach [.Name y py] X.env).map (·.2) := by rfl) (h2 : (assignEach [.Name y py] X.env).map (·.2) = assign (.Name y py) X.env :: (assignEach [] X.env).map (·.2) := by rfl)
    (hn : (assignEach [.Name x px, .Name y py] X.env).length = 2 := by rfl) (hst : (assignEach [.Name x px, .Name y py] X.env).findIdx? (·.1) = none := by rfl)
    (hs : swapsWithSole [.Tuple [.Name x px, .Name y py] kk pt] e pos.line X.env = pure false := by rfl) (hw : swappedStores [.Tuple [.Name x px, .Name y py] kk pt] e X.env = pure none := by rfl) (h3 : (assignEach [.Tuple [.Name x px, .Name y py] kk pt] X.env).map (·.2) = [assign (.Tuple [.Name x px, .Name y py] kk pt) X.env] := by rfl) :
    PS X (.Assign [.Tuple [.Name x px, .Name y py] kk pt] e pos) (tN F L O m (fun ab => (L.set i (vl F.K F.mg ab.1)).set j (vl F.K F.mg ab.2)) (fun _ => O)) := ps_imp (ps_asg he (pg_tup hc (pgs_cons (pg_name hN hi hx hf) (pgs_cons (pg_name hN hj hy hf2) pgs_nil h2) h1) hn hst) hs hw h3) fun D σ H ⟨g, q⟩ =>
  ⟨g, q.mono (fun ab k v H1 g1 s1 r1 => by
    obtain ⟨p, v1, v2, rfl, h2, h3, h4⟩ := r1
    rw [hK]
    exact ⟨p, _, rfl, same_t rgn_sub h2, rfl, v1, _, rfl, v2, _, rfl, rfl, k _ _ ⟨set_ok (p := vl F.K F.mg ab.2) (Flat.iff.mpr (Flat.iff.mp h4)) j (set_ok (p := vl F.K F.mg ab.1) (Flat.iff.mpr (Flat.iff.mp h3)) i g1.slots), g1.go⟩⟩) fun H' ⟨a, _⟩ => a.go.sub hO⟩
/-- x op= e -/
theorem s_aug {x : Str} {e : Expr} {op : Operator} {pos pos' : Pos} {f : Int → Int → Int} (i : Nat) {a : Int} (hN : X.N.Nodup) (hO : List.Sublist F.O0 O) (hL : L[i]? = some (vl F.K F.mg a)) {b : Bool} {m : Res Int} (hop : PIp X op (ipI f)) (he : PE X e (tP b F L O m)) (hi : X.N[i]? = some x := by rfl) (hx : L2.Loc X.env.scope x := by first | exact .inl rfl | exact .inr rfl) (hf : X.fn x = true ∨ X.env.scope.names.lookup x = some .local := by first | exact .inl rfl | exact .inr rfl) :
    PS X (.AugAssign (.Name x pos') op e pos) (tN F L O (m.bind fun c => .ok (f a c)) (fun c => L.set i (vl F.K F.mg c)) (fun _ => O)) := ps_imp (ps_aug (i := i) hN hi hx he hop hf) fun D σ H ⟨g, q⟩ => by
  rw [out_bind] at q
  obtain ⟨w, h1, h2⟩ := g.slot hL
  have h2' : w = V.int a := h2
  exact ⟨w, h1, g, q.mono (fun c k v H1 g1 s1 r1 => ⟨a, c, h2', r1, k _ _ ⟨set_ok (p := vl F.K F.mg (f a c)) rfl i g1.slots, g1.go⟩⟩) fun H' ⟨a, _⟩ => a.go.sub hO⟩
/-- x.insert(i, e) -/
theorem s_ins {ε : Type} [Rep ε] {xs : List ε} {x : Str} {ie e : Expr} {pos pos1 pos2 cpos : Pos} (i : Nat) (hL : L[i]? = some (rf p)) {b : Bool} {mi : Res Int} {m : Res ε} (hO : List.Sublist F.O0 (ow F.K F.mg p xs :: O)) (hi : PE X ie (tP b F L (ow F.K F.mg p xs :: O) mi)) (he : PE X e (tP true F L (ow F.K F.mg p xs :: O) m))
    (h : ∀ {to : TE} {t : TA} {r : V → List V → Hp → VK → Prop}, MtR X "list.insert" r → PE X (.Name x pos1) to → PA X [ie, e] t → PE X (.Call (.Attribute (.Name x pos1) "insert" pos2) [ie, e] [] cpos) (tBM X.K "list" r to t)) (hs1 : starEach [ie, e] X.env = (false, eval ie X.env) :: starEach [e] X.env := by rfl) (hs2 : starEach [e] X.env = (false, eval e X.env) :: starEach [] X.env := by rfl)
    (hN : X.N[i]? = some x := by rfl) (hv : Vis X.env.scope x := by first | exact Or.inl rfl | exact Or.inr (Or.inl rfl) | exact Or.inr (Or.inr rfl)) (hd : (x == ("__debug__" : Str)) = false := by decide) (hcd : (x == ("__classdict__" : Str)) = false := by decide)
    (hs : swapsWith (.Call (.Attribute (.Name x pos1) "insert" pos2) [ie, e] [] cpos) none pos.line X.env = pure false := by rfl) :
    PS X (.Expr (.Call (.Attribute (.Name x pos1) "insert" pos2) [ie, e] [] cpos) pos) (tN F L (ow F.K F.mg p xs :: O) (mi.bind fun j => m.bind fun a => need (xs.length < sizeLine ∧ Ps63 j) (.ok (xs.take j.toNat ++ [a] ++ xs.drop j.toNat))) (fun _ => L) (fun ys => ow F.K F.mg p ys :: O)) := ps_imp (ps_expr (h mt_insert (pe_var hN hv hd hcd) (pa_cons hi (pa_cons he pa_nil hs2) hs1)) hs) fun D σ H ⟨g, q⟩ => by
  obtain ⟨w, h4, h5⟩ := g.slot hL
  obtain ⟨vs, h6, h7⟩ := g.head
  rw [out_bind] at q
  refine ⟨w, h4, ?_, g, q.mono (fun j k vj H1 g1 s1 r1 => ?_) fun H' ⟨a, _⟩ => a.go.sub hO⟩
  · rw [show w = V.ref p from h5]
    exact .inl ⟨rfl, _, .of h6⟩
  · rw [out_bind] at k
    refine ⟨g1, k.mono (fun a k v H2 g2 s2 r2 => ?_) fun H' ⟨a, _⟩ => a.go.sub hO⟩
    rw [out_need] at k
    obtain ⟨vs', h8, h9⟩ := g2.head
    have r1' : vj = V.int j := r1
    refine ⟨p, vs', j, v, h5, by rw [r1'], h8, by rw [h9.length]; exact k.1.1, k.1.2.1, k.1.2.2, ?_⟩
    exact k.2 σ _ (g_upd g2 (reps_append (reps_append (reps_take _ h9) (.cons r2 .nil)) (reps_drop _ h9))).1
/-- x.append(e), e changing the list at p, x the list at q -/
theorem s_appE {x : Str} {e : Expr} {pos pos1 pos2 cpos : Pos} {q : Addr} {ys : List α} (i : Nat) (hL : L[i]? = some (rf q)) {m : Res (α × ι)} (hO : ∀ (xs' : ι), List.Sublist F.O0 (ow F.K F.mg p xs' :: ow F.K F.mg q ys :: O)) (he : PE X e (tE true F L p xs (ow F.K F.mg q ys :: O) m))
    (h : ∀ {to : TE} {t : TA}, PE X (.Name x pos1) to → PA X [e] t → PE X (.Call (.Attribute (.Name x pos1) "append" pos2) [e] [] cpos) (tBM X.K "list" rAppend to t)) (hs1 : starEach [e] X.env = (false, eval e X.env) :: starEach [] X.env := by rfl)
    (hN : X.N[i]? = some x := by rfl) (hv : Vis X.env.scope x := by first | exact Or.inl rfl | exact Or.inr (Or.inl rfl) | exact Or.inr (Or.inr rfl)) (hd : (x == ("__debug__" : Str)) = false := by decide) (hcd : (x == ("__classdict__" : Str)) = false := by decide)
    (hs : swapsWith (.Call (.Attribute (.Name x pos1) "append" pos2) [e] [] cpos) none pos.line X.env = pure false := by rfl) :
    PS X (.Expr (.Call (.Attribute (.Name x pos1) "append" pos2) [e] [] cpos) pos) (tN F L (ow F.K F.mg p xs :: ow F.K F.mg q ys :: O) (m.bind fun u => need (ys.length < sizeLine) (.ok (ys ++ [u.1], u.2))) (fun _ => L) (fun z => ow F.K F.mg p z.2 :: ow F.K F.mg q z.1 :: O)) := ps_imp (ps_expr (h (pe_var hN hv hd hcd) (pa_cons he pa_nil hs1)) hs) fun D σ H ⟨g, q'⟩ => by
  obtain ⟨w, h4, h5⟩ := g.slot hL
  obtain ⟨o, h6, vs0, h60, h7⟩ := g.go.objs (ow F.K F.mg q ys) (List.mem_cons_of_mem _ List.mem_cons_self)
  subst h60
  rw [out_bind] at q'
  refine ⟨w, h4, ?_, g, q'.mono (fun u k v H1 g1 s1 r1 => ?_) fun _ z => z⟩
  · rw [show w = V.ref q from h5]
    exact .inl ⟨rfl, _, .of h6⟩
  · rw [out_need] at k
    have gp : G F L (ow F.K F.mg q ys :: ow F.K F.mg p u.2 :: O) σ H1 := g1.perm (List.Perm.swap _ _ _)
    obtain ⟨vs', h8, h9⟩ := gp.head
    refine ⟨q, vs', v, h5, rfl, h8, by rw [h9.length]; exact k.1, ?_⟩
    refine k.2 σ _ ((g_upd gp (reps_append h9 (.cons (Rep.mono (fun a o z => ?_) r1) .nil))).1.perm (List.Perm.swap _ _ _))
    have z' : less H1 (addrs (ow F.K F.mg p u.2 :: ow F.K F.mg q ys :: O) ++ F.A) a = some o := z
    show less H1 (addrs (ow F.K F.mg q ys :: ow F.K F.mg p u.2 :: O) ++ F.A) a = some o
    by_cases hb : a ∈ addrs (ow F.K F.mg p u.2 :: ow F.K F.mg q ys :: O) ++ F.A
    · rw [less_in hb] at z'; cases z'
    · rw [less_out hb] at z'
      rw [less_out]
      · exact z'
      · intro y
        apply hb
        rcases List.mem_append.mp y with y | y
        · refine List.mem_append_left _ ?_
          rcases List.mem_cons.mp y with y | y
          · rw [y]; exact List.mem_cons_of_mem _ List.mem_cons_self
          · rcases List.mem_cons.mp y with y | y
            · rw [y]; exact List.mem_cons_self
            · exact List.mem_cons_of_mem _ (List.mem_cons_of_mem _ y)
        · exact List.mem_append_right _ y
/-- xs.index(a), for ints -/
def indexR (xs : List Int) (a : Int) : Res Int := match xs.findIdx? (· == a) with
  | some j => .ok (j : Nat)
  | none => .bad
theorem n_index {o e : Expr} {apos cpos : Pos} {b1 b2 b3 : Bool} {m : Res (List Int)} {m2 : Res Int} (ho : PE X o (tP b1 F L O m)) (he : PE X e (tP b2 F L O m2))
    (h : ∀ {to : TE} {t : TA}, PE X o to → PA X [e] t → PE X (.Call (.Attribute o "index" apos) [e] [] cpos) (tBM X.K "list" (rIndex X.K) to t)) (hK : X.K = F.K := by rfl) (hs1 : starEach [e] X.env = (false, eval e X.env) :: starEach [] X.env := by rfl) :
    PE X (.Call (.Attribute o "index" apos) [e] [] cpos) (tP b3 F L O (m.bind fun xs => m2.bind fun a => indexR xs a)) := pe_imp (h ho (pa_cons he pa_nil hs1)) fun σ H Q ⟨g, q⟩ => by
  rw [out_bind] at q
  refine ⟨g, q.mono (fun xs k v H1 g1 s1 r1 => ?_) fun _ z => z⟩
  obtain ⟨p, vs, rfl, h2, h3⟩ := r1
  have e := reps_flat.mp h3
  subst e
  rw [out_bind] at k
  have h2' := rgn_sub _ _ h2
  refine ⟨.inl ⟨rfl, _, .of h2'⟩, g1, k.mono (fun a k2 v2 H2 g2 s2 r2 => ?_) fun H' ⟨a, b⟩ => ⟨a, s1.trans b⟩⟩
  unfold indexR at k2
  cases e : xs.findIdx? (· == a) with
  | none => rw [e] at k2; exact k2.elim
  | some j =>
    rw [e] at k2
    obtain ⟨hj, h4, h5⟩ := List.findIdx?_eq_some_iff_getElem.mp e
    rw [hK]
    have r2' : v2 = V.int a := r2
    subst r2'
    refine ⟨p, xs.map Flat.enc, V.int a, j, V.int xs[j], rfl, rfl, .of (s2 _ _ h2'), rfl, ?_, ?_, ?_, ?_, ?_⟩
    · rw [List.all_map]
      exact List.all_eq_true.mpr fun x _ => rfl
    · rw [List.getElem?_map, List.getElem?_eq_getElem hj]; rfl
    · have : xs[j] = a := by simpa using h4
      rw [this]
      simp [eqV]
    · intro m' z' hm hz
      rw [List.getElem?_map, List.getElem?_eq_getElem (Nat.lt_trans hm hj)] at hz
      cases hz
      have := h5 m' hm
      show (xs[m'] == a) = false
      simpa using this
    · exact k2 _ H2 g2 (s1.trans s2) rfl
end
/-- a frame with fewer facts -/
inductive FLe : Fr → Fr → Prop where
  | refl (F : Fr) : FLe F F
  | add {F F' : Fr} {z : Fact} : FLe F' F → FLe F' (F.add z)
theorem FLe.go {F F' : Fr} (h : FLe F' F) : ∀ {O : List Own} {H : Hp}, GO F O H → GO F' O H := by
  induction h with
  | refl => exact fun g => g
  | add _ ih => exact fun g => ih g.unadd
theorem FLe.eqs {F F' : Fr} (h : FLe F' F) : F'.K = F.K ∧ F'.mg = F.mg ∧ F'.A = F.A ∧ F'.H0 = F.H0 := by
  induction h with
  | refl => exact ⟨rfl, rfl, rfl, rfl⟩
  | add _ ih => exact ih
theorem FLe.rg {F F' : Fr} (h : FLe F' F) (O : List Own) (H : Hp) : NF.rg F' O H = NF.rg F O H := by
  unfold NF.rg; rw [h.eqs.2.2.1]
section
variable {F F' : Fr} {α ι : Type} [Rep α] [OwR ι]
theorem rV_le (h : FLe F' F) : ∀ (b : α) (v : V) (H : Hp), rV F b v H → rV F' b v H := fun b v H ⟨g, r⟩ => ⟨h.go g, by
  show Rep.rep F'.K F'.mg (NF.rg F' [] H) v b
  rw [h.rg, h.eqs.1, h.eqs.2.1]; exact r⟩
theorem rF_le (h : FLe F' F) : ∀ (b : List α) (v : V) (H : Hp), rF F b v H → rF F' b v H := fun b v H ⟨p, vs, e, g, h1, h2, h3, h4⟩ => ⟨p, vs, e, h.go g, by rw [h.eqs.2.2.2]; exact h1, by rw [h.eqs.2.2.1]; exact h2, h3, by
  rw [h.rg, h.eqs.1, h.eqs.2.1]; exact h4⟩
theorem rI_le {p : Addr} (h : FLe F' F) : ∀ (b : α × ι) (v : V) (H : Hp), rI F p b v H → rI F' p b v H := fun b v H ⟨g, r⟩ => by
  have e1 := h.eqs.1
  have e2 := h.eqs.2.1
  have g' := h.go g
  have hr := h.rg [ow F.K F.mg p b.2] H
  refine ⟨by rw [e1, e2]; exact g', ?_⟩
  show Rep.rep F'.K F'.mg (NF.rg F' [ow F'.K F'.mg p b.2] H) v b.1
  rw [e1, e2, hr]
  exact r
end
theorem b_le {X : Cx} {F : Fr} {L : List (Option Asr)} {O : List Own} {D' : Type} {Ret Ret' : D' → V → Hp → Prop} {st : List Stmt} {m : Res D'} (i : ∀ b v H, Ret b v H → Ret' b v H) (h : PSs X st (tT F L O m Ret)) : PSs X st (tT F L O m Ret') := pss_imp h fun D σ H ⟨g, q⟩ => ⟨g, q.mono (fun b k v H' r => k v H' (i b v H' r)) fun _ z => z⟩
theorem tT_cast {X : Cx} {F : Fr} {L : List (Option Asr)} {O : List Own} {D' : Type} {Ret : D' → V → Hp → Prop} {st : List Stmt} {m m' : Res D'} (h : PSs X st (tT F L O m Ret)) (e : m = m') : PSs X st (tT F L O m' Ret) := e ▸ h
end NF

set_option Elab.async false
set_option linter.all false
set_option maxRecDepth 100000
/-! Nf12: exceptions: defs that raise, their calls, raise. -/
namespace NF
open PySem PySem.Spec PyProof.Rows L2
open Data (toD)
/-- what is raised here is let out as F wishes -/
def TkX (X : Cx) (F : Fr) (L : List (Option Asr)) (O : List Own) : Prop := ∃ W : WX, L2N.Takes X W ∧ ∀ c d σ H, F.E c d H → G F L O σ H → W c d σ H
theorem TkX.to {X : Cx} {F : Fr} {L L' : List (Option Asr)} {O O' : List Own} (t : TkX X F L' O') (h : wk L L') (ho : List.Sublist O' O) : TkX X F L O := by
  obtain ⟨W, tk, q⟩ := t
  exact ⟨W, tk, fun c d σ H e g => q c d σ H e (g.to h ho)⟩
theorem takes0N {X : Cx} : L2N.Takes X (fun _ _ _ _ => False) := fun _ _ x => by
  obtain ⟨_, _, _, _, _, _, _, _, _, _, _, _, _, _, _, _, z⟩ := x
  exact z.elim
section
variable {P : Program} {w : World} {K : PySem.W.Frag} {mg : Str → Option Value} {base : Heap} {τ ρ α : Type} [RepA τ] [Rep ρ] [Rep α]
variable {x qual : Str} {st : Stmt} {f : Addr} {fd : FuncData} {N ps : List Str} {k : Nat}
theorem def_XN {mir : τ → Res ρ} (Fu : Fun K x qual st f fd) (S : FnScope N ps (defScope st)) (L0 : τ → List (Option Asr)) (hl : ∀ (vs : List V) (R : Hp) (a : τ), RepA.rep K mg R vs a → vs.length = ps.length ∧ Paired (SlotOk R) (L0 a) (start N vs))
    (body : ∀ (cdv : Value) (A : Around) (outer : List Env) (s : Shared) (H : Hp) (Av : List Addr) (E : XK) (a : τ), Room k (A.deeper (envOfC qual (defScope st) s.heap.objs.size f cdv)) →
      (∀ L O, TkX (cxOf (L2N.CX P w) P w K mg base N qual (defScope st) f cdv A outer s H E) (F0 K mg H Av E) L O) →
      PSs (cxOf (L2N.CX P w) P w K mg base N qual (defScope st) f cdv A outer s H E) (defBody st) (tT (F0 K mg H Av E) (L0 a) [] (mir a) (rV (F0 K mg H Av E)))) :
    FnOk P w K mg base (L2N.CX P w) (k + 1) f fd ps (spX K mg mir) := by
  obtain ⟨oc, od, kV, doc, pm, an, cdv, ct, osl, rfl, lk, hcd⟩ := Fu.ex
  refine fn_of lk hcd S (fun vs H Q E ⟨a, A, _, h, _⟩ => (hl vs _ a h).1) fun A outer s H vs Q E hr ⟨a, Av, hA, h, q⟩ =>
    ⟨_, body cdv A outer s H Av E a hr fun L O => ⟨_, L2N.takes_of rfl rfl rfl rfl, fun c d σ H e _ => e⟩, ⟨(hl vs _ a h).2, go_start hA⟩, ?_⟩
  exact q.mono (fun r k v H' ⟨g, r'⟩ => k v H' (go_same g) r') fun H' g => go_same g
end
section
variable {X : Cx} {F : Fr} {L : List (Option Asr)} {O : List Own} {τ ρ α : Type} [RepA τ] [Rep ρ] [Rep α]
variable {k : Nat} {ps : List Str} {x : Str} {p1 pos : Pos} {e : Expr} {es : List Expr} {b : Bool}
theorem n_callX {mir : τ → Res ρ} {m : Res τ} (D : DefAt X.prog X.w X.K X.mg X.base (L2N.CX X.prog X.w) k x ps (spX X.K X.mg mir)) (hr : Room k X.A) (tk : TkX X F L O) (ha : PA X (e :: es) (tA b F L O m)) (hg : Gl X x := by rfl) (hK : X.K = F.K := by rfl) (hM : X.mg = F.mg := by rfl) (hd : (x == ("__debug__" : Str)) = false := by decide)
    (hs : starEach (e :: es) X.env = (false, eval e X.env) :: starEach es X.env := by rfl) (hs2 : ((backTo pos (starEach es X.env)).any fun x => x.fst) = false := by rfl) : PE X (.Call (.Name x p1) (e :: es) [] pos) (tP b F L O (m.bind mir)) := by
  obtain ⟨f, fd, h1, h2, h3, h4⟩ := D.ex
  obtain ⟨W, tk, hW⟩ := tk
  refine pe_imp (pe_callS (E := WE W) h1 hr hg h2 h3 h4 (fun σ => L2N.passAt tk σ) ha hd hs hs2) fun σ H Q ⟨g, q⟩ => ?_
  rw [out_bind] at q
  refine ⟨g, q.mono (fun a qa vs H1 g1 s1 r1 => ?_) fun _ z => z⟩
  refine ⟨a, avoid b F O, g1.go.avoided, by rw [hK, hM, ← rgn_avoid]; exact r1, ?_⟩
  rw [hK, hM]
  cases e : mir a with
  | ok r =>
    rw [e] at qa
    exact fun v H' s2 r2 => qa v H' (g1.grow s2) (s1.trans s2) (by rw [rgn_avoid]; exact r2)
  | err c fs =>
    rw [e] at qa
    exact fun C d H' h1 h2 h4 => hW _ _ _ _ (qa C d H' h1 (h2.older g1.go.live) ⟨g1.grow h4, s1.trans h4⟩) (g1.grow h4)
  | bad =>
    rw [e] at qa
    exact qa.elim
end
/-! ### raise -/
/-- the promise of an exception's __init__(self, y): self.f = y -/
def spO (C : Addr) (f : Str) : Sp := fun vs H Q _ => ∃ (a : Addr) (y : V), vs = [.ref a, y] ∧ H a = some (exo a C none) ∧ ∀ dx, H dx = none → dx ≠ a → Q .non (upd (upd H dx (exd dx [(f, y)])) a (exo a C (some dx)))
section
variable {P : Program} {w : World} {K : PySem.W.Frag} {mg : Str → Option Value} {base : Heap}
variable {qual y f sf : Str} {st : Stmt} {fI C : Addr} {fd : FuncData} {k : Nat} {p1 p2 p3 p4 : Pos}
theorem def_O (Fu : Fun K "__init__" qual st fI fd) (S : FnScope [sf, y] [sf, y] (defScope st)) (hb : defBody st = [.Assign [.Attribute (.Name sf p1) f p2] (.Name y p3) p4]) (T : OexC K C) (hno : PySem.W.findIn K (.ref C) f = some none)
    (hv1 : Vis (defScope st) sf) (hv2 : Vis (defScope st) y) (hd1 : (sf == ("__debug__" : Str)) = false) (hd2 : (y == ("__debug__" : Str)) = false) (hc1 : (sf == ("__classdict__" : Str)) = false) (hc2 : (y == ("__classdict__" : Str)) = false) :
    FnOk P w K mg base CX0 (k + 1) fI fd [sf, y] (spO C f) := by
  refine Fu.ok S (fun vs H Q E ⟨a, z, e, _⟩ => by rw [e]; rfl) fun cdv A outer s H vs Q E hr ⟨a, z, e, ha, q⟩ => ?_
  rw [hb]
  refine ⟨_, pss_one (ps_ost (pe_var (i := 0) rfl hv1 hd1 hc1) (pe_var (i := 1) rfl hv2 hd2 hc2)), ?_⟩
  subst e
  exact ⟨z, rfl, V.ref a, rfl, a, C, rfl, T, hno, .inl ⟨ha, q⟩⟩
end
end NF

set_option Elab.async false
set_option linter.all false
set_option maxRecDepth 100000
set_option maxHeartbeats 1000000
/-! Nf13: raise C(y). -/
namespace NF
open PySem PySem.Spec PyProof.Rows L2
open Data (toD)
/-- what the module says of an own error with one field -/
structure ErrAt (P : Program) (w : World) (K : Fg) (mg : MG) (base : Heap) (k : Nat) (x f : Str) : Prop where
  ex : ∃ (C fI : Addr) (fd : FuncData) (ps : List Str), mg x = some (.ref C) ∧ OexC K C ∧ PySem.W.findIn K (.ref C) "__init__" = some (some (.ref fI)) ∧ PySem.W.typeIn K (.ref fI) = some (.type "function") ∧ FnOk P w K mg base CX0 k fI fd ps (spO C f) ∧ Binds K fd ps []
section
variable {X : Cx} {e : Expr} {es : List Expr} {ta : TA} {p pos : Pos}
theorem pmkN_own {x : Str} {C fI : Addr} {k : Nat} {fd : FuncData} {ps : List Str} {sp : Sp} (T : OexC X.K C) (iC : PySem.W.findIn X.K (.ref C) "__init__" = some (some (.ref fI))) (tI : PySem.W.typeIn X.K (.ref fI) = some (.type "function"))
    (F1 : FnOk X.prog X.w X.K X.mg X.base CX0 k fI fd ps sp) (hr : Room (k + 1) X.A) (hb : Binds X.K fd ps []) (hg : Gl X x) (hm : X.mg x = some (.ref C)) (ha : PA X (e :: es) ta)
    (hdb : (x == ("__debug__" : Str)) = false := by decide) (he : starEach (e :: es) X.env = (false, eval e X.env) :: starEach es X.env := by rfl) (hpl : (backTo pos (starEach es X.env)).any (·.1) = false := by rfl) :
    L2N.PMk X (.Call (.Name x p) (e :: es) [] pos) (tMkO C sp [] ta) := by
  intro pins s σ H Q I h
  obtain ⟨_, _, _, _, bm, _, _, _, _, _, _, _, _, _, _, hC, hbm⟩ := T.cls
  refine wpAny_Call_Name_kw (ld_glob I hg hm ?_ hdb)
  refine PySem.W.callWith_K (h₀ := X.base) I.ok.mod.kin T.kC (thn (ha.run pos pins s σ H _ I h) fun us s1 ⟨vs, H1, I1, r1, hz, q1⟩ => ⟨I1.kIn, ?_⟩) he hpl
  show wpAny _ _ (call (.ref C) us) _ _ _
  obtain ⟨hp, g, dr, tk, os⟩ := s1
  generalize ea : hp.objs.size + 1 = a at *
  have hsz : hp.objs.size ≤ a := by omega
  have hq := q1 a (I1.hok.fresh hsz)
  rw [List.append_nil] at hq
  have kk : ∀ b o, hp.get? b = some o → ((hp.push (PySem.W.kdv_tup us)).push (PySem.HandSPX.excO C hp.objs.size)).get? b = some o := fun b o e => Heap.get?_push_of_some _ (Heap.get?_push_of_some _ e)
  have hget : ((hp.push (PySem.W.kdv_tup us)).push (PySem.HandSPX.excO C hp.objs.size)).get? a = some (PySem.HandSPX.excO C hp.objs.size) := by
    subst ea
    heap_get
  have I2 := I1.laid (t' := tk) (a := a) (o := exo a C none) (h' := (hp.push (PySem.W.kdv_tup us)).push (PySem.HandSPX.excO C hp.objs.size)) kk hsz (exo_ok hget)
  have r2 : Vals (V.ref a :: vs) (Value.ref a :: us) := .cons rfl r1
  have b2 := hb _ (Value.ref a :: us) I2.kIn (by rw [List.append_nil, ← F1.len _ _ _ _ hq]; exact r2.length.symm)
  rw [List.append_nil] at b2
  subst ea
  refine wpAny_call (PySem.HandSPX.call_own F.excBase_ValueError (fun Y => PySem.HandSPX.refsVE_contains Y bm hbm) (I1.kIn _ _ hC) (PySem.W.looks_findIn I1.kIn iC) (fun self => PySem.W.bind_fn I1.kIn self tI) (by rw [← Paired.length r1, sizeLine_eq]; omega)
    (codeAny_mono (F1.run _ X.stack _ _ ⟨_, []⟩ _ _ _ E0 (hr.make C us []) (I2.env0.make C us []) b2 r2 hq) fun r s' hq' => ?_))
  cases r with
  | error er => exact pass0 pins σ _ _ er s' I2 hq'
  | ok fl =>
    cases fl with
    | ret u =>
      obtain ⟨v, H2, os2, bare2, un2, hok2, rv, ev, d, fs, e1, e2, hd1, q2⟩ := hq'
      subst ev
      obtain ⟨h2, g2, d2, t2, os'⟩ := s'
      obtain ⟨t0, G, J, kG, ge, hoe, na⟩ := mk_end0 (d2 := d2) (t2 := t2) I1 hsz kk un2 hok2 os2 bare2 e1 e2 hd1
      exact ⟨rv, ⟨_, _, _, ⟨G, g2, d2, t2, os'⟩, _, .ref C, some d, rfl, J, kG, ge, hoe, ⟨rfl, rfl, fun vs hv => by cases hv; rfl⟩, rfl, rfl, na, rfl, bare2, raises_own T.exC T.tyC, q2⟩⟩
    | next => exact hq'.elim
    | brk => exact hq'.elim
    | cont => exact hq'.elim
variable {F : Fr} {L : List (Option Asr)} {O : List Own} {α D' : Type} [Rep α] [Data α] {Ret : D' → V → Hp → Prop} {k : Nat} {x f : Str} {pos2 : Pos}
/-- raise x(e) -/
theorem s_raise {m : Res α} (D : ErrAt X.prog X.w X.K X.mg X.base k x f) (hr : Room (k + 1) X.A) (hc : X.calm = true) (tk : TkX X F L O) (hO : List.Sublist F.O0 O) (he : PE X e (tP true F L O m)) (hg : Gl X x := by rfl) (hK : X.K = F.K := by rfl) (hM : X.mg = F.mg := by rfl) (hdb : (x == ("__debug__" : Str)) = false := by decide)
    (hs : starEach [e] X.env = (false, eval e X.env) :: starEach [] X.env := by rfl) (hpl : (backTo pos (starEach [] X.env)).any (·.1) = false := by rfl) :
    PS X (.Raise (some (.Call (.Name x p) [e] [] pos)) none pos2) (tT F L O (m.bind fun a => .err x [(f, toD a)]) Ret) := by
  obtain ⟨C, fI, fd, ps, hm, T, iC, tI, F1, hb⟩ := D.ex
  obtain ⟨W, tk, hW⟩ := tk
  refine ps_imp (L2N.ps_raise hc tk (pmkN_own T iC tI F1 hr hb hg hm (a_cons he a_nil hs) hdb hs hpl)) fun D σ H ⟨g, q⟩ => ?_
  rw [out_bind] at q
  refine ⟨g, ?_⟩
  rw [out_bind]
  refine q.mono (fun a k => ?_) fun H' ⟨a, _⟩ => a.go.sub hO
  show ∀ vs H', _
  intro vs H1 g1 s1 r1
  obtain ⟨v, ws, e1, r2, e2⟩ := r1
  cases e2
  subst e1
  refine ⟨by show 1 ≤ 1000; decide, fun a ha => ⟨a, v, rfl, upd_same, fun dx hdx hne => ⟨rfl, dx, [(f, v)], upd_same, ?_, ?_, ?_⟩⟩⟩
  · rw [upd_ne hne, upd_same]
  · rwa [upd_ne hne] at hdx
  · rw [upd_ne hne] at hdx
    have sm : Same H1 (upd (del (upd (upd (upd H1 a (exo a C none)) dx (exd dx [(f, v)])) a (exo a C (some dx))) a) dx (.xd [(f, v)])) := fun b o hbo => by
      have n1 : b ≠ a := fun z => by rw [z, ha] at hbo; cases hbo
      have n2 : b ≠ dx := fun z => by rw [z, hdx] at hbo; cases hbo
      rw [upd_ne n2, del_ne n1, upd_ne n1, upd_ne n2, upd_ne n1]
      exact hbo
    have g2 := g1.grow sm
    refine hW _ _ _ _ (k (C := C) (d := some dx) (H' := _) (hM ▸ hm) ⟨Decidable.byContradiction fun z => g1.go.live _ z hdx, _, upd_same, .cons ⟨rfl, ?_⟩ .nil⟩ (g2.go.sub hO)) g2
    exact Data.dp (Rep.mono sm (Rep.mono rgn_sub r2))
end
end NF

set_option Elab.async false
set_option linter.all false
set_option maxRecDepth 100000
set_option maxHeartbeats 1000000
/-! Nf14: try .. except C as e. -/
namespace NF
open PySem PySem.Spec PyProof.Rows L2
open Data (toD)
/-! flat fields -/
def encD : PyData → V
  | .int i => .int i
  | .bool b => .bl b
  | .str s => .str s
  | _ => .non
def flatD : PyData → Bool
  | .int _ => true
  | .bool _ => true
  | .str _ => true
  | .none => true
  | _ => false
theorem dp_flat {K : Fg} {H : Hp} {v : V} {d : PyData} (h : Dp K H v d) (f : flatD d = true) : v = encD d := by
  cases h with
  | non => rfl
  | bl b => rfl
  | int i => rfl
  | str x => rfl
  | lst _ _ => cases f
  | tup _ _ => cases f
theorem flat_dp {K : Fg} {H : Hp} : ∀ {d : PyData}, flatD d = true → Dp K H (encD d) d
  | .int i, _ => .int i
  | .bool b, _ => .bl b
  | .str s, _ => .str s
  | .none, _ => .non
def encF (fs : List (Str × PyData)) : List (Str × V) := fs.map fun p => (p.1, encD p.2)
theorem xd_flat {K : Fg} {H : Hp} : ∀ {vs : List (Str × V)} {fs : List (Str × PyData)}, XdOk K H vs fs → (fs.all fun p => flatD p.2) = true → vs = encF fs
  | [], [], _, _ => rfl
  | (a, v) :: vs, (b, d) :: fs, .cons h t, e => by
    obtain ⟨e1, e2⟩ := Bool.and_eq_true_iff.mp (show (flatD d && fs.all fun p => flatD p.2) = true from e)
    obtain ⟨h1, h2⟩ := h
    have h1' : a = b := h1
    subst h1'
    show (a, v) :: vs = (a, encD d) :: encF fs
    rw [show v = encD d from dp_flat h2 e1, xd_flat t e2]
def xdF (d : Option Addr) (fs : List (Str × PyData)) : Fact := ⟨fun H => match d with
  | none => fs = []
  | some d => H d = some (.xd (encF fs)), fun e h => by
  cases d with
  | none => exact h
  | some d => exact e _ _ h⟩
/-- the body, and what is done with an error of class x -/
def tryR {α : Type} (x : Str) (m : Res α) (h : List (Str × PyData) → Res α) : Res α := match m with
  | .ok a => .ok a
  | .err c fs => if c = x then need ((fs.all fun p => flatD p.2) = true) (h fs) else .bad
  | .bad => .bad
abbrev Ft (F : Fr) (E : XK) (O : List Own) : Fr := ⟨F.K, F.mg, F.H0, F.W, F.A, O, E, F.Z⟩
theorem go_ft {F : Fr} {E : XK} {O O' : List Own} {H : Hp} (g : GO F O' H) : GO (Ft F E O) O' H := ⟨g.objs, g.nd, g.own, g.keep, g.live, g.hid, g.apart, g.facts⟩
theorem go_tf {F : Fr} {E : XK} {O O' : List Own} {H : Hp} (g : GO (Ft F E O) O' H) : GO F O' H := ⟨g.objs, g.nd, g.own, g.keep, g.live, g.hid, g.apart, g.facts⟩
theorem g_ft {F : Fr} {E : XK} {L : List (Option Asr)} {O O' : List Own} {σ : L2.St} {H : Hp} (g : G F L O' σ H) : G (Ft F E O) L O' σ H := ⟨g.slots, go_ft g.go⟩
theorem g_tf {F : Fr} {E : XK} {L : List (Option Asr)} {O O' : List Own} {σ : L2.St} {H : Hp} (g : G (Ft F E O) L O' σ H) : G F L O' σ H := ⟨g.slots, go_tf g.go⟩
theorem paired_set {α β : Type} {R : α → β → Prop} {x : α} {y : β} (h : R x y) : ∀ {l : List α} {σ : List β} (i : Nat), Paired R l σ → Paired R (l.set i x) (σ.set i y)
  | _, _, _, .nil => .nil
  | _, _, 0, .cons _ t => .cons h t
  | _, _, n + 1, .cons q t => .cons q (paired_set h n t)
theorem pss_fact {X : Cx} {st : List Stmt} {p : Prop} {t : TS} (h : p → PSs X st t) : PSs X st (fun D σ H => p ∧ t D σ H) := ⟨fun pins s σ H D I ⟨b, q⟩ => (h b).run pins s σ H D I q⟩
/-- only lists are owned -/
def NoXd (O : List Own) : Prop := ∀ w ∈ O, ∀ H vs, ¬ w.P H (.xd vs)
theorem noxd_nil : NoXd [] := fun _ h => (List.not_mem_nil h).elim
theorem noxd_cons {α : Type} [Rep α] {K : Fg} {mg : MG} {p : Addr} {xs : List α} {O : List Own} (h : NoXd O) : NoXd (ow K mg p xs :: O) := fun w hw H vs z => by
  rcases List.mem_cons.mp hw with rfl | hw
  · obtain ⟨_, e, _⟩ := z
    cases e
  · exact h w hw H vs z
section
variable {X : Cx} {F : Fr} {L Lh : List (Option Asr)} {O : List Own} {B D' : Type} {Ret : D' → V → Hp → Prop} {L' : B → List (Option Asr)} {O' : B → List Own}
variable {x n : Str} {C : Addr} {body suite : List Stmt} {b₀ : Stmt} {np pos pos' : Pos}
theorem s_try {W0 : WX} {mb : Res (Sum B D')} {mh : List (Str × PyData) → Res (Sum B D')} (i : Nat) (hm : X.mg x = some (.ref C)) (hex : PySem.W.exmOne X.K (.ref C) (.ref C) = some true) (tk : L2N.Takes X W0) (hN : X.N.Nodup) (hno : NoXd O) (hO : List.Sublist F.O0 O)
    (hLi : ∀ b, (L' b).set i none = L' b)
    (hb : ∀ (E' : XK) (pn : List (Addr × Obj)) (xe : Value → Shared → Prop), TkX (X.tr pn xe) (Ft F E' O) Lh O → PSs (X.tr pn xe) body (tM (Ft F E' O) L O mb L' O' Ret))
    (hh : ∀ (a : Addr) (oe : Obj) (d : Option Addr) (pn : List (Addr × Obj)) (fs : List (Str × PyData)), L2N.Zn (.ref C) d oe → (∃ vs, oe.data = .fields vs) → PSs (X.suite a ((a, oe) :: pn)) (b₀ :: suite) (tM (F.add (xdF d fs)) (Lh.set i (rf a)) O (mh fs) L' O' Ret))
    (hi : X.N[i]? = some n := by rfl) (hln : X.env.kindOf n = some .local := by rfl) (hg : Gl X x := by rfl) (hdb : (x == ("__debug__" : Str)) = false := by decide) (hs : X.stack = X.env :: X.outer := by rfl) (hf : X.env.frame = some X.env.locals := by rfl) (hK : X.K = F.K := by rfl) (hM : X.mg = F.mg := by rfl) :
    PS X (.Try body [.ExceptHandler (some (.Name x np)) (some n) (b₀ :: suite) pos'] [] [] pos) (tM F L O (tryR x mb mh) L' O' Ret) := by
  have hc : Names X x (.ref C) := ⟨hg, hdb, .inl hm⟩
  refine ps_imp (L2N.ps_try_as (tb := fun W D σ H => tM (Ft F (fun cls d H' => ∀ σ', G F Lh O σ' H' → W cls d σ' H') O) L O mb L' O' Ret D σ H)
    (ts := fun a cls d D σ H => cls = .ref C ∧ ∃ fs, tM (F.add (xdF d fs)) (Lh.set i (rf a)) O (mh fs) L' O' Ret D σ H) (i := i) hs hf hN hi hln hc tk
    (fun W pn xe tkW _ => hb _ pn xe ⟨W, tkW, fun c d σ H e g => e σ (g_tf g)⟩)
    (fun a oe cls d pn hz hd => pss_fact fun e => pss_ex fun fs => by
      subst e
      exact hh a oe d pn fs hz hd)) fun D σ H ⟨g, q⟩ => ?_
  refine ⟨g_ft g, ?_⟩
  cases em : mb with
  | ok r =>
    rw [em] at q
    cases r with
    | inl b => exact fun σ' H' g' => q σ' H' (g_tf g')
    | inr d => exact q
  | bad =>
    rw [em] at q
    exact q
  | err c fs =>
    rw [em] at q
    unfold tryR at q
    by_cases hcx : c = x
    · subst hcx
      simp only [if_true] at q
      rw [out_need] at q
      obtain ⟨hfl, q⟩ := q
      intro C' d H' h1 h2 h4 σ' gh
      have eC : C' = C := by
        have z : F.mg c = some (.ref C') := h1
        rw [← hM, hm] at z
        cases z
        rfl
      subst eC
      refine ⟨true, hex, fun _ a na => ⟨rfl, fs, ⟨paired_set (x := rf a) (y := some (V.ref a)) rfl i gh.slots, gh.go.add _ ?_⟩, ?_⟩, fun z => by cases z⟩
      · cases d with
        | none => exact h2
        | some d =>
          obtain ⟨h5, vs, h6, h7⟩ := h2
          have e := xd_flat h7 hfl
          subst e
          show less H' (addrs O ++ F.A) d = _
          rw [less_out]
          · exact h6
          · intro z
            rcases List.mem_append.mp z with z | z
            · obtain ⟨w, hw, e⟩ := List.mem_map.mp z
              obtain ⟨o, h8, h9⟩ := gh.go.objs w hw
              rw [e, h6] at h8
              cases h8
              exact hno w hw _ _ h9
            · exact gh.go.hid d z h5
      · rw [out_add]
        refine q.mono (fun r k => ?_) fun H'' (x : GO (F.add _) F.O0 H'') => x.unadd
        cases r with
        | inl b => exact fun σ2 H2 g2 => k _ _ ⟨by have z := paired_set (x := (none : Option Asr)) (y := (none : Option V)) (R := SlotOk (rg F (O' b) H2)) trivial i g2.slots; rwa [hLi] at z, g2.go.unadd⟩
        | inr d => exact k
    · simp only [if_neg hcx] at q
      exact q.elim
end
/-! ### in the suite -/
section
variable {X : Cx} {F : Fr} {L : List (Option Asr)} {O : List Own} {b3 : Bool} {a C : Addr} {oe : Obj} {d : Option Addr} {pn : List (Addr × Obj)} {fs : List (Str × PyData)} {n f : Str} {p1 p2 pos : Pos}
def xfR (fs : List (Str × PyData)) (f : Str) : Res PyData := match fs.lookup f with
  | some x => need (flatD x = true) (.ok x)
  | none => .bad
theorem lookup_enc : ∀ {fs : List (Str × PyData)} {f : Str} {x : PyData}, fs.lookup f = some x → (encF fs).lookup f = some (encD x)
  | [], _, _, h => by cases h
  | (g, y) :: fs, f, x, h => by
    show ((g, encD y) :: encF fs).lookup f = _
    rw [lookup_put]
    by_cases e : f = g
    · subst e
      simp [List.lookup] at h
      subst h
      rw [if_pos rfl]
    · rw [if_neg e]
      have e2 : (f == g) = false := by simpa using e
      simp only [List.lookup, e2] at h
      exact lookup_enc h
/-- e.f -/
theorem n_xf (i : Nat) (T : XfC X.K C) (hno : PySem.W.findIn X.K (.ref C) f = some none) (hz : L2N.Zn (.ref C) d oe) (hd : ∃ vs, oe.data = .fields vs) (hL : L[i]? = some (rf a)) (hK : X.K = F.K := by rfl)
    (hN : X.N[i]? = some n := by rfl) (hv : Vis X.env.scope n := by first | exact Or.inl rfl | exact Or.inr (Or.inl rfl) | exact Or.inr (Or.inr rfl)) (hd1 : (n == ("__debug__" : Str)) = false := by decide) (hcd : (n == ("__classdict__" : Str)) = false := by decide)
    (hb : attributeBase (.Name n p1) f (X.suite a ((a, oe) :: pn)).env (eval (.Name n p1) (X.suite a ((a, oe) :: pn)).env) = eval (.Name n p1) (X.suite a ((a, oe) :: pn)).env := by rfl) :
    PE (X.suite a ((a, oe) :: pn)) (.Attribute (.Name n p1) f pos) (tP b3 (F.add (xdF d fs)) L O (xfR fs f)) := pe_imp (pe_xf T hno hz.zc hd (pe_var (X := X.suite a ((a, oe) :: pn)) (i := i) hN hv hd1 hcd) hb) fun σ H Q ⟨g, q⟩ => by
  obtain ⟨v, h1, h2⟩ := g.slot hL
  refine ⟨v, h1, h2, rfl, ?_⟩
  unfold xfR at q
  cases e : fs.lookup f with
  | none => rw [e] at q; exact q.elim
  | some x =>
    rw [e] at q
    dsimp only at q
    rw [out_need] at q
    have fact := g.go.fact
    cases d with
    | none =>
      have z : fs = [] := fact
      subst z
      cases e
    | some dd =>
      exact ⟨dd, encF fs, encD x, rfl, less_same _ _ fact, lookup_enc e, q.2 _ H g (Same.refl _) (flat_dp q.1)⟩
end
end NF

set_option Elab.async false
set_option linter.all false
set_option maxRecDepth 100000
set_option maxHeartbeats 1000000
/-! Nf15: isinstance of the caught error (with its dict), defs called in the suite. -/
namespace PySem.W
open PySem PySem.Spec PySem.Calls PyProof.Rows
section
variable {prog : Program} {w : World} {A : Around} {E : Value → Shared → Prop} {s : Shared} {K : Frag} {x D : Addr} {ox : Obj} {od : Option Obj}
theorem nf_find {a g : Value} (hc : (clsIn K D).isSome = true) (ha : findIn K (.ref D) "__class__" = some (some a)) (hg : specialIn K a "__get__" = some (some g)) (ht : takesIn K a = some true) : findObj K D od "__class__" = some (.bind g a) := by
  cases od with
  | none => exact findObj_dataN hc ha hg ht
  | some o => exact findObj_data hc ha hg ht
theorem nf_kitx (C : L2.ExcC K D) : KitX K (.ref x) (.ref D) (fun h => InstAt h x ox D od) where
  ty := fun _ _ _ I => I.type
  it := fun M h X _ => by
    obtain ⟨cd, hc, _⟩ := any_some C.hd
    unfold clsIn at hc
    split at hc
    · rename_i ho
      exact fun A Q E s k q => by
        unfold isType loadHead
        exact wpAny_bind (wpAny_loadPart (k _ _ (X _ _ ho)) (wpAny_pure q))
    · cases hc
  ne := (handS_kitx_exc (x := x) (ox := ox) C.hg C.hk C.hs C.hd C.ha C.hn C.ht C.hm).ne
  ca := fun {prog w A E Q s} X I h => by
    have hf : findObj K D od "__class__" = _ := nf_find (by obtain ⟨cd, hc, _⟩ := any_some C.hd; rw [hc]; rfl) C.ha C.hn C.ht
    obtain ⟨hp, g, d, t, os⟩ := s
    have L0 := I.type (M := model prog w)
    have hx2 : (Value.builtin "BaseException.__getattribute__" == Value.builtin "object.__getattribute__") = false := by decide +kernel
    unfold getAttr? getAttrBy? getAttrBy
    refine wpAny_bind (wpAny_mkText (wpAny_bind (wpAny_attempt (wpAny_holding (wpAny_bind (L0.at (wpAny_bind ((looks_findIn (M := model prog w) X C.hg).at ?_))))))))
    show wpAny _ _ (if (onTheHeap (Value.ref D) && Value.builtin "BaseException.__getattribute__" == Value.builtin "object.__getattribute__") = true then _ else _) _ _ _
    rw [show (onTheHeap (Value.ref D) && Value.builtin "BaseException.__getattribute__" == Value.builtin "object.__getattribute__") = false by rw [hx2]; rfl, if_neg Bool.false_ne_true]
    unfold getAttrByItsOwn hookBefore
    refine wpAny_bind ?_
    rw [if_pos (show onTheHeap (Value.ref D) = true from rfl)]
    refine (looks_findIn (M := model prog w) X C.hk).at (wpAny_bind (wpAny_attempt (wpAny_holding ?_)))
    unfold callGetattribute
    rw [show (false && onTheHeap (Value.builtin "BaseException.__getattribute__")) = false from rfl, if_neg Bool.false_ne_true]
    unfold boundAndCalled
    rw [PySem.F.excAttr_ValueError.ga.bind (.ref x)]
    refine wpAny_bind (wpAny_pure ?_)
    show wpAny _ _ (call (.builtin "BaseException.__getattribute__") [.ref x, .str "__class__" t]) _ _ _
    refine wpAny_call (codeAny_call_builtin PySem.F.excAttr_ValueError.ga.plain PySem.F.entry_bexc_ga ?_)
    refine @check_slot (model prog w) _ _ ⟨hp, g, d, t + 1, os⟩ "BaseException.__getattribute__" "BaseException" "__getattribute__" (.ref x) [.str "__class__" t] [] _ (by decide +kernel) (by decide +kernel) (L0.andThen (looks_subIn X C.hs)) (PySem.F.args_bexc_ga (.ref x) (.str "__class__" t)) ?_
    unfold Builtin.«object.__getattribute__»
    refine wpAny_bind (wpAny_of_eq (a := ((Value.ref x : Value), [Value.str "__class__" t])) (by first | rfl | (simp only [slotArgs]; rfl)) ?_)
    refine wpAny_bind (wpAny_pure (wpAny_bind (L0.at (wpAny_bind ((looks_find (M := model prog w) X I hf).at ?_)))))
    show wpAny _ _ (holding [Value.builtin "object.__class__"] (call (.builtin "getset_descriptor.__get__") [.builtin "object.__class__", .ref x, .ref D]) >>= ret) _ _ _
    refine wpAny_bind (wpAny_holding (wpAny_call (class_get (s := ⟨hp, g, d, t + 1, os⟩) (ox := ox) (od := od) X I C.hm ?_)))
    refine wpAny_pure ?_
    show wpAny _ _ (handedOut (.ref D)) _ _ _
    rw [handedOut_of (v := .ref D) rfl]
    first
      | exact wpAny_pure (wpAny_pure h)
      | exact wpAny_pure h
      | exact wpAny_pure (wpAny_bind (wpAny_pure (wpAny_pure h)))
end
end PySem.W
namespace NF
open PySem PySem.Spec PyProof.Rows L2
open Data (toD)
/-- isinstance(e, c) -/
def rIsD (K : Fg) (D a : Addr) (d : Option Addr) : List V → Hp → VK → Prop := fun xs H Q => ∃ (c : V) (cv : Value) (b : Bool), xs = [.ref a, c] ∧ (∀ u, RelV c u → u = cv) ∧ PySem.W.kitOne K (.ref D) cv = some b ∧ (∀ dd, d = some dd → ∃ fs, H dd = some (.xd fs)) ∧ Q (.bl b) H
theorem call_isD {X : Cx} {a D : Addr} {oe : Obj} {d : Option Addr} {pn : List (Addr × Obj)} (C : ExcC X.K D) (hz : L2N.Zn (.ref D) d oe) (hf : ∃ vs, oe.data = .fields vs) : CallR (X.suite a ((a, oe) :: pn)) (.builtin "isinstance") (rIsD X.K D a d) := by
  intro pins s σ H xs us Q I r h
  obtain ⟨c, cv, b, rfl, hcv, e, hd, q⟩ := h
  cases r with
  | cons rx rr =>
    cases rr with
    | cons rt rr =>
      cases rr
      cases rx
      have ec := hcv _ rt
      subst ec
      obtain ⟨hget, _⟩ := I.pin (a, oe) (List.mem_append.mpr (.inl List.mem_cons_self))
      obtain ⟨vs, hv⟩ := hf
      have J : ∃ od, PySem.W.InstAt s.heap a oe D od := by
        cases d with
        | none => exact ⟨none, hget, hz.1, by unfold PySem.W.notCls; rw [hv] <;> rfl, by rw [hz.2.1] <;> trivial⟩
        | some dd =>
          obtain ⟨fs, hx⟩ := hd dd rfl
          have hx : ObjOk X.prog X.w H s.heap dd (.xd fs) := I.hok dd _ hx
          obtain ⟨mA, hns, _⟩ := hx
          obtain ⟨o, ho, _⟩ := lookIn_ns hns
          exact ⟨some o, hget, hz.1, by unfold PySem.W.notCls; rw [hv] <;> rfl, by rw [hz.2.1]; exact ho⟩
      obtain ⟨od, J⟩ := J
      exact PySem.W.kia_one (PySem.W.nf_kitx C) I.kIn J e (fun z => nomatch z) fun tk => ⟨.bl b, H, I.kept (t' := tk) fun _ _ z => z, rfl, q⟩
section
variable {X : Cx} {F : Fr} {L : List (Option Asr)} {O : List Own} {b3 : Bool} {a C C2 : Addr} {oe : Obj} {d : Option Addr} {pn : List (Addr × Obj)} {fs : List (Str × PyData)} {n y : Str} {p1 p2 p3 pos : Pos}
theorem n_isE {v : Bool} (i : Nat) (T : ExcC X.K C) (hz : L2N.Zn (.ref C) d oe) (hd : ∃ vs, oe.data = .fields vs) (hL : L[i]? = some (rf a)) (hm : X.mg y = some (.ref C2)) (hk : PySem.W.kitOne X.K (.ref C) (.ref C2) = some v) (hib : X.mg "isinstance" = none)
    (hN : X.N[i]? = some n := by rfl) (hv : Vis X.env.scope n := by first | exact Or.inl rfl | exact Or.inr (Or.inl rfl) | exact Or.inr (Or.inr rfl)) (hd1 : (n == ("__debug__" : Str)) = false := by decide) (hcd : (n == ("__classdict__" : Str)) = false := by decide)
    (hg : Gl X "isinstance" := by rfl) (hgy : Gl X y := by rfl) (hd2 : (y == ("__debug__" : Str)) = false := by decide)
    (h1 : starEach [.Name n p2, .Name y p3] (X.suite a ((a, oe) :: pn)).env = (false, eval (.Name n p2) (X.suite a ((a, oe) :: pn)).env) :: starEach [.Name y p3] (X.suite a ((a, oe) :: pn)).env := by rfl) (h2 : starEach [.Name y p3] (X.suite a ((a, oe) :: pn)).env = (false, eval (.Name y p3) (X.suite a ((a, oe) :: pn)).env) :: starEach [] (X.suite a ((a, oe) :: pn)).env := by rfl)
    (hpl : (backTo pos (starEach [.Name y p3] (X.suite a ((a, oe) :: pn)).env)).any (·.1) = false := by rfl) :
    PE (X.suite a ((a, oe) :: pn)) (.Call (.Name "isinstance" p1) [.Name n p2, .Name y p3] [] pos) (tP b3 (F.add (xdF d fs)) L O (.ok v)) :=
  pe_imp (pe_callB (X := X.suite a ((a, oe) :: pn)) (call_isD T hz hd) hg hib (by decide +kernel) (pa_cons (pe_var (X := X.suite a ((a, oe) :: pn)) (i := i) hN hv hd1 hcd) (pa_cons (pe_glob (X := X.suite a ((a, oe) :: pn)) (v := .ref C2) hgy hm rfl hd2) pa_nil h2) h1) (by decide) (by decide) h1 hpl) fun σ H Q ⟨g, q⟩ => by
  obtain ⟨v1, h3, h4⟩ := g.slot hL
  have e1 : v1 = V.ref a := h4
  subst e1
  refine ⟨_, h3, .ref C2, .ref C2, v, rfl, fun u r => r, hk, fun dd e => ?_, q _ H g (Same.refl _) rfl⟩
  subst e
  exact ⟨_, less_same _ _ g.go.fact⟩
end
/-! ### defs called in the suite -/
structure DefH (P : Program) (w : World) (K : Fg) (mg : MG) (base : Heap) (k : Nat) (x : Str) (ps : List Str) (sp : Sp) : Prop where
  ex : ∃ (f : Addr) (fd : FuncData), L2H.FnH P w K mg base CX0 k f fd ps sp ∧ mg x = some (.ref f) ∧ PySem.W.keepIn K (.ref f) = true ∧ Binds K fd ps []
section
variable {P : Program} {w : World} {K : PySem.W.Frag} {mg : Str → Option Value} {base : Heap} {τ ρ : Type} [RepA τ] [Rep ρ]
variable {x qual : Str} {st : Stmt} {f : Addr} {fd : FuncData} {N ps : List Str} {k : Nat}
theorem def_PH {mir : τ → Res ρ} (Fu : Fun K x qual st f fd) (S : FnScope N ps (defScope st)) (L0 : τ → List (Option Asr)) (hl : ∀ (vs : List V) (R : Hp) (a : τ), RepA.rep K mg R vs a → vs.length = ps.length ∧ Paired (SlotOk R) (L0 a) (start N vs))
    (body : ∀ (cdv : Value) (A : Around) (outer : List Env) (s : Shared) (H : Hp) (Av : List Addr) (E : XK) (p : Addr × Obj) (a : τ), L2H.RoomH k (A.deeper (envOfC qual (defScope st) s.heap.objs.size f cdv)) →
      PSs (L2H.cxH CX0 P w K mg base N qual (defScope st) f cdv A outer s H E p).nox (defBody st) (tT (F0 K mg H Av E0) (L0 a) [] (mir a) (rV (F0 K mg H Av E0)))) :
    L2H.FnH P w K mg base CX0 (k + 1) f fd ps (spP K mg mir) := by
  obtain ⟨oc, od, kV, doc, pm, an, cdv, ct, osl, rfl, lk, hcd⟩ := Fu.ex
  refine L2H.fn_ofH lk hcd S (fun vs H Q E ⟨a, A, _, h, _⟩ => (hl vs _ a h).1) fun A outer s H vs Q E p hot hr ⟨a, Av, hA, h, q⟩ =>
    ⟨_, (body cdv A outer s H Av E p a hr).nox, ⟨(hl vs _ a h).2, go_start hA⟩, ?_⟩
  exact q.mono (fun r k v H' ⟨g, r'⟩ => k v H' (go_same g) r') fun H' g => go_same g
end
section
variable {X : Cx} {F : Fr} {L : List (Option Asr)} {O : List Own} {τ ρ : Type} [RepA τ] [Rep ρ]
variable {k : Nat} {ps : List Str} {x : Str} {p1 pos : Pos} {e : Expr} {es : List Expr} {b : Bool} {a : Addr} {oe : Obj} {pn : List (Addr × Obj)} {cls : Value} {d : Option Addr}
theorem nh_call {mir : τ → Res ρ} {m : Res τ} (D : DefH X.prog X.w X.K X.mg X.base k x ps (spP X.K X.mg mir)) (hz : L2N.Zn cls d oe) (hdt : ∃ vs, oe.data = .fields vs) (hr : Room k X.A) (ha : PA (X.suite a ((a, oe) :: pn)) (e :: es) (tA b F L O m)) (hg : Gl X x := by rfl) (hE : F.E = E0 := by rfl) (hK : X.K = F.K := by rfl) (hM : X.mg = F.mg := by rfl) (hd : (x == ("__debug__" : Str)) = false := by decide)
    (hs : starEach (e :: es) (X.suite a ((a, oe) :: pn)).env = (false, eval e (X.suite a ((a, oe) :: pn)).env) :: starEach es (X.suite a ((a, oe) :: pn)).env := by rfl) (hs2 : ((backTo pos (starEach es (X.suite a ((a, oe) :: pn)).env)).any fun x => x.fst) = false := by rfl) :
    PE (X.suite a ((a, oe) :: pn)) (.Call (.Name x p1) (e :: es) [] pos) (tP b F L O (m.bind mir)) := by
  obtain ⟨f, fd, h1, h2, h3, h4⟩ := D.ex
  obtain ⟨vs, hv⟩ := hdt
  refine call_core (sp := spP X.K X.mg mir) hE (fun vs H Q q => by rw [← hK, ← hM] at q; exact q) (pe_imp (L2H.pe_callH (X := X.suite a ((a, oe) :: pn)) (E := fun _ => E0) h1 (L2H.roomH_mark hr _) ⟨(a, oe), ⟨rfl, vs, hv, hz.2.2 vs hv⟩, List.mem_cons_self⟩ hg h2 h3 h4 (fun σ pins H s e s' I c => pass0 pins σ H s e s' I c) ha hd hs hs2) fun σ H Q q => ?_)
  show tA b F L O m σ H (fun vs H1 => spP X.K X.mg mir vs H1 Q E0)
  have q' : tA b F L O m σ H (fun vs H1 => spP X.K X.mg mir (vs ++ []) H1 Q E0) := q
  simp only [List.append_nil] at q'
  exact q'
end
end NF

set_option Elab.async false
set_option linter.all false
set_option maxRecDepth 100000
set_option maxHeartbeats 1000000
/-! Nf16: quiet calls, stores of comprehensions, repr, the script. -/
namespace NF
open PySem PySem.Spec PyProof.Rows L2
open Data (toD)
section
variable {X : Cx} {F : Fr} {L : List (Option Asr)} {O : List Own} {τ ρ α β : Type} [RepA τ] [Rep ρ] [Rep α] [Rep β]
variable {k : Nat} {ps : List Str} {x y : Str} {p1 pos : Pos} {e : Expr} {es : List Expr} {b : Bool}
/-- a call of a def that lets nothing out, where something may be let out -/
theorem nq_call {mir : τ → Res ρ} {m : Res τ} (D : DefAt X.prog X.w X.K X.mg X.base CX0 k x ps (spP X.K X.mg mir)) (hr : Room k X.A) (ha : PA X (e :: es) (tA b F L O m)) (hg : Gl X x := by rfl) (hK : X.K = F.K := by rfl) (hM : X.mg = F.mg := by rfl) (hd : (x == ("__debug__" : Str)) = false := by decide)
    (hs : starEach (e :: es) X.env = (false, eval e X.env) :: starEach es X.env := by rfl) (hs2 : ((backTo pos (starEach es X.env)).any fun x => x.fst) = false := by rfl) : PE X (.Call (.Name x p1) (e :: es) [] pos) (tP b F L O (m.bind fun a => (mir a).quiet)) := by
  obtain ⟨f, fd, h1, h2, h3, h4⟩ := D.ex
  refine pe_imp (pe_call h1 hr hg h2 h3 h4 .nil pass0 ha hd hs hs2) fun σ H Q ⟨g, q⟩ => ?_
  rw [out_bind] at q
  refine ⟨g, q.mono (fun a qa vs H1 g1 s1 r1 => ?_) fun _ z => z⟩
  show spP X.K X.mg mir (vs ++ []) H1 Q E0
  rw [List.append_nil]
  refine ⟨a, avoid b F O, g1.go.avoided, by rw [hK, hM, ← rgn_avoid]; exact r1, ?_⟩
  rw [hK, hM]
  cases e : mir a with
  | ok r =>
    rw [e] at qa
    exact fun v H' s2 r2 => qa v H' (g1.grow s2) (s1.trans s2) (by rw [rgn_avoid]; exact r2)
  | err c fs =>
    rw [e] at qa
    exact qa.elim
  | bad =>
    rw [e] at qa
    exact qa.elim
theorem fq_call {mir : τ → Res (List α)} {m : Res τ} (D : DefAt X.prog X.w X.K X.mg X.base CX0 k x ps (spF X.K X.mg mir)) (hr : Room k X.A) (ha : PA X (e :: es) (tA b F L O m)) (hg : Gl X x := by rfl) (hK : X.K = F.K := by rfl) (hM : X.mg = F.mg := by rfl) (hd : (x == ("__debug__" : Str)) = false := by decide)
    (hs : starEach (e :: es) X.env = (false, eval e X.env) :: starEach es X.env := by rfl) (hs2 : ((backTo pos (starEach es X.env)).any fun x => x.fst) = false := by rfl) : PE X (.Call (.Name x p1) (e :: es) [] pos) (tF b F L O (m.bind fun a => (mir a).quiet)) := by
  obtain ⟨f, fd, h1, h2, h3, h4⟩ := D.ex
  refine pe_imp (pe_call h1 hr hg h2 h3 h4 .nil pass0 ha hd hs hs2) fun σ H Q ⟨g, q⟩ => ?_
  rw [out_bind] at q
  refine ⟨g, q.mono (fun a qa vs H1 g1 s1 r1 => ?_) fun _ z => z⟩
  show spF X.K X.mg mir (vs ++ []) H1 Q E0
  rw [List.append_nil]
  refine ⟨a, avoid b F O, g1.go.avoided, by rw [hK, hM, ← rgn_avoid]; exact r1, ?_⟩
  rw [hK, hM]
  cases e : mir a with
  | ok r =>
    rw [e] at qa
    exact fun p ws H' s2 h1 h2 r2 => qa p ws H' (g1.grow s2) (s1.trans s2) (s1.free h1) h2 (by rw [rgn_avoid]; exact r2)
  | err c fs =>
    rw [e] at qa
    exact qa.elim
  | bad =>
    rw [e] at qa
    exact qa.elim
/-! x = [..] -/
inductive SpN : Nat → Prop
  | mk {i : Nat} : SpN i
section
variable {tg iter elt : Expr} {ifs : List Expr} {scope : Scope} {own : List (Str × Nat)} {p2 pos2 : Pos} {g : TG} {bd : α → List (Option Asr) → List (Option Asr)} {m : Res (List α)} {p : α → Res Bool} {f : α → Res β}
/-- a value -/
theorem s_setLc (i : Nat) (hc : X.calm = true) (hN : X.N.Nodup) (hO : List.Sublist F.O0 O) (hi : PI X tg iter (tI b F L O m)) (hfl : b = true ∨ FlatP α) (hb : BlkOk X.N X.env.scope scope own)
    (hok : TgOk F.K F.mg g (own.map (·.2)) bd) (ht : ∀ (s : Shared) (H : Hp) (C : Addr) (cl : List (Str × Addr)) (fp : List Addr), Tg (X.blk s H scope (compEnvC scope cl C X.env) fp) F.K F.mg tg g (own.map (·.2)) bd)
    (hp : ∀ (s : Shared) (H : Hp) (C : Addr) (cl : List (Str × Addr)) (fp : List Addr) (a : α) (D : Addr) (ds : List β), PTs (X.blk s H scope (compEnvC scope cl C X.env) fp) ifs (tB' F.nox (bd a (wipeL L (own.map (·.2)))) (ow F.K F.mg D ds :: O) (p a)))
    (he : ∀ (s : Shared) (H : Hp) (C : Addr) (cl : List (Str × Addr)) (fp : List Addr) (a : α) (D : Addr) (ds : List β), PE (X.blk s H scope (compEnvC scope cl C X.env) fp) elt (tP true F.nox (bd a (wipeL L (own.map (·.2)))) (ow F.K F.mg D ds :: O) (f a)))
    (hy : X.N[i]? = some y := by rfl) (hyl : X.env.scope.names.lookup y = some .local := by rfl) (hk : X.env.scope.kind = .function := by rfl) (hl : (p1.line == pos.line) = true := by rfl) (ha : (scope.names.any fun (n, k) => n == y && (k == .local || k == .cell)) = false := by rfl) (hpl : pos2.line = pos.line := by rfl)
    (hf : ∀ x, foldedSetIterable iter X.env x = pure x := by intro _; rfl) :
    PS X (.Assign [.Name y p1] (.ListComp elt [{ target := tg, iter := iter, ifs := ifs, is_async := 0 }] scope pos) pos2) (tN F L O (m.bind fun as => need (as.length ≤ sizeLine) (filtR (fun a => (p a).quiet) (fun a => (f a).quiet) as)) (fun as => L.set i (vl F.K F.mg as)) (fun _ => O)) := by
  refine ps_imp (ps_setLc hc hN hy hyl (sw_true hk hyl hl ha) hi hb (fun s H C cl fp => (ht s H C cl fp).pg) (fun s H C cl fp => pts_ex fun a => pts_ex fun D => pts_ex fun ds => hp s H C cl fp a D ds) (fun s H C cl fp => pe_ex fun a => pe_ex fun D => pe_ex fun ds => he s H C cl fp a D ds) hf) fun D σ H ⟨g0, q⟩ => ?_
  refine comp_core _ _ rfl hfl hok rfl rfl σ H (fun x H1 => gName i x σ H1 D.nx) ⟨g0, q.mono (fun as k p vs H1 g1 s1 h1 h2 r1 => ?_) fun H' ⟨a, _⟩ => a.go.sub hO⟩
  refine k _ _ ⟨set_ok (p := vl F.K F.mg as) ?_ i g1.slots, g1.go⟩
  refine ⟨p, vs, rfl, ?_, r1.mono less_same⟩
  show less H1 (addrs O ++ F.A) p = some (.lst vs)
  rw [less_out (g0.go.out h1)]
  exact h2
/-- an owned list -/
theorem s_ownLc (i : Nat) (hc : X.calm = true) (hN : X.N.Nodup) (hO : List.Sublist F.O0 O) (hi : PI X tg iter (tI b F L O m)) (hfl : b = true ∨ FlatP α) (hb : BlkOk X.N X.env.scope scope own)
    (hok : TgOk F.K F.mg g (own.map (·.2)) bd) (ht : ∀ (s : Shared) (H : Hp) (C : Addr) (cl : List (Str × Addr)) (fp : List Addr), Tg (X.blk s H scope (compEnvC scope cl C X.env) fp) F.K F.mg tg g (own.map (·.2)) bd)
    (hp : ∀ (s : Shared) (H : Hp) (C : Addr) (cl : List (Str × Addr)) (fp : List Addr) (a : α) (D : Addr) (ds : List β), PTs (X.blk s H scope (compEnvC scope cl C X.env) fp) ifs (tB' F.nox (bd a (wipeL L (own.map (·.2)))) (ow F.K F.mg D ds :: O) (p a)))
    (he : ∀ (s : Shared) (H : Hp) (C : Addr) (cl : List (Str × Addr)) (fp : List Addr) (a : α) (D : Addr) (ds : List β), PE (X.blk s H scope (compEnvC scope cl C X.env) fp) elt (tP true F.nox (bd a (wipeL L (own.map (·.2)))) (ow F.K F.mg D ds :: O) (f a)))
    (hy : X.N[i]? = some y := by rfl) (hyl : X.env.scope.names.lookup y = some .local := by rfl) (hk : X.env.scope.kind = .function := by rfl) (hl : (p1.line == pos.line) = true := by rfl) (ha : (scope.names.any fun (n, k) => n == y && (k == .local || k == .cell)) = false := by rfl) (hpl : pos2.line = pos.line := by rfl)
    (hf : ∀ x, foldedSetIterable iter X.env x = pure x := by intro _; rfl) :
    PS X (.Assign [.Name y p1] (.ListComp elt [{ target := tg, iter := iter, ifs := ifs, is_async := 0 }] scope pos) pos2) (tNp F L O (m.bind fun as => need (as.length ≤ sizeLine) (filtR (fun a => (p a).quiet) (fun a => (f a).quiet) as)) (fun p _ => L.set i (rf p)) (fun p as => ow F.K F.mg p as :: O)) := by
  refine ps_imp (ps_setLc hc hN hy hyl (sw_true hk hyl hl ha) hi hb (fun s H C cl fp => (ht s H C cl fp).pg) (fun s H C cl fp => pts_ex fun a => pts_ex fun D => pts_ex fun ds => hp s H C cl fp a D ds) (fun s H C cl fp => pe_ex fun a => pe_ex fun D => pe_ex fun ds => he s H C cl fp a D ds) hf) fun D σ H ⟨g0, q⟩ => ?_
  refine comp_core _ _ rfl hfl hok rfl rfl σ H (fun x H1 => gName i x σ H1 D.nx) ⟨g0, q.mono (fun as k p vs H1 g1 s1 h1 h2 r1 => ?_) fun H' ⟨a, _⟩ => a.go.sub hO⟩
  exact k p _ _ ⟨set_ok (p := rf p) rfl i (L2.Paired.mapP g0.slots fun _ _ z => z.mono (rg_new rfl s1 h1)), go_new g0 g1.go s1 h1 h2 r1⟩
end
/-! repr of an int -/
theorem n_repr {b1 b3 : Bool} {m : Res Int} {t : TA} (h : PE X e (tCB (fun xs H Q => ∃ i, xs = [.int i] ∧ i.natAbs.log2 < 1920 ∧ Q (.str (PySem.Str.ofString (toString i))) H) t)) (ht : t = tCons (tP b1 F L O m) tNil) : PE X e (tP b3 F L O (m.bind fun i => need (i.natAbs.log2 < 1920) (.ok (PySem.Str.ofString (toString i))))) := pe_imp h fun σ H Q ⟨g, q⟩ => by
  subst ht
  rw [out_bind] at q
  refine ⟨g, q.mono (fun i k v H1 g1 s1 r1 => ?_) fun _ z => z⟩
  rw [out_need] at k
  exact ⟨i, by cases r1; rfl, k.1, k.2 _ H1 g1 s1 rfl⟩
end
/-! the script -/
structure Scr where
  ns : List Int
instance : Rep Scr := ⟨fun K _ H v a => ∃ p, v = .ref p ∧ SqL K H p (a.ns.map V.int), fun e ⟨p, h1, h2⟩ => ⟨p, h1, e.seq h2⟩⟩
theorem reps_ints {K : Fg} {mg : MG} {H : Hp} (ns : List Int) : Reps K mg H (ns.map V.int) ns := reps_flat.mpr rfl
instance : Lk Scr Int := ⟨Scr.ns, fun ⟨p, h1, h2⟩ => ⟨p, _, h1, .inl h2, reps_ints _⟩⟩
section
variable {X : Cx} {F : Fr} {L : List (Option Asr)} {O : List Own}
theorem f_sliceS {x : Expr} {b : Bool} {ma : Res Scr} {lo hi : Option Expr} {ml mh : Res (Option Int)} {p1 p2 : Pos} (hx : PE X x (tP b F L O ma)) (hl : PO X lo (tO F L O ml)) (hh : PO X hi (tO F L O mh)) (hK : X.K = F.K := by rfl) :
    PE X (.Subscript x (.Slice lo hi none p2) p1) (tF b F L O (ma.bind fun x => ml.bind fun l => mh.bind fun h => .ok (cut x.ns l h))) := pe_imp (pe_slice sl_list hx hl hh) fun σ H Q ⟨g, q⟩ => by
  rw [out_bind] at q
  refine ⟨g, q.mono (fun x qx v1 H1 g1 s1 r1 => ?_) fun _ z => z⟩
  rw [out_bind] at qx
  refine ⟨g1, qx.mono (fun l ql H2 g2 s2 => ?_) fun H' ⟨a, b⟩ => ⟨a, s1.trans b⟩⟩
  rw [out_bind] at ql
  refine ⟨g2, ql.mono (fun h qh H3 g3 s3 => ?_) fun H' ⟨a, b⟩ => ⟨a, (s1.trans s2).trans b⟩⟩
  obtain ⟨p, rfl, h2⟩ := r1
  refine ⟨p, x.ns.map V.int, rfl, ?_, kf_new g3 (KF.mono ((s1.trans s2).trans s3) qh) ?_⟩
  · rw [hK]
    exact (s2.trans s3).seq (rgn_sub.seq h2)
  · unfold cutV cut
    rw [List.length_map]
    exact reps_take _ (reps_drop _ (reps_ints _))
end
theorem FnOk.weaker {P : Program} {w : World} {K : Fg} {mg : MG} {base : Heap} {CX : CXT} {k : Nat} {f : Addr} {fd : FuncData} {ps : List Str} {sp sp' : Sp} (F : FnOk P w K mg base CX k f fd ps sp) (i : ∀ vs H Q E, sp' vs H Q E → sp vs H Q E) : FnOk P w K mg base CX k f fd ps sp' :=
  ⟨fun vs H Q E h => F.len _ _ _ _ (i _ _ _ _ h), fun A outer s H args us vs Q E h1 h2 h3 h4 h => F.run A outer s H args us vs Q E h1 h2 h3 h4 (i _ _ _ _ h)⟩
/-- a law over a list of ints -/
def spLaw (K : Fg) (n : Nat) : Sp := fun vs H Q _ => ∃ (a : Addr) (ns : List Int), vs = [.ref a] ∧ SqL K H a (ns.map V.int) ∧ ns.length ≤ n ∧ ∀ H', Q (.bl true) H'
theorem law_of {P : Program} {w : World} {K : Fg} {mg : MG} {base : Heap} {k n : Nat} {f : Addr} {fd : FuncData} {ps : List Str} {mir : Ar Scr Unit → Res Bool} (F : FnOk P w K mg base CX0 k f fd ps (spP K mg mir)) (math : ∀ ns : List Int, ns.length ≤ n → mir ⟨⟨ns⟩, ()⟩ = .ok true) :
    FnOk P w K mg base CX0 k f fd ps (spLaw K n) := FnOk.weaker F fun vs H Q E ⟨a, ns, e, h, hl, q⟩ => by
  refine ⟨⟨⟨ns⟩, ()⟩, [], fun _ z => (List.not_mem_nil z).elim, ?_, ?_⟩
  · subst e
    refine ⟨_, _, rfl, ⟨a, rfl, ?_⟩, rfl⟩
    have : Same H (less H []) := fun b o z => by rw [less_out List.not_mem_nil]; exact z
    exact this.seq h
  · rw [math ns hl]
    intro v H' _ r
    have r' : v = .bl true := r
    rw [r']
    exact q H'
end NF

set_option Elab.async false
set_option linter.all false
set_option maxRecDepth 100000
/-! Nf17: module constants, chains of comparisons, ranges with a step, backward slices, calls that may raise and give a new list, defs that give nothing, errors without fields. -/
namespace NF
open PySem PySem.Spec PyProof.Rows L2
open Data (toD)
/-! ### module constants -/
structure GlobV (mg : MG) (x : Str) (v : V) : Prop where
  ex : ∃ u, mg x = some u ∧ RelV v u
section
variable {X : Cx} {F : Fr} {L : List (Option Asr)} {O : List Own} {α β γ s ι : Type} [Rep α] [Rep β] [Rep γ] [Rep s] [Rep ι]
theorem n_glob [Flat α] {x : Str} {pos : Pos} {b : Bool} {a : α} (h : GlobV X.mg x (Flat.enc a)) (hg : Gl X x := by rfl) (hd : (x == ("__debug__" : Str)) = false := by decide) : PE X (.Name x pos) (tP b F L O (.ok a)) := by
  obtain ⟨u, h1, h2⟩ := h.ex
  exact n_c (pe_glob hg h1 h2 hd)
/-! ### a < b < c -/
theorem nf_chain {e : Expr} {b1 b2 b4 b3 : Bool} {ma mb mc : Res Int} (f g : Int → Int → Bool) (h : PE X e (tChain (rI0 fun i j => .bl (f i j)) (rI0 fun i j => .bl (g i j)) (tP b1 F L O ma) (tP b2 F L O mb) (tP b4 F L O mc))) :
    PE X e (tP b3 F L O (ma.bind fun x => mb.bind fun y => if f x y then mc.bind fun z => .ok (g y z) else .ok false)) := pe_imp h fun σ H Q ⟨g0, q⟩ => by
  rw [out_bind] at q
  refine ⟨g0, q.mono (fun x qx v1 H1 g1 s1 r1 => ?_) fun _ z => z⟩
  rw [out_bind] at qx
  refine ⟨g1, qx.mono (fun y qy v2 H2 g2 s2 r2 => ?_) fun H' ⟨a, b⟩ => ⟨a, s1.trans b⟩⟩
  refine ⟨x, y, r1, r2, f x y, rfl, ?_⟩
  cases hf : f x y with
  | false =>
    rw [hf] at qy
    exact qy (.bl false) H2 g2 (s1.trans s2) rfl
  | true =>
    rw [hf] at qy
    simp only [if_true] at qy ⊢
    rw [out_bind] at qy
    exact ⟨g2, qy.mono (fun z kz v3 H3 g3 s3 r3 => ⟨y, z, r2, r3, kz (.bl (g y z)) H3 g3 ((s1.trans s2).trans s3) rfl⟩) fun H' ⟨a, b⟩ => ⟨a, (s1.trans s2).trans b⟩⟩
theorem nf_chainT {e : Expr} {b1 b2 b4 : Bool} {ma mb mc : Res Int} (f g : Int → Int → Bool) (h : PT X e (tTest (tChain (rI0 fun i j => .bl (f i j)) (rI0 fun i j => .bl (g i j)) (tP b1 F L O ma) (tP b2 F L O mb) (tP b4 F L O mc)))) :
    PT X e (tB' F L O (ma.bind fun x => mb.bind fun y => if f x y then mc.bind fun z => .ok (g y z) else .ok false)) := pt_imp h fun σ H Q ⟨g0, q⟩ => by
  rw [out_bind] at q
  refine ⟨g0, q.mono (fun x qx v1 H1 g1 s1 r1 => ?_) fun _ z => z⟩
  rw [out_bind] at qx
  refine ⟨g1, qx.mono (fun y qy v2 H2 g2 s2 r2 => ?_) fun H' ⟨a, b⟩ => ⟨a, s1.trans b⟩⟩
  refine ⟨x, y, r1, r2, f x y, rfl, ?_⟩
  cases hf : f x y with
  | false =>
    rw [hf] at qy
    exact ⟨false, rfl, qy H2 g2 (s1.trans s2)⟩
  | true =>
    rw [hf] at qy
    simp only [if_true] at qy ⊢
    rw [out_bind] at qy
    exact ⟨g2, qy.mono (fun z kz v3 H3 g3 s3 r3 => ⟨y, z, r2, r3, g y z, rfl, kz H3 g3 ((s1.trans s2).trans s3)⟩) fun H' ⟨a, b⟩ => ⟨a, (s1.trans s2).trans b⟩⟩
/-! ### wide operators -/
@[irreducible] def decCDivW : ∀ i j, Decidable (CDivW i j) := fun i j => by unfold CDivW; infer_instance
instance : ∀ i j, Decidable (CDivW i j) := decCDivW
theorem n_fdivW {x y : Expr} {b1 b2 b3 : Bool} {ma mb : Res Int} {pos : Pos} (hx : PE X x (tP b1 F L O ma)) (hy : PE X y (tP b2 F L O mb)) : PE X (.BinOp x .FloorDiv y pos) (tP b3 F L O (ma.bind fun x => mb.bind fun y => need (CDivW x y) (.ok (x / y)))) := nf2 (pe_op op_fdivW hx hy) (rr_I (g := fun x y => x / y))
/-! ### statements -/
/-- e, for nothing but what it may raise -/
theorem s_expr {e : Expr} {pos : Pos} {b : Bool} {m : Res α} (he : PE X e (tP b F L O m)) (hO : List.Sublist F.O0 O) (hs : swapsWith e none pos.line X.env = pure false := by rfl) :
    PS X (.Expr e pos) (tN F L O (m.bind fun _ => .ok ()) (fun _ => L) (fun _ => O)) := ps_imp (ps_expr he hs) fun D σ H ⟨g, q⟩ => by
  rw [out_bind] at q
  exact ⟨g, q.mono (fun a k v H1 g1 s1 r1 => k _ _ g1) fun H' ⟨a, _⟩ => a.go.sub hO⟩
/-- goes on or hands back, then goes on or hands back -/
def goOnM {B B' D' : Type} (m : Res (Sum B D')) (f : B → Res (Sum B' D')) : Res (Sum B' D') := m.bind fun r => match r with
  | .inl b => f b
  | .inr d => .ok (.inr d)
theorem m_M {B B' D' : Type} {st : Stmt} {rest : List Stmt} {m1 : Res (Sum B D')} {m2 : B → Res (Sum B' D')} {L' : B → List (Option Asr)} {O' : B → List Own} {L2' : B' → List (Option Asr)} {O2' : B' → List Own} {Ret : D' → V → Hp → Prop} (h1 : PS X st (tM F L O m1 L' O' Ret)) (h2 : ∀ b, PSs X rest (tM F (L' b) (O' b) (m2 b) L2' O2' Ret)) :
    PSs X (st :: rest) (tM F L O (goOnM m1 m2) L2' O2' Ret) := pss_imp (pss_cons h1 (pss_ex h2)) fun D σ H ⟨g, q⟩ => by
  unfold goOnM at q
  rw [out_bind] at q
  refine ⟨g, q.mono (fun r k => ?_) fun _ z => z⟩
  cases r with
  | inl b => exact fun σ' H' g' => ⟨b, g', k⟩
  | inr d => exact k
/-! ### xs[::-1], range(a, b, c) -/
theorem f_rev {e : Expr} {b : Bool} {m : Res (List α)} {k : Nat} {p1 p2 p3 pos : Pos} (he : PE X e (tP b F L O m)) (hK : X.K = F.K := by rfl) : PE X (.Subscript e (.Slice none none (some (.UnaryOp .USub (.Constant (.int 1) k p1) p2)) p3) pos) (tF b F L O (m.bind fun xs => .ok xs.reverse)) := pe_imp (pe_revL he) fun σ H Q ⟨g, q⟩ => by
  rw [out_bind] at q
  refine ⟨g, q.mono (fun xs k v H1 g1 s1 r1 => ?_) fun _ z => z⟩
  obtain ⟨p, vs, rfl, h2, h3⟩ := r1
  rw [hK]
  exact ⟨p, vs, rfl, .of (rgn_sub _ _ h2), kf_new g1 (KF.mono s1 k) (reps_reverse h3)⟩
where
  reps_reverse {K : Fg} {mg : MG} {H : Hp} : ∀ {vs : List V} {as : List α}, Reps K mg H vs as → Reps K mg H vs.reverse as.reverse
  | _, _, .nil => .nil
  | _, _, .cons r t => by
    rw [List.reverse_cons, List.reverse_cons]
    exact reps_append (reps_reverse t) (.cons r .nil)
def irange3 (lo hi c : Int) : List Int := (List.range (Builtin.Range.rangeSize lo hi c).toNat).map fun i : Nat => lo + (i : Int) * c
def srcR3 {K : Fg} {mg : MG} {lo hi c : Int} : Src K mg (Itc lo c (Builtin.Range.rangeSize lo hi c).toNat) (irange3 lo hi c) where
  src H := True
  mono e h := h
  Y := YFn fun i => .int (lo + (i : Nat) * c)
  walk := by
    have e : (irange3 lo hi c).length = (Builtin.Range.rangeSize lo hi c).toNat := by unfold irange3; simp
    rw [e]
    exact walk_rangeC
  ylds i H x H' y := by
    obtain ⟨rfl, y⟩ := y
    refine ⟨Same.refl _, fun Av _ h a ha => ?_⟩
    subst y
    unfold irange3 at ha
    rw [List.getElem?_map] at ha
    cases e : (List.range (Builtin.Range.rangeSize lo hi c).toNat)[i]? with
    | none => rw [e] at ha; cases ha
    | some j =>
      rw [e] at ha
      have : j = i := by
        have := List.getElem?_eq_some_iff.mp e
        obtain ⟨h1, h2⟩ := this
        rw [List.getElem_range] at h2
        exact h2.symm
      subst this
      cases ha
      rfl
theorem i_range3 {tg e e2 e3 : Expr} {b b1 b2 b' : Bool} {m m2 m3 : Res Int} {p pos : Pos} (h : PE X e (tP b F L O m)) (h2 : PE X e2 (tP b1 F L O m2)) (h3 : PE X e3 (tP b2 F L O m3)) (hm : X.mg "range" = none) (hg : Gl X "range" := by rfl)
    (hs1 : starEach [e, e2, e3] X.env = (false, eval e X.env) :: starEach [e2, e3] X.env := by rfl) (hs2 : starEach [e2, e3] X.env = (false, eval e2 X.env) :: starEach [e3] X.env := by rfl) (hs3 : starEach [e3] X.env = (false, eval e3 X.env) :: starEach [] X.env := by rfl) (hpl : (backTo pos (starEach [e2, e3] X.env)).any (·.1) = false := by rfl) :
    PI X tg (.Call (.Name "range" p) [e, e2, e3] [] pos) (tI b' F L O (m.bind fun lo => m2.bind fun hi => m3.bind fun c => need (c ≠ 0 ∧ c.natAbs < 1073741824 ∧ Builtin.Range.small lo hi c = true) (.ok (irange3 lo hi c)))) := pi_imp (pi_range3 hg hm (pa_cons h (pa_cons h2 (pa_cons h3 pa_nil hs3) hs2) hs1) hs1 hpl) fun σ H R ⟨g, q⟩ => by
  rw [out_bind] at q
  refine ⟨g, q.mono (fun n k v H1 g1 s1 r1 => ?_) fun _ z => z⟩
  rw [out_bind] at k
  refine ⟨g1, k.mono (fun n2 k v H2 g2 s2 r2 => ?_) fun H' ⟨a, b⟩ => ⟨a, s1.trans b⟩⟩
  rw [out_bind] at k
  refine ⟨g2, k.mono (fun n3 k v H3 g3 s3 r3 => ?_) fun H' ⟨a, b⟩ => ⟨a, (s1.trans s2).trans b⟩⟩
  rw [out_need] at k
  cases r1
  cases r2
  cases r3
  exact ⟨n, n2, n3, _, rfl, ⟨k.1.1, k.1.2.1, k.1.2.2, rangeSize_toNat n n2 n3⟩, k.2 _ H3 srcR3 g3 ((s1.trans s2).trans s3) trivial⟩
end
/-! ### defs that may raise: the three kinds of what they give -/
section
variable (K : Fg) (mg : MG) {τ ρ α : Type} [RepA τ] [Rep ρ] [Rep α]
/-- a new list, or raises -/
def spXF (mir : τ → Res (List α)) : Sp := fun vs H Q E => ∃ (a : τ) (A : List Addr), (∀ x ∈ A, H x ≠ none) ∧ RepA.rep K mg (less H A) vs a ∧
  Out (F0 K mg H A E) (mir a) (fun as => ∀ p ws H', Same H H' → H p = none → H' p = some (.lst ws) → Reps K mg (less (less H' A) [p]) ws as → Q (.ref p) H') (fun H' => Same H H')
end
section
variable {P : Program} {w : World} {K : PySem.W.Frag} {mg : Str → Option Value} {base : Heap} {τ ρ α : Type} [RepA τ] [Rep ρ] [Rep α]
variable {x qual : Str} {st : Stmt} {f : Addr} {fd : FuncData} {N ps : List Str} {k : Nat}
theorem def_XF {mir : τ → Res (List α)} (Fu : Fun K x qual st f fd) (S : FnScope N ps (defScope st)) (L0 : τ → List (Option Asr)) (hl : ∀ (vs : List V) (R : Hp) (a : τ), RepA.rep K mg R vs a → vs.length = ps.length ∧ Paired (SlotOk R) (L0 a) (start N vs))
    (body : ∀ (cdv : Value) (A : Around) (outer : List Env) (s : Shared) (H : Hp) (Av : List Addr) (E : XK) (a : τ), Room k (A.deeper (envOfC qual (defScope st) s.heap.objs.size f cdv)) →
      (∀ L O, TkX (cxOf (L2N.CX P w) P w K mg base N qual (defScope st) f cdv A outer s H E) (F0 K mg H Av E) L O) →
      PSs (cxOf (L2N.CX P w) P w K mg base N qual (defScope st) f cdv A outer s H E) (defBody st) (tT (F0 K mg H Av E) (L0 a) [] (mir a) (rF (F0 K mg H Av E)))) :
    FnOk P w K mg base (L2N.CX P w) (k + 1) f fd ps (spXF K mg mir) := by
  obtain ⟨oc, od, kV, doc, pm, an, cdv, ct, osl, rfl, lk, hcd⟩ := Fu.ex
  refine fn_of lk hcd S (fun vs H Q E ⟨a, A, _, h, _⟩ => (hl vs _ a h).1) fun A outer s H vs Q E hr ⟨a, Av, hA, h, q⟩ =>
    ⟨_, body cdv A outer s H Av E a hr fun L O => ⟨_, L2N.takes_of rfl rfl rfl rfl, fun c d σ H e _ => e⟩, ⟨(hl vs _ a h).2, go_start hA⟩, ?_⟩
  exact q.mono (fun r k v H' ⟨p, ws, e, g, h1, h2, h3, h4⟩ => by subst e; exact k p ws H' (go_same g) h1 h3 h4) fun H' g => go_same g
/-- nothing (None), or raises -/
theorem def_XU {mir : τ → Res (Sum Unit Unit)} (Fu : Fun K x qual st f fd) (S : FnScope N ps (defScope st)) (L0 : τ → List (Option Asr)) (Le : List (Option Asr)) (hl : ∀ (vs : List V) (R : Hp) (a : τ), RepA.rep K mg R vs a → vs.length = ps.length ∧ Paired (SlotOk R) (L0 a) (start N vs))
    (body : ∀ (cdv : Value) (A : Around) (outer : List Env) (s : Shared) (H : Hp) (Av : List Addr) (E : XK) (a : τ), Room k (A.deeper (envOfC qual (defScope st) s.heap.objs.size f cdv)) →
      (∀ L O, TkX (cxOf (L2N.CX P w) P w K mg base N qual (defScope st) f cdv A outer s H E) (F0 K mg H Av E) L O) →
      PSs (cxOf (L2N.CX P w) P w K mg base N qual (defScope st) f cdv A outer s H E) (defBody st) (tM (F0 K mg H Av E) (L0 a) [] (mir a) (fun _ : Unit => Le) (fun _ : Unit => []) (rV (F0 K mg H Av E)))) :
    FnOk P w K mg base (L2N.CX P w) (k + 1) f fd ps (spX K mg fun a => goOn (mir a) fun _ => .ok ()) := by
  obtain ⟨oc, od, kV, doc, pm, an, cdv, ct, osl, rfl, lk, hcd⟩ := Fu.ex
  refine fn_of lk hcd S (fun vs H Q E ⟨a, A, _, h, _⟩ => (hl vs _ a h).1) fun A outer s H vs Q E hr ⟨a, Av, hA, h, q⟩ =>
    ⟨_, body cdv A outer s H Av E a hr fun L O => ⟨_, L2N.takes_of rfl rfl rfl rfl, fun c d σ H e _ => e⟩, ⟨(hl vs _ a h).2, go_start hA⟩, ?_⟩
  unfold goOn at q
  rw [out_bind] at q
  refine q.mono (fun r k => ?_) fun H' g => go_same g
  cases r with
  | inl u => exact fun σ' H' g => k .non H' (go_same g.go) rfl
  | inr d => exact fun v H' ⟨g, r'⟩ => k v H' (go_same g) r'
end
section
variable {X : Cx} {F : Fr} {L : List (Option Asr)} {O : List Own} {τ ρ α : Type} [RepA τ] [Rep ρ] [Rep α]
variable {k : Nat} {ps : List Str} {x : Str} {p1 pos : Pos} {e : Expr} {es : List Expr} {b : Bool}
theorem f_callX {mir : τ → Res (List α)} {m : Res τ} (D : DefAt X.prog X.w X.K X.mg X.base (L2N.CX X.prog X.w) k x ps (spXF X.K X.mg mir)) (hr : Room k X.A) (tk : TkX X F L O) (ha : PA X (e :: es) (tA b F L O m)) (hg : Gl X x := by rfl) (hK : X.K = F.K := by rfl) (hM : X.mg = F.mg := by rfl) (hd : (x == ("__debug__" : Str)) = false := by decide)
    (hs : starEach (e :: es) X.env = (false, eval e X.env) :: starEach es X.env := by rfl) (hs2 : ((backTo pos (starEach es X.env)).any fun x => x.fst) = false := by rfl) : PE X (.Call (.Name x p1) (e :: es) [] pos) (tF b F L O (m.bind mir)) := by
  obtain ⟨f, fd, h1, h2, h3, h4⟩ := D.ex
  obtain ⟨W, tk, hW⟩ := tk
  refine pe_imp (pe_callS (E := WE W) h1 hr hg h2 h3 h4 (fun σ => L2N.passAt tk σ) ha hd hs hs2) fun σ H Q ⟨g, q⟩ => ?_
  rw [out_bind] at q
  refine ⟨g, q.mono (fun a qa vs H1 g1 s1 r1 => ?_) fun _ z => z⟩
  refine ⟨a, avoid b F O, g1.go.avoided, by rw [hK, hM, ← rgn_avoid]; exact r1, ?_⟩
  rw [hK, hM]
  cases e : mir a with
  | ok r =>
    rw [e] at qa
    exact fun p ws H' s2 h1 h2 r2 => qa p ws H' (g1.grow s2) (s1.trans s2) (s1.free h1) h2 (by rw [rgn_avoid]; exact r2)
  | err c fs =>
    rw [e] at qa
    exact fun C d H' h1 h2 h4 => hW _ _ _ _ (qa C d H' h1 (h2.older g1.go.live) ⟨g1.grow h4, s1.trans h4⟩) (g1.grow h4)
  | bad =>
    rw [e] at qa
    exact qa.elim
/-- a call that may raise, where it does not -/
theorem n_callXq {mir : τ → Res ρ} {m : Res τ} (D : DefAt X.prog X.w X.K X.mg X.base (L2N.CX X.prog X.w) k x ps (spX X.K X.mg mir)) (hr : Room k X.A) (ha : PA X (e :: es) (tA b F L O m)) (hg : Gl X x := by rfl) (hK : X.K = F.K := by rfl) (hM : X.mg = F.mg := by rfl) (hd : (x == ("__debug__" : Str)) = false := by decide)
    (hs : starEach (e :: es) X.env = (false, eval e X.env) :: starEach es X.env := by rfl) (hs2 : ((backTo pos (starEach es X.env)).any fun x => x.fst) = false := by rfl) : PE X (.Call (.Name x p1) (e :: es) [] pos) (tP b F L O (m.bind fun a => (mir a).quiet)) := by
  obtain ⟨f, fd, h1, h2, h3, h4⟩ := D.ex
  refine pe_imp (pe_callS (E := WE (fun _ _ _ _ => False)) h1 hr hg h2 h3 h4 (fun σ => L2N.passAt takes0N σ) ha hd hs hs2) fun σ H Q ⟨g, q⟩ => ?_
  rw [out_bind] at q
  refine ⟨g, q.mono (fun a qa vs H1 g1 s1 r1 => ?_) fun _ z => z⟩
  refine ⟨a, avoid b F O, g1.go.avoided, by rw [hK, hM, ← rgn_avoid]; exact r1, ?_⟩
  rw [hK, hM]
  cases e : mir a with
  | ok r =>
    rw [e] at qa
    exact fun v H' s2 r2 => qa v H' (g1.grow s2) (s1.trans s2) (by rw [rgn_avoid]; exact r2)
  | err c fs =>
    rw [e] at qa
    exact qa.elim
  | bad =>
    rw [e] at qa
    exact qa.elim
theorem f_callXq {mir : τ → Res (List α)} {m : Res τ} (D : DefAt X.prog X.w X.K X.mg X.base (L2N.CX X.prog X.w) k x ps (spXF X.K X.mg mir)) (hr : Room k X.A) (ha : PA X (e :: es) (tA b F L O m)) (hg : Gl X x := by rfl) (hK : X.K = F.K := by rfl) (hM : X.mg = F.mg := by rfl) (hd : (x == ("__debug__" : Str)) = false := by decide)
    (hs : starEach (e :: es) X.env = (false, eval e X.env) :: starEach es X.env := by rfl) (hs2 : ((backTo pos (starEach es X.env)).any fun x => x.fst) = false := by rfl) : PE X (.Call (.Name x p1) (e :: es) [] pos) (tF b F L O (m.bind fun a => (mir a).quiet)) := by
  obtain ⟨f, fd, h1, h2, h3, h4⟩ := D.ex
  refine pe_imp (pe_callS (E := WE (fun _ _ _ _ => False)) h1 hr hg h2 h3 h4 (fun σ => L2N.passAt takes0N σ) ha hd hs hs2) fun σ H Q ⟨g, q⟩ => ?_
  rw [out_bind] at q
  refine ⟨g, q.mono (fun a qa vs H1 g1 s1 r1 => ?_) fun _ z => z⟩
  refine ⟨a, avoid b F O, g1.go.avoided, by rw [hK, hM, ← rgn_avoid]; exact r1, ?_⟩
  rw [hK, hM]
  cases e : mir a with
  | ok r =>
    rw [e] at qa
    exact fun p ws H' s2 h1 h2 r2 => qa p ws H' (g1.grow s2) (s1.trans s2) (s1.free h1) h2 (by rw [rgn_avoid]; exact r2)
  | err c fs =>
    rw [e] at qa
    exact qa.elim
  | bad =>
    rw [e] at qa
    exact qa.elim
end
/-! ### raise C(), C an own error without __init__ -/
/-- the class x, an own error (over ValueError in the end) without an __init__ of its own -/
structure Err0 (K : Fg) (mg : MG) (x : Str) : Prop where
  ex : ∃ C, mg x = some (.ref C) ∧ PySem.W.excIn K C [.type "ValueError", .type "Exception", .type "BaseException", .type "object"] "ValueError.__new__" = true ∧ PySem.W.keepIn K (.ref C) = true ∧ PySem.W.subIn K (.ref C) (.type "BaseException") = some true ∧ PySem.W.typeIn K (.ref C) = some (.type "type")
section
variable {X : Cx} {p pos pos2 : Pos} {x : Str}
theorem pmkN_own0 {C : Addr} {bmB : List Value} {B newId initId : String} (F : ExcBaseFacts B newId initId bmB) (q : PySem.W.excIn X.K C bmB newId = true) (gC : X.mg x = some (.ref C)) (kC : PySem.W.keepIn X.K (.ref C) = true) (r : Raises X (.ref C)) (hg : Gl X x)
    (hdb : (x == ("__debug__" : Str)) = false := by decide) : L2N.PMk X (.Call (.Name x p) [] [] pos) (fun _ H Q => Q (.ref C) none H) := by
  intro pins s σ H Q I h
  refine wpAny_Call_Name_kw (ld_glob I hg gC ?_ hdb)
  refine PySem.W.callWith_K0 I.kIn kC ?_
  show wpAny _ _ (call (.ref C) []) _ _ _
  obtain ⟨bm, N, nm, qn, bs, hdct, sn, sub, ab, col, dd, k0, k1, k2, k3, k5, mN, hC, hN, hni, T⟩ := exc_obj I.kIn q
  refine wpAny_call_exc_subT F T hC hN hni (fun h' e hm => ?_) (Nat.zero_le _)
  exact L2N.mk_of I hm r h (I.hok.gone hm.new)
variable {F : Fr} {L : List (Option Asr)} {O : List Own} {D' : Type} {Ret : D' → V → Hp → Prop}
/-- raise x() -/
theorem s_raise0 (D : Err0 X.K X.mg x) (hc : X.calm = true) (tk : TkX X F L O) (hO : List.Sublist F.O0 O) (hg : Gl X x := by rfl) (hM : X.mg = F.mg := by rfl) (hdb : (x == ("__debug__" : Str)) = false := by decide) :
    PS X (.Raise (some (.Call (.Name x p) [] [] pos)) none pos2) (tT F L O (.err x []) Ret) := by
  obtain ⟨C, hm, h1, h2, h3, h4⟩ := D.ex
  obtain ⟨W, tk, hW⟩ := tk
  refine ps_imp (L2N.ps_raise hc tk (pmkN_own0 PySem.F.excBase_ValueError h1 hm h2 (raises_own h3 h4) hg hdb)) fun D σ H ⟨g, q⟩ => ?_
  exact hW _ _ _ _ (q C none H (hM ▸ hm) rfl (g.go.sub hO)) g
end
end NF

set_option Elab.async false
set_option linter.all false
set_option maxRecDepth 100000
/-! Nf18: what changes the owned list: further operators, comparisons as values, places, displays, walks; a try that gives a new list. -/
namespace NF
open PySem PySem.Spec PyProof.Rows L2
open Data (toD)
section
variable {X : Cx} {F : Fr} {L : List (Option Asr)} {p : Addr} {O : List Own} {α β γ s ι : Type} [Rep α] [Rep β] [Rep γ] [Rep s] [OwR ι] {xs : ι}
section
variable {x y : Expr} {pos : Pos} {b1 b2 b3 : Bool} {ma : Res (Int × ι)} {mb : ι → Res (Int × ι)}
variable (hx : PE X x (tE b1 F L p xs O ma)) (hy : ∀ xs', PE X y (tE b2 F L p xs' O (mb xs'))) (hO : ∀ xs' : ι, List.Sublist F.O0 (ow F.K F.mg p xs' :: O))
include hx hy hO
theorem e_shl : PE X (.BinOp x .LShift y pos) (tE b3 F L p xs O (ma.bind fun u => (mb u.2).bind fun w => (need (CPow u.1 w.1) (.ok (u.1 * 2 ^ w.1.toNat))).bind fun z => .ok (z, w.2))) := ne2 (pe_op op_shl) hx hy (fun _ => rr_I (g := fun x y => x * 2 ^ y.toNat)) hO
theorem e_shr : PE X (.BinOp x .RShift y pos) (tE b3 F L p xs O (ma.bind fun u => (mb u.2).bind fun w => (need (0 ≤ w.1) (.ok (u.1 / 2 ^ w.1.toNat))).bind fun z => .ok (z, w.2))) := ne2 (pe_op op_shr) hx hy (fun _ => rr_I (C := fun _ y => 0 ≤ y) (g := fun x y => x / 2 ^ y.toNat)) hO
theorem e_pow : PE X (.BinOp x .Pow y pos) (tE b3 F L p xs O (ma.bind fun u => (mb u.2).bind fun w => (need (CPow u.1 w.1) (.ok (u.1 ^ w.1.toNat))).bind fun z => .ok (z, w.2))) := ne2 (pe_op op_pow) hx hy (fun _ => rr_I (g := fun x y => x ^ y.toNat)) hO
theorem e_bxor : PE X (.BinOp x .BitXor y pos) (tE b3 F L p xs O (ma.bind fun u => (mb u.2).bind fun w => .ok (Builtin.bitXor u.1 w.1, w.2))) := ne2 (pe_op op_xor) hx hy (fun _ => rr_I0 (g := fun x y => Builtin.bitXor x y)) hO
theorem e_band : PE X (.BinOp x .BitAnd y pos) (tE b3 F L p xs O (ma.bind fun u => (mb u.2).bind fun w => .ok (Builtin.bitAnd u.1 w.1, w.2))) := ne2 (pe_op op_and) hx hy (fun _ => rr_I0 (g := fun x y => Builtin.bitAnd x y)) hO
theorem e_bor : PE X (.BinOp x .BitOr y pos) (tE b3 F L p xs O (ma.bind fun u => (mb u.2).bind fun w => .ok (Builtin.bitOr u.1 w.1, w.2))) := ne2 (pe_op op_or) hx hy (fun _ => rr_I0 (g := fun x y => Builtin.bitOr x y)) hO
theorem et_le : PT X (.Compare x [.LtE] [y] pos) (tEB F L p xs O (ma.bind fun u => (mb u.2).bind fun w => .ok (decide (u.1 ≤ w.1), w.2))) := ne2t (mc := fun x y => .ok (decide (x ≤ y))) (fun h1 h2 => pt_cmpR op_le h1 h2 (nomark _)) hx hy (fun _ => rr_I0 (g := fun x y => decide (x ≤ y))) hO
theorem et_ge : PT X (.Compare x [.GtE] [y] pos) (tEB F L p xs O (ma.bind fun u => (mb u.2).bind fun w => .ok (decide (w.1 ≤ u.1), w.2))) := ne2t (mc := fun x y => .ok (decide (y ≤ x))) (fun h1 h2 => pt_cmpR op_ge h1 h2 (nomark _)) hx hy (fun _ => rr_I0 (g := fun x y => decide (y ≤ x))) hO
theorem en_lt : PE X (.Compare x [.Lt] [y] pos) (tE b3 F L p xs O (ma.bind fun u => (mb u.2).bind fun w => .ok (decide (u.1 < w.1), w.2))) := ne2 (mc := fun x y => .ok (decide (x < y))) (fun h1 h2 => pe_cmpR op_lt h1 h2 (nomark _)) hx hy (fun _ => rr_I0 (g := fun x y => decide (x < y))) hO
theorem en_le : PE X (.Compare x [.LtE] [y] pos) (tE b3 F L p xs O (ma.bind fun u => (mb u.2).bind fun w => .ok (decide (u.1 ≤ w.1), w.2))) := ne2 (mc := fun x y => .ok (decide (x ≤ y))) (fun h1 h2 => pe_cmpR op_le h1 h2 (nomark _)) hx hy (fun _ => rr_I0 (g := fun x y => decide (x ≤ y))) hO
theorem en_gt : PE X (.Compare x [.Gt] [y] pos) (tE b3 F L p xs O (ma.bind fun u => (mb u.2).bind fun w => .ok (decide (w.1 < u.1), w.2))) := ne2 (mc := fun x y => .ok (decide (y < x))) (fun h1 h2 => pe_cmpR op_gt h1 h2 (nomark _)) hx hy (fun _ => rr_I0 (g := fun x y => decide (y < x))) hO
theorem en_ge : PE X (.Compare x [.GtE] [y] pos) (tE b3 F L p xs O (ma.bind fun u => (mb u.2).bind fun w => .ok (decide (w.1 ≤ u.1), w.2))) := ne2 (mc := fun x y => .ok (decide (y ≤ x))) (fun h1 h2 => pe_cmpR op_ge h1 h2 (nomark _)) hx hy (fun _ => rr_I0 (g := fun x y => decide (y ≤ x))) hO
theorem en_eq : PE X (.Compare x [.Eq] [y] pos) (tE b3 F L p xs O (ma.bind fun u => (mb u.2).bind fun w => .ok (decide (u.1 = w.1), w.2))) := ne2 (mc := fun x y => .ok (decide (x = y))) (fun h1 h2 => pe_cmpR op_eq h1 h2 (nomark _)) hx hy (fun _ x y vx vy H σ Q g rx ry q => by
  cases rx; cases ry
  exact ⟨rfl, by rw [show decide (V.int x = V.int y) = decide (x = y) by simp]; exact kp_flat g q⟩) hO
theorem en_ne : PE X (.Compare x [.NotEq] [y] pos) (tE b3 F L p xs O (ma.bind fun u => (mb u.2).bind fun w => .ok (!decide (u.1 = w.1), w.2))) := ne2 (mc := fun x y => .ok (!decide (x = y))) (fun h1 h2 => pe_cmpR op_ne h1 h2 (nomark _)) hx hy (fun _ x y vx vy H σ Q g rx ry q => by
  cases rx; cases ry
  exact ⟨rfl, by rw [show decide (V.int x = V.int y) = decide (x = y) by simp]; exact kp_flat g q⟩) hO
end
/-- what stands outside the list stays -/
theorem kb_rg {xs' ys : ι} {H1 H2 : Hp} (s2 : KeepBut p H1 H2) : Same (rg F (ow F.K F.mg p xs' :: O) H1) (rg F (ow F.K F.mg p ys :: O) H2) := fun a o z => by
  have hb : a ∉ addrs (ow F.K F.mg p xs' :: O) ++ F.A := fun y => by unfold rg at z; rw [less_in y] at z; cases z
  unfold rg at z ⊢
  rw [less_out hb] at z
  rw [less_out (show a ∉ addrs (ow F.K F.mg p ys :: O) ++ F.A from hb)]
  exact s2 _ _ z (fun y => hb (by rw [y]; exact List.mem_append_left _ List.mem_cons_self))
theorem ne2s {x y e : Expr} {r : R2} {ma : Res (α × ι)} {mb : ι → Res (β × ι)} {mc : α → β → Res γ} (c : ∀ {ta tb : TE}, PE X x ta → PE X y tb → PE X e (tOp r ta tb))
    (hx : PE X x (tE true F L p xs O ma)) (hy : ∀ xs', PE X y (tE true F L p xs' O (mb xs'))) (hr : ∀ xs' : ι, RR F L (ow F.K F.mg p xs' :: O) true true true r mc) (hO : ∀ xs' : ι, List.Sublist F.O0 (ow F.K F.mg p xs' :: O)) :
    PE X e (tE true F L p xs O (ma.bind fun u => (mb u.2).bind fun w => (mc u.1 w.1).bind fun z => .ok (z, w.2))) := pe_imp (c hx (pe_ex hy)) fun σ H Q ⟨g, q⟩ => by
  rw [out_bind] at q
  refine ⟨g, q.mono (fun u qx v1 H1 g1 s1 r1 => ?_) fun _ z => z⟩
  rw [out_bind] at qx
  refine ⟨u.2, g1, qx.mono (fun w qy v2 H2 g2 s2 r2 => ?_) fun _ z => z⟩
  rw [out_bind] at qy
  exact hr w.2 u.1 w.1 v1 v2 H2 σ Q g2 (Rep.mono (kb_rg s2) r1) r2 (qy.mono (fun z kz v H' g' s' r' => kz v H' g' ((s1.trans s2).trans (.of s')) r') fun H' ⟨a, b⟩ => a.go.sub (hO _))
theorem rr_idx [Lk s α] {b1 b2 : Bool} (hK : X.K = F.K) : RR F L O b1 b2 b1 (fun x y H Q => rIxL X.K x y H Q ∨ rIxT X.K x y H Q) fun (x : s) (y : Int) => idx (Lk.its x) y := fun x y vx vy H σ Q g rx ry q => by
  unfold idx at q
  dsimp only at q
  cases e : atI (Lk.its x) y with
  | none => rw [e] at q; exact q.elim
  | some a =>
    rw [e] at q
    obtain ⟨p, vs, h1, h2, h3⟩ := Lk.get rx
    obtain ⟨v, h4, h5⟩ := at_get h3 e
    subst h1
    cases ry
    rw [hK]
    rcases h2 with h2 | h2
    · exact .inl ⟨p, vs, y, v, rfl, rfl, rgn_sub.seq h2, h4, q v H g (Same.refl _) h5⟩
    · exact .inr ⟨p, vs, y, v, rfl, rfl, same_t rgn_sub h2, h4, q v H g (Same.refl _) h5⟩
theorem e_idx [Lk s α] {x y : Expr} {pos : Pos} {ma : Res (s × ι)} {mb : ι → Res (Int × ι)} (hx : PE X x (tE true F L p xs O ma)) (hy : ∀ xs', PE X y (tE true F L p xs' O (mb xs'))) (hO : ∀ xs' : ι, List.Sublist F.O0 (ow F.K F.mg p xs' :: O)) (hp : PlainIx y := by exact fun _ _ => rfl) (hK : X.K = F.K := by rfl) :
    PE X (.Subscript x y pos) (tE true F L p xs O (ma.bind fun u => (mb u.2).bind fun w => (idx (Lk.its u.1) w.1).bind fun z => .ok (z, w.2))) := ne2s (fun h1 h2 => pe_ix (ix_or ix_list ix_tup) h1 h2 hp) hx hy (fun _ => rr_idx hK) hO
/-! ### displays -/
def tEL (F : Fr) (L : List (Option Asr)) (p : Addr) (xs : ι) (O : List Own) (m : Res (List α × ι)) : TA := fun σ H Q =>
  G F L (ow F.K F.mg p xs :: O) σ H ∧ Out F m (fun r => ∀ vs H', G F L (ow F.K F.mg p r.2 :: O) σ H' → KeepBut p H H' → Reps F.K F.mg (rg F (ow F.K F.mg p r.2 :: O) H') vs r.1 → Q vs H') (XPS F)
theorem el_p {es : List Expr} {m : Res (List α)} (hO : List.Sublist F.O0 (ow F.K F.mg p xs :: O)) (h : PA X es (tL true F L (ow F.K F.mg p xs :: O) m)) : PA X es (tEL F L p xs O (m.bind fun a => .ok (a, xs))) := pa_imp h fun σ H Q ⟨g, q⟩ => by
  rw [out_bind] at q
  exact ⟨g, q.mono (fun a k vs H' g' s r => k vs H' g' (.of s) r) fun H' ⟨a, _⟩ => a.go.sub hO⟩
theorem el_cons {e : Expr} {es : List Expr} {ma : Res (α × ι)} {mr : ι → Res (List α × ι)} (he : PE X e (tE true F L p xs O ma)) (hr : ∀ xs', PA X es (tEL F L p xs' O (mr xs'))) (hs : starEach (e :: es) X.env = (false, eval e X.env) :: starEach es X.env := by rfl) :
    PA X (e :: es) (tEL F L p xs O (ma.bind fun u => (mr u.2).bind fun w => .ok (u.1 :: w.1, w.2))) := pa_imp (pa_cons he (pa_ex hr) hs) fun σ H Q ⟨g, q⟩ => by
  rw [out_bind] at q
  refine ⟨g, q.mono (fun u qx v1 H1 g1 s1 r1 => ?_) fun _ z => z⟩
  rw [out_bind] at qx
  refine ⟨u.2, g1, qx.mono (fun w qy v2 H2 g2 s2 r2 => ?_) fun _ z => z⟩
  exact qy _ H2 g2 (s1.trans s2) (.cons (Rep.mono (kb_rg s2) r1) r2)
theorem e_lst {es : List Expr} {m : Res (List α × ι)} {pos : Pos} (h : PA X es (tEL F L p xs O m)) : PE X (.List es pos) (tE true F L p xs O (m.bind fun r => need (r.1.length ≤ sizeLine) (.ok (r.1, r.2)))) := pe_imp (pe_lst h) fun σ H Q ⟨g, q⟩ => by
  rw [out_bind] at q
  refine ⟨g, q.mono (fun r qx vs H1 g1 s1 r1 => ?_) fun _ z => z⟩
  rw [out_need] at qx
  refine ⟨by rw [r1.length]; exact qx.1, fun p' hp => qx.2 _ _ (g1.grow (same_upd hp)) (s1.trans (.of (same_upd hp))) ?_⟩
  exact ⟨p', vs, rfl, rgn_new (b := true) g1 (same_upd hp) hp upd_same, r1.mono (rgn_grow (b := true) (same_upd hp))⟩
/-! ### walks -/
def tIE (F : Fr) (L : List (Option Asr)) (p : Addr) (xs : ι) (O : List Own) (m : Res (List α × ι)) : TI := fun σ H R =>
  G F L (ow F.K F.mg p xs :: O) σ H ∧ Out F m (fun r => ∀ J H' (S : Src F.K F.mg J r.1), G F L (ow F.K F.mg p r.2 :: O) σ H' → KeepBut p H H' → S.src (rg F (ow F.K F.mg p r.2 :: O) H') → R J H') (XPS F)
theorem i_lkE [Lk s α] {tg e : Expr} {m : Res (s × ι)} (h : PE X e (tE true F L p xs O m)) (hK : X.K = F.K := by rfl) : PI X tg e (tIE F L p xs O (m.bind fun r => .ok (Lk.its r.1, r.2))) := pi_imp (pi_seq h) fun σ H R ⟨g, q⟩ => by
  rw [out_bind] at q
  refine ⟨g, q.mono (fun x k v H1 g1 s1 r1 => ?_) fun _ z => z⟩
  obtain ⟨p, vs, h1, h2, h3⟩ := Lk.get r1
  refine ⟨p, vs, h1, ?_⟩
  rw [hK]
  rcases h2 with h2 | h2
  · exact .inl ⟨less_same.seq h2, k _ H1 (srcL h3.length) g1 s1 ⟨h2, h3⟩⟩
  · exact .inr ⟨same_t less_same h2, k _ H1 (srcT h3.length) g1 s1 ⟨h2, h3⟩⟩
theorem i_range1E {tg e : Expr} {b : Bool} {m : Res (Int × ι)} {p1 pos : Pos} (h : PE X e (tE b F L p xs O m)) (hm : X.mg "range" = none) (hg : Gl X "range" := by rfl) (h1 : starEach [e] X.env = (false, eval e X.env) :: starEach [] X.env := by rfl) (hs : starEach [e] X.env = [(false, eval e X.env)] := by rfl) :
    PI X tg (.Call (.Name "range" p1) [e] [] pos) (tIE F L p xs O (m.bind fun r => need (Rg62 r.1) (.ok (irange 0 r.1, r.2)))) := pi_imp (pi_range1 hg hm (pa_cons h pa_nil h1) hs) fun σ H R ⟨g, q⟩ => by
  rw [out_bind] at q
  refine ⟨g, q.mono (fun n k v H1 g1 s1 r1 => ?_) fun _ z => z⟩
  rw [out_need] at k
  obtain ⟨n, xs1⟩ := n
  have r1' : v = V.int n := r1
  subst r1'
  refine ⟨n, rfl, k.1.1, k.1.2, ?_⟩
  have e : (n - 0).toNat = n.toNat := by rw [Int.sub_zero]
  have kk := k.2 (Itr 0 (n - 0).toNat) H1 srcR g1 s1 trivial
  rw [e] at kk
  exact kk
theorem s_forE {B : Type} {tg iter : Expr} {g : TG} {vs : List Nat} {bd : α → List (Option Asr) → List (Option Asr)} {m : Res (List α × ι)} {f : α → B → Res B} {body : List Stmt} {pos : Pos} {L' : B → List (Option Asr)} {O' : B → List Own} {b0 : ι → B} (sp : ∀ xs', Sp3 L' O' (b0 xs'))
    (hp : PassesOwn (model X.prog X.w) X.A X.env X.xe) (hc : X.calm = true) (hi : PI X tg iter (tIE F L p xs O m)) (ht : Tg X F.K F.mg tg g vs bd) (hO : ∀ xs' : ι, List.Sublist F.O0 (ow F.K F.mg p xs' :: O)) (hw : ∀ xs' : ι, wk L (L' (b0 xs'))) (ho : ∀ xs' : ι, List.Sublist (O' (b0 xs')) (ow F.K F.mg p xs' :: O))
    (hb : ∀ z a b, PSs X body (tN (F.add z) (bd a (L' b)) (O' b) (f a b) L' O')) (hs : ∀ x, foldedSetIterable iter X.env x = pure x := by intro _; rfl) : PS X (.For tg iter body [] pos) (tN F L (ow F.K F.mg p xs :: O) (m.bind fun r => foldR f r.1 (b0 r.2)) L' O') := by
  have hb' : PSs X body (fun D σ H => ∃ z a b, tN (F.add z) (bd a (L' b)) (O' b) (f a b) L' O' D σ H) := pss_ex fun z => pss_ex fun a => pss_ex fun b => hb z a b
  have hg : PG X tg g := ht.pg
  refine ps_imp (ps_for hp hc hi hg hb' hs) fun D σ H ⟨g0, q⟩ => ?_
  rw [out_bind] at q
  refine ⟨g0, q.mono (fun r k J H1 S g1 s1 hS => ?_) fun _ z => z⟩
  obtain ⟨as, xs1⟩ := r
  have zf : ∃ z : Fact, z = ⟨S.src, fun e h => S.mono e h⟩ := ⟨_, rfl⟩
  obtain ⟨z, hz⟩ := zf
  refine for_it S.walk (g := g) (tb := fun D σ H => ∃ z a b, tN (F.add z) (bd a (L' b)) (O' b) (f a b) L' O' D σ H) (D := D) (σ := σ) (H := H1) (fun i σ H => ∃ b, G (F.add z) (L' b) (O' b) σ H ∧ Out F (foldR f (as.drop i) b) (fun b => ∀ σ' H', G F (L' b) (O' b) σ' H' → D.nx σ' H') (XPS F)) ⟨b0 xs1, ?_, k⟩ ?_ ?_ ?_
  · have g2 := g1.to (hw xs1) (ho xs1)
    refine ⟨g2.slots, g2.go.add z ?_⟩
    subst hz
    exact S.mono (rg_sub (ho xs1)) hS
  · rintro i σ H _ ⟨b, g2, _⟩
    have h := g2.go.fact
    subst hz
    exact S.mono less_same h
  · rintro i x σ H H' hi ⟨b, g2, q2⟩ y
    have ha : as[i]? = some as[i] := List.getElem?_eq_getElem hi
    rw [List.drop_eq_getElem_cons hi] at q2
    rw [show foldR f (as[i] :: List.drop (i + 1) as) b = (f as[i] b).bind fun b => foldR f (List.drop (i + 1) as) b from rfl, out_bind] at q2
    obtain ⟨s2, yy⟩ := S.ylds i H x H' y
    have hsrc : S.src (rg F (O' b) H) := by
      have h := g2.go.fact
      subst hz
      exact h
    have r2 : rp (F.add z) (rg F (O' b) H') x as[i] := yy _ (fun a ha z => g2.go.out z ha) hsrc _ ha
    have g3 := g2.grow s2
    refine ht.ok x as[i] σ H' (rg F (O' b) H') (L' b) _ less_same r2 g3.slots fun σ2 _ hs2 => ?_
    exact ⟨z, as[i], b, ⟨hs2, g3.go⟩, out_add.mpr (q2.mono (fun b' kb σ' H'' g' => ⟨b', g', kb⟩) fun H'' (x : GO (F.add z) F.O0 H'') => x.unadd)⟩
  · rintro σ H ⟨b, g2, q2⟩
    rw [List.drop_length] at q2
    exact q2 σ H ⟨g2.slots, g2.go.unadd⟩
theorem s_forME {B D' : Type} {tg iter : Expr} {g : TG} {vs : List Nat} {bd : α → List (Option Asr) → List (Option Asr)} {m : Res (List α × ι)} {f : α → B → Res (Sum B D')} {body : List Stmt} {pos : Pos} {Ret : D' → V → Hp → Prop} {L' : B → List (Option Asr)} {O' : B → List Own} {b0 : ι → B} (sp : ∀ xs', Sp3 L' O' (b0 xs'))
    (hp : PassesOwn (model X.prog X.w) X.A X.env X.xe) (hc : X.calm = true) (hi : PI X tg iter (tIE F L p xs O m)) (ht : Tg X F.K F.mg tg g vs bd) (hO : ∀ xs' : ι, List.Sublist F.O0 (ow F.K F.mg p xs' :: O)) (hw : ∀ xs' : ι, wk L (L' (b0 xs'))) (ho : ∀ xs' : ι, List.Sublist (O' (b0 xs')) (ow F.K F.mg p xs' :: O))
    (hb : ∀ z a b, PSs X body (tM (F.add z) (bd a (L' b)) (O' b) (f a b) L' O' Ret)) (hs : ∀ x, foldedSetIterable iter X.env x = pure x := by intro _; rfl) : PS X (.For tg iter body [] pos) (tM F L (ow F.K F.mg p xs :: O) (m.bind fun r => foldM f r.1 (b0 r.2)) L' O' Ret) := by
  have hb' : PSs X body (fun D σ H => ∃ z a b, tM (F.add z) (bd a (L' b)) (O' b) (f a b) L' O' Ret D σ H) := pss_ex fun z => pss_ex fun a => pss_ex fun b => hb z a b
  have hg : PG X tg g := ht.pg
  refine ps_imp (ps_for hp hc hi hg hb' hs) fun D σ H ⟨g0, q⟩ => ?_
  rw [out_bind] at q
  refine ⟨g0, q.mono (fun r k J H1 S g1 s1 hS => ?_) fun _ z => z⟩
  obtain ⟨as, xs1⟩ := r
  have zf : ∃ z : Fact, z = ⟨S.src, fun e h => S.mono e h⟩ := ⟨_, rfl⟩
  obtain ⟨z, hz⟩ := zf
  refine for_it S.walk (g := g) (tb := fun D σ H => ∃ z a b, tM (F.add z) (bd a (L' b)) (O' b) (f a b) L' O' Ret D σ H) (D := D) (σ := σ) (H := H1) (fun i σ H => ∃ b, G (F.add z) (L' b) (O' b) σ H ∧ Out F (foldM f (as.drop i) b) (fun r => match r with
    | .inl b => ∀ σ' H', G F (L' b) (O' b) σ' H' → D.nx σ' H'
    | .inr d => ∀ v H', Ret d v H' → D.rt v H') (XPS F)) ⟨b0 xs1, ?_, k⟩ ?_ ?_ ?_
  · have g2 := g1.to (hw xs1) (ho xs1)
    refine ⟨g2.slots, g2.go.add z ?_⟩
    subst hz
    exact S.mono (rg_sub (ho xs1)) hS
  · rintro i σ H _ ⟨b, g2, _⟩
    have h := g2.go.fact
    subst hz
    exact S.mono less_same h
  · rintro i x σ H H' hi ⟨b, g2, q2⟩ y
    have ha : as[i]? = some as[i] := List.getElem?_eq_getElem hi
    rw [List.drop_eq_getElem_cons hi] at q2
    rw [show foldM f (as[i] :: List.drop (i + 1) as) b = (f as[i] b).bind fun r => match r with
      | .inl b => foldM f (List.drop (i + 1) as) b
      | .inr d => .ok (.inr d) from rfl, out_bind] at q2
    obtain ⟨s2, yy⟩ := S.ylds i H x H' y
    have hsrc : S.src (rg F (O' b) H) := by
      have h := g2.go.fact
      subst hz
      exact h
    have r2 : rp (F.add z) (rg F (O' b) H') x as[i] := yy _ (fun a ha z => g2.go.out z ha) hsrc _ ha
    have g3 := g2.grow s2
    refine ht.ok x as[i] σ H' (rg F (O' b) H') (L' b) _ less_same r2 g3.slots fun σ2 _ hs2 => ?_
    refine ⟨z, as[i], b, ⟨hs2, g3.go⟩, out_add.mpr (q2.mono (fun r kb => ?_) fun H'' (x : GO (F.add z) F.O0 H'') => x.unadd)⟩
    cases r with
    | inl b' => exact fun σ' H'' g' => ⟨b', g', kb⟩
    | inr d => exact fun v H'' hr => kb v H'' hr
  · rintro σ H ⟨b, g2, q2⟩
    rw [List.drop_length] at q2
    exact q2 σ H ⟨g2.slots, g2.go.unadd⟩
end
end NF

set_option Elab.async false
set_option linter.all false
set_option maxRecDepth 100000
set_option maxHeartbeats 1000000
/-! Nf19: a try whose body gives a new list; a comprehension of two clauses. -/
namespace NF
open PySem PySem.Spec PyProof.Rows L2
open Data (toD)
/-- goes on with a new owned object, or hands back -/
def tMp {β δ : Type} (F : Fr) (L : List (Option Asr)) (O : List Own) (m : Res (Sum β δ)) (L' : Addr → β → List (Option Asr)) (O' : Addr → β → List Own) (Ret : δ → V → Hp → Prop) : TS := fun D σ H =>
  G F L O σ H ∧ Out F m (fun r => match r with
    | .inl b => ∀ p σ' H', G F (L' p b) (O' p b) σ' H' → D.nx σ' H'
    | .inr d => ∀ v H', Ret d v H' → D.rt v H') (XPS F)
section
variable {X : Cx} {F : Fr} {L Lh : List (Option Asr)} {O : List Own} {B D' : Type} {Ret : D' → V → Hp → Prop} {L' : Addr → B → List (Option Asr)} {O' : Addr → B → List Own}
theorem mp_own {st : Stmt} {m1 : Res B} (h : PS X st (tNp F L O m1 L' O')) : PSs X [st] (tMp F L O (m1.bind fun b => .ok (.inl b)) L' O' Ret) := pss_one (ps_imp h fun D σ H ⟨g, q⟩ => by
  rw [out_bind] at q
  exact ⟨g, q⟩)
theorem mp_T {m : Res D'} {st : List Stmt} (h : PSs X st (tT F L O m Ret)) : PSs X st (tMp F L O (m.bind fun d => .ok (.inr d)) L' O' Ret) := pss_imp h fun D σ H ⟨g, q⟩ => by
  rw [out_bind] at q
  exact ⟨g, q⟩
theorem b_Mp {st : Stmt} {rest : List Stmt} {m1 : Res (Sum B D')} {m2 : B → Res D'} (h1 : PS X st (tMp F L O m1 L' O' Ret)) (h2 : ∀ b p, PSs X rest (tT F (L' p b) (O' p b) (m2 b) Ret)) :
    PSs X (st :: rest) (tT F L O (goOn m1 m2) Ret) := pss_imp (pss_cons h1 (pss_ex fun b => pss_ex (h2 b))) fun D σ H ⟨g, q⟩ => by
  unfold goOn at q
  rw [out_bind] at q
  refine ⟨g, q.mono (fun r k => ?_) fun _ z => z⟩
  cases r with
  | inl b => exact fun p σ' H' g' => ⟨b, p, g', k⟩
  | inr d => exact k
variable {x n : Str} {C : Addr} {body suite : List Stmt} {b₀ : Stmt} {np pos pos' : Pos}
theorem s_tryO {W0 : WX} {mb : Res (Sum B D')} {mh : List (Str × PyData) → Res (Sum B D')} (i : Nat) (hm : X.mg x = some (.ref C)) (hex : PySem.W.exmOne X.K (.ref C) (.ref C) = some true) (tk : L2N.Takes X W0) (hN : X.N.Nodup) (hno : NoXd O) (hO : List.Sublist F.O0 O)
    (hLi : ∀ p b, (L' p b).set i none = L' p b)
    (hb : ∀ (E' : XK) (pn : List (Addr × Obj)) (xe : Value → Shared → Prop), TkX (X.tr pn xe) (Ft F E' O) Lh O → PSs (X.tr pn xe) body (tMp (Ft F E' O) L O mb L' O' Ret))
    (hh : ∀ (a : Addr) (oe : Obj) (d : Option Addr) (pn : List (Addr × Obj)) (fs : List (Str × PyData)), L2N.Zn (.ref C) d oe → (∃ vs, oe.data = .fields vs) → PSs (X.suite a ((a, oe) :: pn)) (b₀ :: suite) (tMp (F.add (xdF d fs)) (Lh.set i (rf a)) O (mh fs) L' O' Ret))
    (hi : X.N[i]? = some n := by rfl) (hln : X.env.kindOf n = some .local := by rfl) (hg : Gl X x := by rfl) (hdb : (x == ("__debug__" : Str)) = false := by decide) (hs : X.stack = X.env :: X.outer := by rfl) (hf : X.env.frame = some X.env.locals := by rfl) (hK : X.K = F.K := by rfl) (hM : X.mg = F.mg := by rfl) :
    PS X (.Try body [.ExceptHandler (some (.Name x np)) (some n) (b₀ :: suite) pos'] [] [] pos) (tMp F L O (tryR x mb mh) L' O' Ret) := by
  have hc : Names X x (.ref C) := ⟨hg, hdb, .inl hm⟩
  refine ps_imp (L2N.ps_try_as (tb := fun W D σ H => tMp (Ft F (fun cls d H' => ∀ σ', G F Lh O σ' H' → W cls d σ' H') O) L O mb L' O' Ret D σ H)
    (ts := fun a cls d D σ H => cls = .ref C ∧ ∃ fs, tMp (F.add (xdF d fs)) (Lh.set i (rf a)) O (mh fs) L' O' Ret D σ H) (i := i) hs hf hN hi hln hc tk
    (fun W pn xe tkW _ => hb _ pn xe ⟨W, tkW, fun c d σ H e g => e σ (g_tf g)⟩)
    (fun a oe cls d pn hz hd => pss_fact fun e => pss_ex fun fs => by
      subst e
      exact hh a oe d pn fs hz hd)) fun D σ H ⟨g, q⟩ => ?_
  refine ⟨g_ft g, ?_⟩
  cases em : mb with
  | ok r =>
    rw [em] at q
    cases r with
    | inl b => exact fun p σ' H' g' => q p σ' H' (g_tf g')
    | inr d => exact q
  | bad =>
    rw [em] at q
    exact q
  | err c fs =>
    rw [em] at q
    unfold tryR at q
    by_cases hcx : c = x
    · subst hcx
      simp only [if_true] at q
      rw [out_need] at q
      obtain ⟨hfl, q⟩ := q
      intro C' d H' h1 h2 h4 σ' gh
      have eC : C' = C := by
        have z : F.mg c = some (.ref C') := h1
        rw [← hM, hm] at z
        cases z
        rfl
      subst eC
      refine ⟨true, hex, fun _ a na => ⟨rfl, fs, ⟨paired_set (x := rf a) (y := some (V.ref a)) rfl i gh.slots, gh.go.add _ ?_⟩, ?_⟩, fun z => by cases z⟩
      · cases d with
        | none => exact h2
        | some d =>
          obtain ⟨h5, vs, h6, h7⟩ := h2
          have e := xd_flat h7 hfl
          subst e
          show less H' (addrs O ++ F.A) d = _
          rw [less_out]
          · exact h6
          · intro z
            rcases List.mem_append.mp z with z | z
            · obtain ⟨w, hw, e⟩ := List.mem_map.mp z
              obtain ⟨o, h8, h9⟩ := gh.go.objs w hw
              rw [e, h6] at h8
              cases h8
              exact hno w hw _ _ h9
            · exact gh.go.hid d z h5
      · rw [out_add]
        refine q.mono (fun r k => ?_) fun H'' (x : GO (F.add _) F.O0 H'') => x.unadd
        cases r with
        | inl b => exact fun p σ2 H2 g2 => k _ _ _ ⟨by have z := paired_set (x := (none : Option Asr)) (y := (none : Option V)) (R := SlotOk (rg F (O' p b) H2)) trivial i g2.slots; rwa [hLi] at z, g2.go.unadd⟩
        | inr d => exact k
    · simp only [if_neg hcx] at q
      exact q.elim
end
/-! ### [e for a in xs for b in ys] -/
def comp2R {α β γ : Type} (p : α → Res Bool) (it : α → Res (List β)) (p1 : α → β → Res Bool) (f : α → β → Res γ) : Nat → List α → Res (List γ)
  | _, [] => .ok []
  | n, a :: as => (p a).bind fun c => if c then (it a).bind fun bs => need (n + bs.length ≤ sizeLine) ((filtR (p1 a) (f a) bs).bind fun ys => (comp2R p it p1 f (n + bs.length) as).bind fun zs => .ok (ys ++ zs)) else comp2R p it p1 f n as
section
variable {J : It} {n : Nat} {G0 : Hp → Prop} {Y : Nat → Hp → V → Hp → Prop}
theorem lc_out (w : Walk J n G0 Y) {g : TG} {vs : List Nat} {σ : L2.St} {H0 : Hp} {Qd : Hp → Prop} (Body : L2.St → Hp → (Hp → Prop) → Prop) (Pv : Nat → Hp → Prop) (h0 : Pv 0 H0) (hG : ∀ j H, j ≤ n → Pv j H → G0 H)
    (hs : ∀ j x H H', j < n → Pv j H → Y j H x H' → g x (wipe σ vs) H' fun σ3 H5 => wipe σ3 vs = wipe σ vs ∧ Body σ3 H5 (Pv (j + 1))) (hd : ∀ H, Pv n H → Qd H) :
    ∃ W1 : Nat → Nat → Hp → Prop, (∃ m, W1 0 m H0) ∧ ∀ j k H, W1 j k H →
      (J.stop j H ∧ Qd H) ∨ (J.go j H ∧ ∃ Nx1 : Hp → Prop, (∀ H', Nx1 H' → ∃ k', k' < k ∧ W1 (j + 1) k' H') ∧ ∀ x H', J.yld j H x H' → g x (wipe σ vs) H' fun σ3 H5 => wipe σ3 vs = wipe σ vs ∧ Body σ3 H5 Nx1) := by
  refine ⟨fun j k H => k = n - j ∧ j ≤ n ∧ Pv j H, ⟨n, by simp, Nat.zero_le _, h0⟩, ?_⟩
  rintro j k H ⟨rfl, hj, p⟩
  have q := hG j H hj p
  by_cases hlt : j < n
  · exact .inr ⟨w.goes j H hlt q, Pv (j + 1), fun H' p' => ⟨n - (j + 1), by omega, rfl, hlt, p'⟩, fun x H' y => hs j x H H' hlt p (w.yields j H x H' hlt q y)⟩
  · have e : j = n := by omega
    subst e
    exact .inl ⟨w.stops H q, hd H p⟩
end
section
variable {X : Cx} {F : Fr} {L : List (Option Asr)} {O : List Own} {α β γ s : Type} [Rep α] [Rep β] [Rep γ] [Rep s]
theorem rsame {D : Addr} {ds ds' : List γ} {H4 H : Hp} (h : Same (less H4 [D]) (less H [D])) : Same (rg F (ow F.K F.mg D ds :: O) H4) (rg F (ow F.K F.mg D ds' :: O) H) := fun a o z => by
  unfold rg at z ⊢
  by_cases hb : a ∈ addrs (ow F.K F.mg D ds :: O) ++ F.A
  · rw [less_in hb] at z; cases z
  · rw [less_out hb] at z
    rw [less_out (show a ∉ addrs (ow F.K F.mg D ds' :: O) ++ F.A from hb)]
    have hne : a ∉ [D] := fun y => hb (by rw [List.mem_singleton.mp y]; exact List.mem_append_left _ List.mem_cons_self)
    have z1 := h a o (by rw [less_out hne]; exact z)
    rw [less_out hne] at z1
    exact z1
theorem comp2_core {bO : Bool} {g g1 : TG} {vs vs1 : List Nat} {bd : α → List (Option Asr) → List (Option Asr)} {bd1 : β → List (Option Asr) → List (Option Asr)} {m : Res (List α)} {p : α → Res Bool} {it : α → Res (List β)} {p1 : α → β → Res Bool} {f : α → β → Res γ} {wi wi1 : TI} (tt tt1 : TT) (te : TE)
    (hi : wi = tI bO F L O m) (hfl : bO = true ∨ FlatP α) (ht : TgOk F.K F.mg g vs bd) (htt : tt = fun σ H Q => ∃ a D ds, tB' F.nox (bd a (wipeL L vs)) (ow (s := List γ) F.K F.mg D ds :: O) (p a) σ H Q)
    (hi1 : wi1 = fun σ H R => ∃ a D ds, tI true F.nox (bd a (wipeL L vs)) (ow (s := List γ) F.K F.mg D ds :: O) (it a) σ H R) (ht1 : TgOk F.K F.mg g1 vs1 bd1)
    (htt1 : tt1 = fun σ H Q => ∃ a b D ds, tB' F.nox (bd1 b (wipeL (bd a (wipeL L vs)) vs1)) (ow (s := List γ) F.K F.mg D ds :: O) (p1 a b) σ H Q)
    (hte : te = fun σ H Q => ∃ a b D ds, tP true F.nox (bd1 b (wipeL (bd a (wipeL L vs)) vs1)) (ow (s := List γ) F.K F.mg D ds :: O) (f a b) σ H Q) (σ : L2.St) (H : Hp) (Q : VK)
    (h : tF true F L O (m.bind fun as => comp2R (fun a => (p a).quiet) (fun a => (it a).quiet) (fun a b => (p1 a b).quiet) (fun a b => (f a b).quiet) 0 as) σ H Q) : tLc2 wi g tt wi1 g1 tt1 te vs vs1 σ H Q := by
  subst hi
  obtain ⟨g0, q⟩ := h
  rw [out_bind] at q
  refine ⟨g0, q.mono (fun as k J H1 S gg s1 hS => ?_) fun _ z => z⟩
  intro D hD
  refine lc_out S.walk (g := g) (vs := vs) (σ := σ) (H0 := upd H1 D (.lst [])) (Qd := fun H => Q (.ref D) H)
    (fun σ2 H2 Nx => tt σ2 H2 fun b H3 =>
      if b = true then wi1 σ2 H3 fun J1 H4 => ∃ W1 : Nat → Nat → Hp → Prop, (∃ m, W1 0 m H4) ∧ ∀ j k H, W1 j k H →
        (J1.stop j H ∧ Nx H) ∨ (J1.go j H ∧ ∃ Nx1 : Hp → Prop, (∀ H', Nx1 H' → ∃ k', k' < k ∧ W1 (j + 1) k' H') ∧ ∀ x H', J1.yld j H x H' → g1 x (wipe σ2 vs1) H' fun σ3 H5 => wipe σ3 vs1 = wipe σ2 vs1 ∧ tt1 σ3 H5 fun b H6 =>
          if b = true then te σ3 H6 fun y H7 => ∃ acc, H7 D = some (.lst acc) ∧ acc.length < sizeLine ∧ Nx1 (upd H7 D (.lst (acc ++ [y]))) else Nx1 H6)
      else Nx H3)
    (fun i H => ∃ (n : Nat) (ds : List γ) (vd : List V), H D = some (.lst vd) ∧ ds.length ≤ n ∧ Reps F.K F.mg (less (rg F O H) [D]) vd ds ∧ Same H1 (less H [D]) ∧ Out F (comp2R (fun a => (p a).quiet) (fun a => (it a).quiet) (fun a b => (p1 a b).quiet) (fun a b => (f a b).quiet) n (as.drop i)) (fun rest => KF γ true F L O σ H1 Q (ds ++ rest)) (fun _ => False))
    ⟨0, [], [], upd_same, Nat.le_refl _, .nil, ?_, ?_⟩ ?_ ?_ ?_
  · intro a o ha
    have hne : a ≠ D := ne_of_none ha hD
    rw [less_out (fun z => hne (List.mem_singleton.mp z)), upd_ne hne]
    exact ha
  · exact k.mono (fun ds kk => (KF.mono s1 kk)) fun _ z => z.elim
  · rintro i H _ ⟨n, ds, vd, h1, _, h2, h3, _⟩
    exact S.mono (h3.trans less_same) (S.mono rgn_sub hS)
  · rintro i x H H' hi ⟨n, ds, vd, h1, hl, h2, h3, q2⟩ y
    have ha : as[i]? = some as[i] := List.getElem?_eq_getElem hi
    have sH : Same H1 H := h3.trans less_same
    have gH : G F L O σ H := gg.grow sH
    have go2 : GO F (ow F.K F.mg D ds :: O) H := go_new gg gH.go sH hD h1 h2
    obtain ⟨s2, yy⟩ := S.ylds i H x H' y
    have g2 : G F L (ow F.K F.mg D ds :: O) σ H := ⟨L2.Paired.mapP gg.slots fun _ _ z => z.mono (rg_new rfl sH hD), go2⟩
    have g3 : G F L (ow F.K F.mg D ds :: O) σ H' := g2.grow s2
    have rx : rp F (rg F (ow F.K F.mg D ds :: O) H') x as[i] := by
      rcases hfl with e | e
      · subst e
        exact yy _ (fun a ha z => go2.out z ha) (S.mono (rg_new rfl sH hD) hS) _ ha
      · exact e (yy [] (fun _ z => (List.not_mem_nil z).elim) (S.mono (sH.trans (fun a o z => by rw [less_out List.not_mem_nil]; exact z)) (S.mono rgn_sub hS)) _ ha)
    have gn : G F.nox (wipeL L vs) (ow F.K F.mg D ds :: O) (wipe σ vs) H' := ⟨wipe_ok g3.slots vs, g3.go.nox⟩
    refine ht x as[i] (wipe σ vs) H' (rg F (ow F.K F.mg D ds :: O) H') (wipeL L vs) _ less_same rx gn.slots fun σ2 e2 hs2 => ?_
    refine ⟨e2.trans (wipe_wipe σ vs), ?_⟩
    rw [List.drop_eq_getElem_cons hi] at q2
    rw [comp2R, out_bind] at q2
    have gb : G F.nox (bd as[i] (wipeL L vs)) (ow F.K F.mg D ds :: O) σ2 H' := ⟨hs2, gn.go⟩
    have lss : ∀ {H'' : Hp}, Same H' H'' → Same H1 (less H'' [D]) := fun {H''} e a o z => by
      have z1 := h3 a o z
      by_cases hb : a ∈ [D]
      · rw [less_in hb] at z1; cases z1
      · rw [less_out hb] at z1 ⊢
        exact e _ _ (s2 _ _ z1)
    have regD : ∀ {H'' : Hp} {ds' : List γ}, Same (rg F (ow F.K F.mg D ds' :: O) H'') (less (rg F O H'') [D]) := fun {H'' ds'} a o z => by
      unfold rg at z ⊢
      by_cases hb : a ∈ addrs (ow F.K F.mg D ds' :: O) ++ F.A
      · rw [less_in hb] at z; cases z
      · rw [less_out hb] at z
        rw [less_out (fun y => hb (by rw [List.mem_singleton.mp y]; exact List.mem_append_left _ List.mem_cons_self)), less_out (A := addrs O ++ F.A) (fun y => hb (List.mem_cons_of_mem _ y))]
        exact z
    have keepR : ∀ {H'' : Hp}, Same H' H'' → Reps F.K F.mg (less (rg F O H'') [D]) vd ds := fun {H''} e => h2.mono (less_mono fun a o _ z => rg_grow (s2.trans e) a o z)
    subst htt
    refine ⟨as[i], D, ds, gb, out_quiet (q2.mono (fun c qc H3 g4 s3 => ?_) fun _ z => z)⟩
    cases c with
    | false =>
      refine ⟨n, ds, vd, ?_, hl, keepR s3, lss s3, qc⟩
      exact s3 _ _ (s2 _ _ h1)
    | true =>
      simp only [if_true] at qc ⊢
      rw [out_bind] at qc
      subst hi1
      refine ⟨as[i], D, ds, g4, out_quiet (qc.mono (fun bs qb J1 H4 S1 g5 s4 hS1 => ?_) fun _ z => z)⟩
      rw [out_need] at qb
      obtain ⟨hsz, qb⟩ := qb
      rw [out_bind] at qb
      have s34 : Same H' H4 := s3.trans s4
      have e4 : H4 D = some (.lst vd) := s34 _ _ (s2 _ _ h1)
      refine lc_out S1.walk (g := g1) (vs := vs1) (σ := σ2) (H0 := H4)
        (fun σ3 H5 Nx1 => tt1 σ3 H5 fun b H6 =>
          if b = true then te σ3 H6 fun y H7 => ∃ acc, H7 D = some (.lst acc) ∧ acc.length < sizeLine ∧ Nx1 (upd H7 D (.lst (acc ++ [y]))) else Nx1 H6)
        (fun j H => ∃ (ds' : List γ) (vd' : List V), H D = some (.lst vd') ∧ ds'.length + (bs.length - j) ≤ n + bs.length ∧ Reps F.K F.mg (less (rg F O H) [D]) vd' ds' ∧ Same (less H4 [D]) (less H [D]) ∧
          Out F (filtR (fun b => (p1 as[i] b).quiet) (fun b => (f as[i] b).quiet) (bs.drop j)) (fun ys => Out F (comp2R (fun a => (p a).quiet) (fun a => (it a).quiet) (fun a b => (p1 a b).quiet) (fun a b => (f a b).quiet) (n + bs.length) (as.drop (i + 1))) (fun zs => KF γ true F L O σ H1 Q (ds' ++ (ys ++ zs))) (fun _ => False)) (fun _ => False))
        ⟨ds, vd, e4, by omega, keepR s34, Same.refl _, qb.mono (fun ys kk => by rw [out_bind] at kk; exact kk) fun _ z => z⟩ ?_ ?_ ?_
      · rintro j H _ ⟨ds', vd', h1', _, h2', h3', _⟩
        exact S1.mono ((rsame (ds := ds) (ds' := ds') h3').trans less_same) hS1
      · rintro j x' H5 H5' hj ⟨ds', vd', h1', hl', h2', h3', q2'⟩ y'
        have hb : bs[j]? = some bs[j] := List.getElem?_eq_getElem hj
        have sH5 : Same H1 H5 := ((lss s34).trans h3').trans less_same
        have gH5 : G F L O σ H5 := gg.grow sH5
        have go5 : GO F (ow F.K F.mg D ds' :: O) H5 := go_new gg gH5.go sH5 hD h1' h2'
        obtain ⟨s5, yy'⟩ := S1.ylds j H5 x' H5' y'
        have sl5 : Paired (SlotOk (rg F (ow F.K F.mg D ds' :: O) H5')) (bd as[i] (wipeL L vs)) σ2 := L2.Paired.mapP g5.slots fun _ _ z => (z.mono (rsame (ds' := ds') h3')).mono (rg_grow s5)
        have go5' : GO F (ow F.K F.mg D ds' :: O) H5' := go5.grow s5
        have rx' : rp F (rg F (ow F.K F.mg D ds' :: O) H5') x' bs[j] := yy' _ (fun a ha z => go5.out z ha) (S1.mono (rsame (ds := ds) (ds' := ds') h3') hS1) _ hb
        have gn5 : G F.nox (wipeL (bd as[i] (wipeL L vs)) vs1) (ow F.K F.mg D ds' :: O) (wipe σ2 vs1) H5' := ⟨wipe_ok sl5 vs1, go5'.nox⟩
        refine ht1 x' bs[j] (wipe σ2 vs1) H5' (rg F (ow F.K F.mg D ds' :: O) H5') (wipeL (bd as[i] (wipeL L vs)) vs1) _ less_same rx' gn5.slots fun σ3 e3 hs3 => ?_
        refine ⟨e3.trans (wipe_wipe σ2 vs1), ?_⟩
        rw [List.drop_eq_getElem_cons hj] at q2'
        rw [show filtR (fun b => (p1 as[i] b).quiet) (fun b => (f as[i] b).quiet) (bs[j] :: List.drop (j + 1) bs) = ((p1 as[i] bs[j]).quiet).bind fun c => if c then ((f as[i] bs[j]).quiet).bind fun y => (filtR (fun b => (p1 as[i] b).quiet) (fun b => (f as[i] b).quiet) (List.drop (j + 1) bs)).bind fun ys => .ok (y :: ys) else filtR (fun b => (p1 as[i] b).quiet) (fun b => (f as[i] b).quiet) (List.drop (j + 1) bs) from rfl, out_bind] at q2'
        have gb5 : G F.nox (bd1 bs[j] (wipeL (bd as[i] (wipeL L vs)) vs1)) (ow F.K F.mg D ds' :: O) σ3 H5' := ⟨hs3, gn5.go⟩
        have l5 : ∀ {H'' : Hp}, Same H5' H'' → Same (less H4 [D]) (less H'' [D]) := fun {H''} e => h3'.trans (less_mono fun b o _ q => e _ _ (s5 _ _ q))
        have keep5 : ∀ {H'' : Hp}, Same H5' H'' → Reps F.K F.mg (less (rg F O H'') [D]) vd' ds' := fun {H''} e => h2'.mono (less_mono fun a o _ z => rg_grow (s5.trans e) a o z)
        subst htt1
        refine ⟨as[i], bs[j], D, ds', gb5, out_quiet (q2'.mono (fun c qc' H6 g6 s6 => ?_) fun _ z => z)⟩
        cases c with
        | false =>
          refine ⟨ds', vd', s6 _ _ (s5 _ _ h1'), by omega, keep5 s6, l5 s6, qc'⟩
        | true =>
          simp only [if_true] at qc' ⊢
          rw [out_bind] at qc'
          subst hte
          refine ⟨as[i], bs[j], D, ds', g6, out_quiet (qc'.mono (fun y qy v H7 g7 s7 r7 => ?_) fun _ z => z)⟩
          have s67 : Same H5' H7 := s6.trans s7
          have e7 : H7 D = some (.lst vd') := s67 _ _ (s5 _ _ h1')
          have lenv : vd'.length = ds'.length := h2'.length
          refine ⟨vd', e7, by rw [lenv]; omega, ds' ++ [y], vd' ++ [v], upd_same, ?_, ?_, ?_, ?_⟩
          · rw [List.length_append, List.length_singleton]; omega
          · have eqr : ∀ {a o}, less (rg F O H7) [D] a = some o → less (rg F O (upd H7 D (.lst (vd' ++ [v])))) [D] a = some o := fun {a o} z => by
              by_cases hb : a ∈ [D]
              · rw [less_in hb] at z; cases z
              · have hne : a ≠ D := fun y => hb (List.mem_singleton.mpr y)
                rw [less_out hb] at z ⊢
                unfold rg at z ⊢
                by_cases hc : a ∈ addrs O ++ F.A
                · rw [less_in hc] at z; cases z
                · rw [less_out hc] at z ⊢
                  rw [upd_ne hne]
                  exact z
            exact (reps_append (keep5 s67) (.cons (Rep.mono regD r7) .nil)).mono fun a o z => eqr z
          · intro a o z
            have z1 := l5 s67 a o z
            by_cases hb : a ∈ [D]
            · rw [less_in hb] at z1; cases z1
            · rw [less_out hb] at z1 ⊢
              rw [upd_ne (fun y => hb (List.mem_singleton.mpr y))]
              exact z1
          · rw [out_bind] at qy
            exact qy.mono (fun ys kk => Out.mono (show Out F (comp2R (fun a => (p a).quiet) (fun a => (it a).quiet) (fun a b => (p1 a b).quiet) (fun a b => (f a b).quiet) (n + bs.length) (List.drop (i + 1) as)) (fun zs => KF γ true F L O σ H1 Q (ds' ++ (y :: ys ++ zs))) (fun _ => False) from kk) (fun zs kz => by rw [List.append_assoc]; exact kz) fun _ z => z) fun _ z => z
      · rintro H5 ⟨ds', vd', h1', hl', h2', h3', q2'⟩
        rw [List.drop_length] at q2'
        refine ⟨n + bs.length, ds', vd', h1', by omega, h2', (lss s34).trans h3', ?_⟩
        exact Out.mono (F := F) q2' (fun zs kz => kz) fun _ z => z
  · rintro H ⟨n, ds, vd, h1, hl, h2, h3, q2⟩
    rw [List.drop_length] at q2
    have q3 : KF γ true F L O σ H1 Q (ds ++ []) := q2
    rw [List.append_nil] at q3
    exact q3 D vd H (gg.grow (h3.trans less_same)) (h3.trans less_same) hD h1 h2
theorem pi_ex {ι : Type} {tg e : Expr} {t : ι → TI} (h : ∀ b, PI X tg e (t b)) : PI X tg e (fun σ H Q => ∃ b, t b σ H Q) := ⟨fun pins s σ H Q I ⟨b, q⟩ => (h b).run pins s σ H Q I q⟩
/-- [elt for tg in iter if .. for tg1 in iter1 if ..] -/
theorem f_lc2 {tg iter tg1 iter1 elt : Expr} {ifs ifs1 : List Expr} {scope : Scope} {own : List (Str × Nat)} {vs1 : List Nat} {pos : Pos} {b : Bool} {g g1 : TG} {bd : α → List (Option Asr) → List (Option Asr)} {bd1 : β → List (Option Asr) → List (Option Asr)} {m : Res (List α)} {p : α → Res Bool} {it : α → Res (List β)} {p1 : α → β → Res Bool} {f : α → β → Res γ}
    (hc : X.calm = true) (hN : X.N.Nodup) (hi : PI X tg iter (tI b F L O m)) (hfl : b = true ∨ FlatP α) (hb : BlkOk X.N X.env.scope scope own) (hv : ∀ i ∈ vs1, i ∈ own.map (·.2))
    (hok : TgOk F.K F.mg g (own.map (·.2)) bd) (hok1 : TgOk F.K F.mg g1 vs1 bd1) (ht : ∀ (s : Shared) (H : Hp) (C : Addr) (cl : List (Str × Addr)) (fp : List Addr), Tg (X.blk s H scope (compEnvC scope cl C X.env) fp) F.K F.mg tg g (own.map (·.2)) bd)
    (hp : ∀ (s : Shared) (H : Hp) (C : Addr) (cl : List (Str × Addr)) (fp : List Addr) (a : α) (D : Addr) (ds : List γ), PTs (X.blk s H scope (compEnvC scope cl C X.env) fp) ifs (tB' F.nox (bd a (wipeL L (own.map (·.2)))) (ow F.K F.mg D ds :: O) (p a)))
    (hi1 : ∀ (s : Shared) (H : Hp) (C : Addr) (cl : List (Str × Addr)) (fp : List Addr) (a : α) (D : Addr) (ds : List γ), PI (X.blk s H scope (compEnvC scope cl C X.env) fp) tg1 iter1 (tI true F.nox (bd a (wipeL L (own.map (·.2)))) (ow F.K F.mg D ds :: O) (it a)))
    (ht1 : ∀ (s : Shared) (H : Hp) (C : Addr) (cl : List (Str × Addr)) (fp : List Addr), Tg (X.blk s H scope (compEnvC scope cl C X.env) fp) F.K F.mg tg1 g1 vs1 bd1)
    (hp1 : ∀ (s : Shared) (H : Hp) (C : Addr) (cl : List (Str × Addr)) (fp : List Addr) (a : α) (a1 : β) (D : Addr) (ds : List γ), PTs (X.blk s H scope (compEnvC scope cl C X.env) fp) ifs1 (tB' F.nox (bd1 a1 (wipeL (bd a (wipeL L (own.map (·.2)))) vs1)) (ow F.K F.mg D ds :: O) (p1 a a1)))
    (he : ∀ (s : Shared) (H : Hp) (C : Addr) (cl : List (Str × Addr)) (fp : List Addr) (a : α) (a1 : β) (D : Addr) (ds : List γ), PE (X.blk s H scope (compEnvC scope cl C X.env) fp) elt (tP true F.nox (bd1 a1 (wipeL (bd a (wipeL L (own.map (·.2)))) vs1)) (ow F.K F.mg D ds :: O) (f a a1)))
    (hf : ∀ x, foldedSetIterable iter X.env x = pure x := by intro _; rfl) (hf1 : ∀ env x, foldedSetIterable iter1 env x = pure x := by intro _ _; rfl) :
    PE X (.ListComp elt [⟨tg, iter, ifs, 0⟩, ⟨tg1, iter1, ifs1, 0⟩] scope pos) (tF true F L O (m.bind fun as => comp2R (fun a => (p a).quiet) (fun a => (it a).quiet) (fun a b => (p1 a b).quiet) (fun a b => (f a b).quiet) 0 as)) := by
  refine pe_imp (pe_lc2 hc hN hi hb hv (fun s H C cl fp => (ht s H C cl fp).pg) (fun s H C cl fp => pts_ex fun a => pts_ex fun D => pts_ex fun ds => hp s H C cl fp a D ds) (fun s H C cl fp => pi_ex fun a => pi_ex fun D => pi_ex fun ds => hi1 s H C cl fp a D ds) (fun s H C cl fp => (ht1 s H C cl fp).pg)
    (fun s H C cl fp => pts_ex fun a => pts_ex fun a1 => pts_ex fun D => pts_ex fun ds => hp1 s H C cl fp a a1 D ds) (fun s H C cl fp => pe_ex fun a => pe_ex fun a1 => pe_ex fun D => pe_ex fun ds => he s H C cl fp a a1 D ds) hf hf1) fun σ H Q h => ?_
  exact comp2_core _ _ _ rfl hfl hok rfl rfl hok1 rfl rfl σ H Q h
end
end NF

set_option Elab.async false
set_option linter.all false
set_option maxRecDepth 100000
/-! Nf20: small things: targets with more wiped slots, tests that change the list, casts. -/
namespace NF
open PySem PySem.Spec PyProof.Rows L2
open Data (toD)
section
variable {X : Cx} {F : Fr} {L : List (Option Asr)} {p : Addr} {O : List Own} {α β γ ι : Type} [Rep α] [Rep β] [Rep γ] [OwR ι] {xs : ι}
theorem tM_cast {B D' : Type} {st : List Stmt} {L' : B → List (Option Asr)} {O' : B → List Own} {Ret : D' → V → Hp → Prop} {m m' : Res (Sum B D')} (h : PSs X st (tM F L O m L' O' Ret)) (e : m = m') : PSs X st (tM F L O m' L' O' Ret) := e ▸ h
theorem wipe_up {σ σ' : L2.St} {vs vs' : List Nat} (h : wipe σ' vs = wipe σ vs) (hs : ∀ i ∈ vs, i ∈ vs') : wipe σ' vs' = wipe σ vs' := by
  apply List.ext_getElem?
  intro k
  rw [wipe_get, wipe_get]
  have e : (wipe σ' vs)[k]? = (wipe σ vs)[k]? := by rw [h]
  rw [wipe_get, wipe_get] at e
  by_cases h1 : k ∈ vs'
  · rw [if_pos h1, if_pos h1]
    by_cases h2 : k ∈ vs
    · rw [if_pos h2, if_pos h2] at e; exact e
    · rw [if_neg h2, if_neg h2] at e; rw [e]
  · have h2 : k ∉ vs := fun z => h1 (hs k z)
    rw [if_neg h2, if_neg h2] at e
    rw [if_neg h1, if_neg h1]; exact e
theorem TgOk.up {K : Fg} {mg : MG} {g : TG} {vs vs' : List Nat} {bd : α → List (Option Asr) → List (Option Asr)} (h : TgOk K mg g vs bd) (hs : ∀ i ∈ vs, i ∈ vs') : TgOk K mg g vs' bd := fun v a σ H R L Q s r sl k => h v a σ H R L Q s r sl fun σ' e => k σ' (wipe_up e hs)
theorem Tg.up {K : Fg} {mg : MG} {tg : Expr} {g : TG} {vs vs' : List Nat} {bd : α → List (Option Asr) → List (Option Asr)} (h : Tg X K mg tg g vs bd) (hs : ∀ i ∈ vs, i ∈ vs') : Tg X K mg tg g vs' bd := ⟨h.pg, h.ok.up hs⟩
/-- tests that change the list -/
theorem et_not {x : Expr} {pos : Pos} {m : Res (Bool × ι)} (hx : PT X x (tEB F L p xs O m)) : PT X (.UnaryOp .Not x pos) (tEB F L p xs O (m.bind fun u => .ok (!u.1, u.2))) := pt_imp (pt_not hx) fun σ H Q ⟨g, q⟩ => by
  rw [out_bind] at q
  exact ⟨g, q.mono (fun c qc H1 g1 s1 => qc H1 g1 s1) fun _ z => z⟩
theorem et_val {x : Expr} {b : Bool} {m : Res (Bool × ι)} (hx : PE X x (tE b F L p xs O m)) (he : ∀ whole, isTrue x X.env whole = (do let v ← whole; standAt x.pos; holding [v] (truthy v)) := by intro _; rfl) : PT X x (tEB F L p xs O m) := pt_imp (pt_val hx he) fun σ H Q ⟨g, q⟩ =>
  ⟨g, q.mono (fun c qc v1 H1 g1 s1 r1 => ⟨c.1, r1, qc H1 g1 s1⟩) fun _ z => z⟩
theorem ew_p {e : Expr} {m : Res Bool} (hO : List.Sublist F.O0 (ow F.K F.mg p xs :: O)) (h : PW X e (tB' F L (ow F.K F.mg p xs :: O) m)) : PW X e (tEB F L p xs O (m.bind fun a => .ok (a, xs))) := pw_imp h fun σ H Q ⟨g, q⟩ => by
  rw [out_bind] at q
  exact ⟨g, q.mono (fun a k H' g' s => k H' g' (.of s)) fun H' ⟨a, _⟩ => a.go.sub hO⟩
/-- an if whose test changes the list, in a block that goes on or hands back -/
theorem me_if {D' B : Type} {Ret : D' → V → Hp → Prop} {c : Expr} {mc : Res (Bool × ι)} {body rest : List Stmt} {pos : Pos} {L' : B → List (Option Asr)} {O' : B → List Own} {m1 : ι → Res D'} {m2 : ι → Res (Sum B D')} (hc : PT X c (tEB F L p xs O mc)) (hb : ∀ xs', PSs X body (tT F L (ow F.K F.mg p xs' :: O) (m1 xs') Ret)) (hr : ∀ xs', PSs X rest (tM F L (ow F.K F.mg p xs' :: O) (m2 xs') L' O' Ret)) :
    PSs X (.If c body [] pos :: rest) (tM F L (ow F.K F.mg p xs :: O) (mc.bind fun u => if u.1 then ((m1 u.2).bind fun d => .ok (.inr d)) else m2 u.2) L' O' Ret) := pss_imp (pss_cons (ps_if hc (pss_ex hb) pss_nil) (pss_ex hr)) fun D σ H ⟨g, q⟩ => by
  rw [out_bind] at q
  refine ⟨g, q.mono (fun u k H1 g1 s1 => ?_) fun _ z => z⟩
  cases hu : u.1 with
  | true =>
    rw [hu] at k
    simp only [if_true] at k
    rw [out_bind] at k
    exact ⟨u.2, g1, k⟩
  | false => rw [hu] at k; exact ⟨u.2, g1, k⟩
theorem TkX.add {z : Fact} (t : TkX X F L O) : TkX X (F.add z) L O := by
  obtain ⟨W, tk, q⟩ := t
  exact ⟨W, tk, fun c d σ H e g => q c d σ H e ⟨g.slots, g.go.unadd⟩⟩
end
end NF

set_option Elab.async false
set_option linter.all false
set_option maxRecDepth 100000
/-! Nf21: instances of own classes: their fields, read and stored; owned instances; making one; methods. -/
namespace NF
open PySem PySem.Spec PyProof.Rows L2
open Data (toD)
abbrev FA := List (Str × Asr)
def FldsOk (H : Hp) (fl : FA) (vs : List (Str × V)) : Prop := Paired (fun (f : Str × Asr) (w : Str × V) => f.1 = w.1 ∧ f.2.P H w.2) fl vs
theorem FldsOk.mono {H H' : Hp} {fl : FA} {vs : List (Str × V)} (h : FldsOk H fl vs) (e : Same H H') : FldsOk H' fl vs := L2.Paired.mapP h fun f _ q => ⟨q.1, f.2.mono e q.2⟩
theorem FldsOk.get {H : Hp} {f : Str} {A : Asr} : ∀ {fl : FA} {vs : List (Str × V)}, FldsOk H fl vs → fl.lookup f = some A → ∃ w, vs.lookup f = some w ∧ A.P H w
  | [], [], _, e => by cases e
  | (g, B) :: fl, (g', w) :: vs, .cons q t, e => by
    obtain ⟨q1, q2⟩ := q
    have q1' : g = g' := q1
    subst q1'
    by_cases h : f = g
    · subst h
      simp [List.lookup] at e
      subst e
      exact ⟨w, by simp [List.lookup], q2⟩
    · have hb : (f == g) = false := by simpa using h
      simp only [List.lookup, hb] at e ⊢
      exact FldsOk.get t e
theorem FldsOk.miss {H : Hp} {f : Str} : ∀ {fl : FA} {vs : List (Str × V)}, FldsOk H fl vs → fl.lookup f = none → vs.lookup f = none
  | [], [], _, _ => rfl
  | (g, B) :: fl, (g', w) :: vs, .cons q t, e => by
    obtain ⟨q1, q2⟩ := q
    have q1' : g = g' := q1
    subst q1'
    by_cases h : f = g
    · subst h
      simp [List.lookup] at e
    · have hb : (f == g) = false := by simpa using h
      simp only [List.lookup, hb] at e ⊢
      exact FldsOk.miss t e
theorem FldsOk.len {H : Hp} {fl : FA} {vs : List (Str × V)} (h : FldsOk H fl vs) : fl.length = vs.length := PySem.Paired.length h
def putA (f : Str) (A : Asr) : FA → FA
  | [] => [(f, A)]
  | (g, x) :: r => if g = f then (g, A) :: r else (g, x) :: putA f A r
theorem FldsOk.put {H : Hp} {f : Str} {A : Asr} {y : V} (hy : A.P H y) : ∀ {fl : FA} {vs : List (Str × V)}, FldsOk H fl vs → FldsOk H (putA f A fl) (putF f y vs)
  | [], [], _ => .cons ⟨rfl, hy⟩ .nil
  | (g, B) :: fl, (g', w) :: vs, .cons q t => by
    obtain ⟨q1, q2⟩ := q
    have q1' : g = g' := q1
    subst q1'
    unfold putA putF
    by_cases h : g = f
    · rw [if_pos h, if_pos h]
      exact .cons ⟨rfl, hy⟩ t
    · rw [if_neg h, if_neg h]
      exact .cons ⟨rfl, q2⟩ (FldsOk.put hy t)
def va {α : Type} [Rep α] (K : Fg) (mg : MG) (a : α) : Asr := ⟨fun H v => Rep.rep K mg H v a, fun e h => Rep.mono e h⟩
/-- a record that stands for an instance of the class of this name -/
class Obj (α : Type) where
  cls : Str
  fa : Fg → MG → α → FA
instance (priority := 50) {α : Type} [Obj α] : Rep α := ⟨fun K mg H v a => ∃ p C dx vs, v = .ref p ∧ mg (Obj.cls α) = some (.ref C) ∧ H p = some (.ins C dx vs) ∧ FldsOk H (Obj.fa K mg a) vs, fun e ⟨p, C, dx, vs, h1, h2, h3, h4⟩ => ⟨p, C, dx, vs, h1, h2, e _ _ h3, h4.mono e⟩⟩
/-- an owned instance -/
def owF (mg : MG) (x : Str) (p : Addr) (fl : FA) : Own := ⟨p, fun H o => ∃ C dx vs, o = .ins C dx vs ∧ mg x = some (.ref C) ∧ FldsOk H fl vs, fun e ⟨C, dx, vs, h1, h2, h3⟩ => ⟨C, dx, vs, h1, h2, h3.mono e⟩⟩
/-- what the module says of an own class -/
structure ClsAt (K : Fg) (mg : MG) (x : Str) : Prop where
  ex : ∃ C, mg x = some (.ref C) ∧ Cls K C
theorem ClsAt.of {K : Fg} {mg : MG} {x : Str} {C : Addr} (c : ClsAt K mg x) (h : mg x = some (.ref C)) : Cls K C := by
  obtain ⟨D, h1, h2⟩ := c.ex
  rw [h] at h1
  cases h1
  exact h2
structure NoAt (K : Fg) (mg : MG) (x f : Str) : Prop where
  no : ∀ C, mg x = some (.ref C) → NoAttr K C f
section
variable {X : Cx} {F : Fr} {L : List (Option Asr)} {O : List Own} {p : Addr} {α β γ τ ρ : Type} [Rep β] [Rep γ] [RepA τ] [Rep ρ]
/-! ### reading -/
/-- e.f -/
theorem n_attr [Obj α] {e : Expr} {f : Str} {pos : Pos} {b : Bool} {m : Res α} (g : α → β) (c : ClsAt X.K X.mg (Obj.cls α)) (n : NoAt X.K X.mg (Obj.cls α) f) (h : PE X e (tP b F L O m)) (hf : ∀ a : α, (Obj.fa F.K F.mg a).lookup f = some (va F.K F.mg (g a)) := by intro _; rfl) (hM : X.mg = F.mg := by rfl)
    (hb : attributeBase e f X.env (eval e X.env) = eval e X.env := by rfl) : PE X (.Attribute e f pos) (tP b F L O (m.bind fun a => .ok (g a))) := pe_imp (pe_fld h hb) fun σ H Q ⟨g0, q⟩ => by
  rw [out_bind] at q
  refine ⟨g0, q.mono (fun a k v H1 g1 s1 r1 => ?_) fun _ z => z⟩
  obtain ⟨p, C, dx, vs, rfl, hm, hp, hfl⟩ := r1
  obtain ⟨w, hw, pw⟩ := hfl.get (hf a)
  rw [← hM] at hm
  exact ⟨p, C, dx, vs, w, rfl, rgn_sub _ _ hp, c.of hm, n.no C hm, hw, k w H1 g1 s1 pw⟩
theorem rgn_of {b : Bool} {H : Hp} : Same (rg F O H) (rgn b F O H) := by
  cases b
  · exact less_same
  · exact Same.refl _
/-- x.f, x an owned instance -/
theorem n_attrO {x y f : Str} {fl : FA} {a : β} {pos pos' : Pos} {b : Bool} (i : Nat) (c : ClsAt X.K X.mg x) (n : NoAt X.K X.mg x f) (hL : L[i]? = some (rf p)) (hO : owF F.mg x p fl ∈ O) (hf : fl.lookup f = some (va F.K F.mg a)) (hM : X.mg = F.mg := by rfl)
    (hN : X.N[i]? = some y := by rfl) (hv : Vis X.env.scope y := by first | exact Or.inl rfl | exact Or.inr (Or.inl rfl) | exact Or.inr (Or.inr rfl)) (hd : (y == ("__debug__" : Str)) = false := by decide) (hcd : (y == ("__classdict__" : Str)) = false := by decide)
    (hb : attributeBase (.Name y pos') f X.env (eval (.Name y pos') X.env) = eval (.Name y pos') X.env := by rfl) : PE X (.Attribute (.Name y pos') f pos) (tP b F L O (.ok a)) := pe_imp (pe_fld (pe_var hN hv hd hcd) hb) fun σ H Q ⟨g, q⟩ => by
  obtain ⟨v, h1, h2⟩ := g.slot hL
  obtain ⟨o, h3, C, dx, vs, h4, h5, h6⟩ := g.go.objs _ hO
  subst h4
  have h2' : v = V.ref p := h2
  subst h2'
  obtain ⟨w, hw, pw⟩ := h6.get hf
  rw [← hM] at h5
  exact ⟨_, h1, p, C, dx, vs, w, rfl, h3, c.of h5, n.no C h5, hw, q w H g (Same.refl _) (Rep.mono rgn_of pw)⟩
/-- x, an owned instance, as a value -/
theorem n_ownO [Obj α] {y : Str} {pos : Pos} {a : α} (i : Nat) (hL : L[i]? = some (rf p)) (hO : owF F.mg (Obj.cls α) p (Obj.fa F.K F.mg a) ∈ O) (hN : X.N[i]? = some y := by rfl) (hv : Vis X.env.scope y := by first | exact Or.inl rfl | exact Or.inr (Or.inl rfl) | exact Or.inr (Or.inr rfl)) (hd : (y == ("__debug__" : Str)) = false := by decide)
    (hcd : (y == ("__classdict__" : Str)) = false := by decide) : PE X (.Name y pos) (tP false F L O (.ok a)) := pe_imp (pe_var hN hv hd hcd) fun σ H Q ⟨g, q⟩ => by
  obtain ⟨v, h1, h2⟩ := g.slot hL
  obtain ⟨o, h3, C, dx, vs, h4, h5, h6⟩ := g.go.objs _ hO
  subst h4
  exact ⟨v, h1, q v H g (Same.refl _) ⟨p, C, dx, vs, h2, h5, h3, h6.mono less_same⟩⟩
/-! ### storing -/
/-- the object at p becomes another one -/
theorem g_updW {w w' : Own} {o' : HO} {σ : L2.St} {H : Hp} (ha : w'.a = w.a) (g : G F L (w :: O) σ H) (r : w'.P (rg F (w :: O) H) o') : G F L (w' :: O) σ (upd H w.a o') ∧ KeepBut w.a H (upd H w.a o') := by
  have hp : w.a ∈ addrs (w :: O) ++ F.A := List.mem_append_left _ List.mem_cons_self
  have ea : addrs (w' :: O) = addrs (w :: O) := by show w'.a :: _ = w.a :: _; rw [ha]
  have er : Same (rg F (w :: O) H) (rg F (w' :: O) (upd H w.a o')) := fun a o z => by
    unfold rg at z ⊢
    rw [ea]
    by_cases hb : a ∈ addrs (w :: O) ++ F.A
    · rw [less_in hb] at z; cases z
    · rw [less_out hb] at z
      rw [less_out hb, upd_ne (fun y => hb (by rw [y]; exact hp))]
      exact z
  have nd := List.nodup_cons.mp (show (w.a :: addrs O).Nodup from g.go.nd)
  refine ⟨⟨L2.Paired.mapP g.slots fun _ _ q => q.mono er, ?_⟩, fun x o h hx => by rw [upd_ne hx]; exact h⟩
  exact {
    objs := fun u hu => by
      rcases List.mem_cons.mp hu with rfl | hu
      · exact ⟨o', by rw [ha, upd_same], Own.mono _ er r⟩
      · obtain ⟨o, ho, q⟩ := g.go.objs u (List.mem_cons_of_mem _ hu)
        have hne : u.a ≠ w.a := fun y => nd.1 (by rw [← y]; exact List.mem_map.mpr ⟨u, hu, rfl⟩)
        exact ⟨o, by rw [upd_ne hne]; exact ho, u.mono er q⟩
    nd := by rw [ea]; exact g.go.nd
    own := fun u hu => by
      rcases List.mem_cons.mp hu with rfl | hu
      · rw [ha]; exact g.go.own w List.mem_cons_self
      · exact g.go.own u (List.mem_cons_of_mem _ hu)
    keep := fun a o h hw => by
      have hne : a ≠ w.a := fun y => by
        subst y
        rcases g.go.own _ List.mem_cons_self with z | z
        · exact hw z
        · rw [z] at h; cases h
      rw [upd_ne hne]
      exact g.go.keep a o h hw
    live := fun a h => by
      by_cases hne : a = w.a
      · subst hne; rw [upd_same]; simp
      · rw [upd_ne hne]; exact g.go.live a h
    hid := g.go.hid
    apart := fun u hu => by
      rcases List.mem_cons.mp hu with rfl | hu
      · rw [ha]; exact g.go.apart w List.mem_cons_self
      · exact g.go.apart u (List.mem_cons_of_mem _ hu)
    facts := fun z hz => z.mono er (g.go.facts z hz) }
theorem G.headF {x : Str} {fl : FA} {σ : L2.St} {H : Hp} (g : G F L (owF F.mg x p fl :: O) σ H) : ∃ C dx vs, H p = some (.ins C dx vs) ∧ F.mg x = some (.ref C) ∧ FldsOk (rg F (owF F.mg x p fl :: O) H) fl vs := by
  obtain ⟨o, h3, C, dx, vs, h4, h5, h6⟩ := g.go.objs _ List.mem_cons_self
  subst h4
  exact ⟨C, dx, vs, h3, h5, h6⟩
/-- x.f = e, x an owned instance -/
theorem s_fld {x y f : Str} {fl : FA} {e : Expr} {pos pos1 pos2 : Pos} {m : Res β} (i : Nat) (c : ClsAt X.K X.mg x) (n : NoAt X.K X.mg x f) (hL : L[i]? = some (rf p)) (hfew : fl.length < 1000) (hO : List.Sublist F.O0 (owF F.mg x p fl :: O)) (he : PE X e (tP true F L (owF F.mg x p fl :: O) m)) (hM : X.mg = F.mg := by rfl)
    (hN : X.N[i]? = some y := by rfl) (hv : Vis X.env.scope y := by first | exact Or.inl rfl | exact Or.inr (Or.inl rfl) | exact Or.inr (Or.inr rfl)) (hd : (y == ("__debug__" : Str)) = false := by decide) (hcd : (y == ("__classdict__" : Str)) = false := by decide)
    (hs : swapsWith e (some (.Attribute (.Name y pos2) f pos1)) pos.line X.env = pure false := by rfl) :
    PS X (.Assign [.Attribute (.Name y pos2) f pos1] e pos) (tN F L (owF F.mg x p fl :: O) m (fun _ => L) (fun a => owF F.mg x p (putA f (va F.K F.mg a) fl) :: O)) := ps_imp (ps_fld (pe_var hN hv hd hcd) he hs) fun D σ H ⟨g, q⟩ =>
  ⟨g, q.mono (fun a k v H1 g1 s1 r1 => by
    obtain ⟨w, h1, h2⟩ := g1.slot hL
    have h2' : w = V.ref p := h2
    subst h2'
    obtain ⟨C, dx, vs, h3, h4, h5⟩ := g1.headF
    rw [← hM] at h4
    have z := (g_updW (w := owF F.mg x p fl) (w' := owF F.mg x p (putA f (va F.K F.mg a) fl)) (o' := .ins C dx (putF f v vs)) rfl g1 ⟨C, dx, _, rfl, by rw [← hM]; exact h4, h5.put r1⟩).1
    exact ⟨_, h1, p, C, dx, vs, rfl, h3, c.of h4, n.no C h4, by rw [← h5.len]; exact hfew, k σ _ z⟩) fun H' ⟨a, _⟩ => a.go.sub hO⟩
end
end NF

set_option Elab.async false
set_option linter.all false
set_option maxRecDepth 100000
/-! Nf22: an own class's __init__, its instances made, its methods called. -/
namespace NF
open PySem PySem.Spec PyProof.Rows L2
open Data (toD)
/-- the promise of an own class's __init__ -/
def spC {τ α : Type} [RepA τ] [Obj α] (K : Fg) (mg : MG) (mir : τ → Res α) : Sp := fun vs H Q _ => ∃ (p : Addr) (us : List V) (a : τ) (A : List Addr) (C dx : Addr), (∀ x ∈ A, H x ≠ none) ∧ p ∉ A ∧ vs = .ref p :: us ∧ mg (Obj.cls α) = some (.ref C) ∧ H p = some (.ins C dx []) ∧ RepA.rep K mg (less H (p :: A)) us a ∧
  Out (F2 K mg H A E0 p) (mir a) (fun r => ∀ (H' : Hp) (C' dx' : Addr) (vs' : List (Str × V)), KeepBut p H H' → H' p = some (.ins C' dx' vs') → mg (Obj.cls α) = some (.ref C') → FldsOk (less H' (p :: A)) (Obj.fa K mg r) vs' → Q .non H') (fun H' => GO (F2 K mg H A E0 p) [] H')
theorem go_startW {K : Fg} {mg : MG} {H : Hp} {A : List Addr} {E : XK} {w : Own} {o : HO} (hA : ∀ x ∈ A, H x ≠ none) (hp : w.a ∉ A) (h : H w.a = some o) (r : w.P (less H (w.a :: A)) o) : GO (F2 K mg H A E w.a) [w] H where
  objs := fun u hu => by
    rw [List.mem_singleton.mp hu]
    exact ⟨_, h, r⟩
  nd := by simp
  own := fun u hu => by rw [List.mem_singleton.mp hu]; exact .inl List.mem_cons_self
  keep := fun _ _ h _ => h
  live := fun _ h => h
  hid := hA
  apart := fun u hu => by rw [List.mem_singleton.mp hu]; exact hp
  facts := fun _ h => (List.not_mem_nil h).elim
section
variable {P : Program} {w : World} {K : PySem.W.Frag} {mg : Str → Option Value} {base : Heap} {τ α : Type} [RepA τ] [Obj α]
variable {x qual : Str} {st : Stmt} {f : Addr} {fd : FuncData} {N ps : List Str} {k : Nat}
theorem def_C {mir : τ → Res α} (Fu : Fun K x qual st f fd) (S : FnScope N ps (defScope st)) (L0 : Addr → τ → List (Option Asr)) (Le : Addr → List (Option Asr)) (hl : ∀ (vs : List V) (R : Hp) (p : Addr) (a : τ), RepA.rep K mg R vs a → (V.ref p :: vs).length = ps.length ∧ Paired (SlotOk R) (L0 p a) (start N (V.ref p :: vs)))
    (body : ∀ (cdv : Value) (A : Around) (outer : List Env) (s : Shared) (H : Hp) (Av : List Addr) (E : XK) (p : Addr) (a : τ), Room k (A.deeper (envOfC qual (defScope st) s.heap.objs.size f cdv)) →
      PSs (cxOf CX0 P w K mg base N qual (defScope st) f cdv A outer s H E).nox (defBody st) (tN (F2 K mg H Av E0 p) (L0 p a) [owF mg (Obj.cls α) p []] (mir a) (fun _ => Le p) (fun r => [owF mg (Obj.cls α) p (Obj.fa K mg r)]))) :
    FnOk P w K mg base CX0 (k + 1) f fd ps (spC K mg mir) := by
  refine Fu.ok S (fun vs H Q E ⟨p, us, a, A, C, dx, _, _, e, _, _, h, _⟩ => by rw [e]; exact (hl us _ p a h).1) (fun cdv A outer s H vs Q E hr ⟨p, us, a, Av, C, dx, hA, hp, e, hm, h1, h, q⟩ => ⟨_, body cdv A outer s H Av E p a hr, ⟨?_, go_startW (w := owF mg (Obj.cls α) p []) hA hp h1 ⟨C, dx, [], rfl, hm, .nil⟩⟩, ?_⟩)
  · rw [e]
    exact (hl us _ p a h).2
  · refine q.mono (fun r k σ' H' g => ?_) fun H' g => g
    obtain ⟨o, h5, C', dx', vs', h6, h7, h8⟩ := g.go.objs _ List.mem_cons_self
    subst h6
    exact k H' C' dx' vs' (fun x o h hx => g.go.keep x o h (fun z => hx (List.mem_singleton.mp z))) h5 h7 h8
end
/-- what the module says of a class whose instances are made -/
structure MkAt {τ α : Type} [RepA τ] [Obj α] (P : Program) (w : World) (K : Fg) (mg : MG) (base : Heap) (k : Nat) (x : Str) (ps : List Str) (mir : τ → Res α) : Prop where
  nm : x = Obj.cls α
  ex : ∃ (C f : Addr) (fd : FuncData), mg x = some (.ref C) ∧ Mk K C f ∧ FnOk P w K mg base CX0 k f fd ps (spC K mg mir) ∧ Binds K fd ps []
/-- .. of a method that changes nothing; sp: its promise -/
structure MethAt (P : Program) (w : World) (K : Fg) (mg : MG) (base : Heap) (k : Nat) (x m : Str) (ps : List Str) (sp : Sp) : Prop where
  ex : ∃ (C f : Addr) (fd : FuncData), mg x = some (.ref C) ∧ Cls K C ∧ Meth K C m f ∧ FnOk P w K mg base CX0 k f fd ps sp ∧ Binds K fd ps []
section
variable {X : Cx} {F : Fr} {L : List (Option Asr)} {O : List Own} {α β τ ρ : Type} [Obj α] [Rep β] [RepA τ] [Rep ρ]
/-- an expression whose value is a new instance -/
def tFO (b : Bool) (F : Fr) (L : List (Option Asr)) (O : List Own) (m : Res α) : TE := fun σ H Q =>
  G F L O σ H ∧ Out F m (fun r => ∀ p C dx vs H', G F L O σ H' → Same H H' → H p = none → H' p = some (.ins C dx vs) → F.mg (Obj.cls α) = some (.ref C) → FldsOk (less (rgn b F O H') [p]) (Obj.fa F.K F.mg r) vs → Q (.ref p) H') (XP F L O σ H)
theorem fo_val {e : Expr} {b : Bool} {m : Res α} (h : PE X e (tFO b F L O m)) : PE X e (tP b F L O m) := pe_imp h fun σ H Q ⟨g, q⟩ =>
  ⟨g, q.mono (fun r k p C dx vs H' g' s h1 h2 h3 h4 => k _ H' g' s ⟨p, C, dx, vs, rfl, h3, rgn_new g s h1 h2, h4.mono less_same⟩) fun _ z => z⟩
variable {k : Nat} {ps : List Str} {x m : Str} {p1 pos apos : Pos} {e o : Expr} {es : List Expr} {b : Bool}
theorem make_core {mir : τ → Res α} {ma : Res τ} {e : Expr} {C : Addr} (hx : X.mg (Obj.cls α) = some (.ref C)) (hE : F.E = E0) (hO0 : F.O0 = [] ∨ True) (hK : X.K = F.K) (hM : X.mg = F.mg) (h : PE X e (tMake C (spC X.K X.mg mir) [] E0 (tA b F L O ma))) : PE X e (tFO b F L O (ma.bind mir)) := pe_imp h fun σ H Q ⟨g, q⟩ => by
  rw [out_bind] at q
  refine ⟨g, q.mono (fun a qa vs H1 g1 s1 r1 => ?_) fun _ z => z⟩
  intro y dx hy hdx hne
  rw [List.append_nil]
  have av := g1.go.avoided (b := b)
  have hyA : y ∉ avoid b F O := fun z => av y z hy
  have up : ∀ c o, H1 c = some o → upd (upd H1 dx (.own y)) y (.ins C dx []) c = some o := fun c o hc => by
    rw [upd_ne (ne_of_none hc hy), upd_ne (ne_of_none hc hdx)]
    exact hc
  have sm : Same H1 (upd (upd H1 dx (.own y)) y (.ins C dx [])) := fun c o hc => up c o hc
  show spC X.K X.mg mir _ _ _ _
  rw [hK, hM]
  refine ⟨y, vs, a, avoid b F O, C, dx, fun c hc z => ?_, hyA, rfl, by rw [← hM]; exact hx, upd_same, ?_, ?_⟩
  · cases e1 : H1 c with
    | none => exact av c hc e1
    | some o => rw [up c o e1] at z; cases z
  · refine RepA.mono (fun c o hc => ?_) r1
    rw [rgn_avoid] at hc
    by_cases hcA : c ∈ avoid b F O
    · rw [less_in hcA] at hc; cases hc
    · rw [less_out hcA] at hc
      rw [less_out (fun z => by
        rcases List.mem_cons.mp z with z | z
        · rw [z, hy] at hc; cases hc
        · exact hcA z)]
      exact up c o hc
  · cases e1 : mir a with
    | ok r =>
      rw [e1] at qa
      intro H' C' dx' vs' kb h1 h2 h3
      have s2 : Same H1 H' := fun c o hc => kb c o (up c o hc) (ne_of_none hc hy)
      refine ⟨rfl, qa y C' dx' vs' H' (g1.grow s2) (s1.trans s2) (s1.free hy) h1 h2 ?_⟩
      rw [rgn_avoid]
      refine h3.mono fun c o hc => ?_
      by_cases hcA : c ∈ y :: avoid b F O
      · rw [less_in hcA] at hc; cases hc
      · rw [less_out hcA] at hc
        rw [less_out (fun z => hcA (by rw [List.mem_singleton.mp z]; exact List.mem_cons_self)), less_out (fun z => hcA (List.mem_cons_of_mem _ z))]
        exact hc
    | err c fs =>
      rw [e1] at qa
      rw [← hE]
      intro D d H' h1 h2 h4
      have hz : F.E (.ref D) d H' := by
        rw [hE]
        refine False.elim ?_
        have z : F.E (.ref D) d H' := qa D d H' h1 (h2.older fun c hc z => ?_) ⟨g1.grow fun c o hc => h4.keep c o (up c o hc) (fun z => ne_of_none hc hy (List.mem_singleton.mp z)), s1.trans fun c o hc => h4.keep c o (up c o hc) (fun z => ne_of_none hc hy (List.mem_singleton.mp z))⟩
        · rw [hE] at z; exact z
        · have := g1.go.live c hc
          cases e2 : H1 c with
          | none => exact this e2
          | some o =>
            have z' : upd (upd H1 dx (.own y)) y (.ins C dx []) c = none := z
            rw [up c o e2] at z'; cases z'
      exact hz
    | bad =>
      rw [e1] at qa
      exact qa.elim
/-- x(e, ..), an own class -/
theorem fo_make {mir : τ → Res α} {ma : Res τ} (D : MkAt X.prog X.w X.K X.mg X.base k x ps mir) (hr : Room (k + 1) X.A) (ha : PA X (e :: es) (tA b F L O ma)) (hg : Gl X x := by rfl) (hE : F.E = E0 := by rfl) (hK : X.K = F.K := by rfl) (hM : X.mg = F.mg := by rfl) (hd : (x == ("__debug__" : Str)) = false := by decide)
    (hs : starEach (e :: es) X.env = (false, eval e X.env) :: starEach es X.env := by rfl) (hs2 : (backTo pos (starEach es X.env)).any (·.1) = false := by rfl) : PE X (.Call (.Name x p1) (e :: es) [] pos) (tFO b F L O (ma.bind mir)) := by
  obtain ⟨C, f, fd, h1, h2, h3, h4⟩ := D.ex
  exact make_core (C := C) (by rw [← D.nm]; exact h1) hE (.inr trivial) hK hM (pe_make h2 h3 hr hg h1 h4 .nil pass0 ha hd hs hs2)
theorem pe_tNil {e : Expr} {C : Addr} {sp : Sp} (h : PE X e (tMake C sp [] E0 tNil)) : PE X e (tMake C sp [] E0 (tA (τ := Unit) b F L O (.ok ()))) := pe_imp h fun σ H Q ⟨g, q⟩ => q [] H g (Same.refl _) rfl
theorem fo_make0 {mir : Unit → Res α} (D : MkAt X.prog X.w X.K X.mg X.base k x ps mir) (hr : Room (k + 1) X.A) (hg : Gl X x := by rfl) (hE : F.E = E0 := by rfl) (hK : X.K = F.K := by rfl) (hM : X.mg = F.mg := by rfl) (hd : (x == ("__debug__" : Str)) = false := by decide) : PE X (.Call (.Name x p1) [] [] pos) (tFO b F L O (mir ())) := by
  obtain ⟨C, f, fd, h1, h2, h3, h4⟩ := D.ex
  exact make_core (ma := .ok ()) (C := C) (by rw [← D.nm]; exact h1) hE (.inr trivial) hK hM (pe_tNil (pe_make0 h2 h3 hr hg h1 h4 .nil pass0 hd))
/-! ### methods -/
/-- an object, then arguments, as the arguments of its method -/
theorem meth_args {ta : TE} {t : TA} {sp : Sp} {C : Addr} {mo : Res α} {ma : Res τ} {E : XK} {e : Expr} (hx : X.mg (Obj.cls α) = some (.ref C)) (hM : X.mg = F.mg) (hf : ∀ a : α, (Obj.fa F.K F.mg a).lookup m = none) (h : PE X e (tMeth C m sp [] E (tP b F L O mo) (tA b F L O ma))) : PE X e (tCall sp [] E (tA b F L O (mo.bind fun x => ma.bind fun r => .ok (Ar.mk x r)))) := pe_imp h fun σ H Q ⟨g, q⟩ => by
  rw [out_bind] at q
  refine ⟨g, q.mono (fun s qs v1 H1 g1 s1 r1 => ?_) fun _ z => z⟩
  have r1' := r1
  obtain ⟨p, D, dx, vs, e1, h2, h3, h4⟩ := r1
  subst e1
  rw [out_bind] at qs
  have hD : D = C := by
    rw [← hM, hx] at h2
    cases h2
    rfl
  subst hD
  refine ⟨p, dx, vs, rfl, rgn_sub _ _ h3, h4.miss (hf s), g1, qs.mono (fun a qa vs' H2 g2 s2 r2 => ?_) fun H' ⟨a, b⟩ => ⟨a, s1.trans b⟩⟩
  have z := qa (V.ref p :: vs') H2 g2 (s1.trans s2) ⟨V.ref p, vs', rfl, Rep.mono (rgn_grow s2) r1', r2⟩
  exact z
/-- o.m(e, ..) -/
theorem n_meth {mir : Ar α τ → Res ρ} {mo : Res α} {ma : Res τ} {pl : Sem Bool} (D : MethAt X.prog X.w X.K X.mg X.base k (Obj.cls α) m ps (spP X.K X.mg mir)) (hr : Room k X.A) (ho : PE X o (tP b F L O mo)) (ha : PA X (e :: es) (tA b F L O ma)) (hf : ∀ a : α, (Obj.fa F.K F.mg a).lookup m = none := by intro _; rfl) (hE : F.E = E0 := by rfl) (hK : X.K = F.K := by rfl) (hM : X.mg = F.mg := by rfl)
    (hs : starEach (e :: es) X.env = (false, eval e X.env) :: starEach es X.env := by rfl) (hs2 : (backTo pos (starEach es X.env)).any (·.1) = false := by rfl)
    (ht : eval (.Call (.Attribute o m apos) (e :: es) [] pos) X.env = (do
      let ov ← eval o X.env
      standAt apos.atName
      let (f, first) ← holding [ov] (getMethod ov m pl)
      callWith pos f first (backTo pos (starEach (e :: es) X.env)) (backToKw pos (keywordEach [] X.env))) := by rfl) : PE X (.Call (.Attribute o m apos) (e :: es) [] pos) (tP b F L O ((mo.bind fun x => ma.bind fun r => .ok (Ar.mk x r)).bind mir)) := by
  obtain ⟨C, f, fd, h1, h2, h3, h4, h5⟩ := D.ex
  exact call_core (sp := spP X.K X.mg mir) hE (fun vs H Q q => by rw [← hK, ← hM] at q; exact q) (meth_args (ta := tC .non) (t := tNil) h1 hM hf (pe_meth (pl := pl) ho h2 h3 h4 hr h5 .nil pass0 ha hs hs2 ht))
theorem f_meth {mir : Ar α τ → Res (List β)} {mo : Res α} {ma : Res τ} {pl : Sem Bool} (D : MethAt X.prog X.w X.K X.mg X.base k (Obj.cls α) m ps (spF X.K X.mg mir)) (hr : Room k X.A) (ho : PE X o (tP b F L O mo)) (ha : PA X (e :: es) (tA b F L O ma)) (hf : ∀ a : α, (Obj.fa F.K F.mg a).lookup m = none := by intro _; rfl) (hE : F.E = E0 := by rfl) (hK : X.K = F.K := by rfl) (hM : X.mg = F.mg := by rfl)
    (hs : starEach (e :: es) X.env = (false, eval e X.env) :: starEach es X.env := by rfl) (hs2 : (backTo pos (starEach es X.env)).any (·.1) = false := by rfl)
    (ht : eval (.Call (.Attribute o m apos) (e :: es) [] pos) X.env = (do
      let ov ← eval o X.env
      standAt apos.atName
      let (f, first) ← holding [ov] (getMethod ov m pl)
      callWith pos f first (backTo pos (starEach (e :: es) X.env)) (backToKw pos (keywordEach [] X.env))) := by rfl) : PE X (.Call (.Attribute o m apos) (e :: es) [] pos) (tF b F L O ((mo.bind fun x => ma.bind fun r => .ok (Ar.mk x r)).bind mir)) := by
  obtain ⟨C, f, fd, h1, h2, h3, h4, h5⟩ := D.ex
  exact callF_core (sp := spF X.K X.mg mir) hE (fun vs H Q q => by rw [← hK, ← hM] at q; exact q) (meth_args (ta := tC .non) (t := tNil) h1 hM hf (pe_meth (pl := pl) ho h2 h3 h4 hr h5 .nil pass0 ha hs hs2 ht))
theorem meth_nil {t0 : TE} {sp : Sp} {C : Addr} {E : XK} {e : Expr} (h : PE X e (tMeth C m sp [] E t0 tNil)) (ht : t0 = tP b F L O mo) : PE X e (tMeth C m sp [] E (tP (α := α) b F L O mo) (tA (τ := Unit) b F L O (.ok ()))) := pe_imp h fun σ H Q q => by
  subst ht
  obtain ⟨g, q⟩ := q
  refine ⟨g, q.mono (fun s k v H1 g1 s1 r1 => ?_) fun _ z => z⟩
  obtain ⟨a, dx, fs, e1, e2, e3, q2⟩ := k v H1 g1 s1 r1
  exact ⟨a, dx, fs, e1, e2, e3, q2.2 [] H1 q2.1 (Same.refl _) rfl⟩
/-- o.m() -/
theorem n_meth0 {mir : Ar α Unit → Res ρ} {mo : Res α} {pl : Sem Bool} (D : MethAt X.prog X.w X.K X.mg X.base k (Obj.cls α) m ps (spP X.K X.mg mir)) (hr : Room k X.A) (ho : PE X o (tP b F L O mo)) (hf : ∀ a : α, (Obj.fa F.K F.mg a).lookup m = none := by intro _; rfl) (hE : F.E = E0 := by rfl) (hK : X.K = F.K := by rfl) (hM : X.mg = F.mg := by rfl)
    (ht : eval (.Call (.Attribute o m apos) [] [] pos) X.env = (do
      let ov ← eval o X.env
      standAt apos.atName
      let (f, first) ← holding [ov] (getMethod ov m pl)
      callWith pos f first (backTo pos (starEach [] X.env)) (backToKw pos (keywordEach [] X.env))) := by rfl) : PE X (.Call (.Attribute o m apos) [] [] pos) (tP b F L O ((mo.bind fun x => Res.ok (Ar.mk x ())).bind mir)) := by
  obtain ⟨C, f, fd, h1, h2, h3, h4, h5⟩ := D.ex
  exact call_core (sp := spP X.K X.mg mir) hE (fun vs H Q q => by rw [← hK, ← hM] at q; exact q) (meth_args (ma := .ok ()) (ta := tC .non) (t := tNil) h1 hM hf (meth_nil (pe_meth0 (pl := pl) ho h2 h3 h4 hr h5 .nil pass0 ht) rfl))
end
end NF

set_option Elab.async false
set_option linter.all false
set_option maxRecDepth 100000
/-! Nf23: owned instances that stand for a record; methods that change them, and may raise. -/
namespace NF
open PySem PySem.Spec PyProof.Rows L2
open Data (toD)
instance (priority := 50) {α : Type} [Obj α] : OwR α := ⟨fun K mg H o a => ∃ C dx vs, o = .ins C dx vs ∧ mg (Obj.cls α) = some (.ref C) ∧ FldsOk H (Obj.fa K mg a) vs, fun e ⟨C, dx, vs, h1, h2, h3⟩ => ⟨C, dx, vs, h1, h2, h3.mono e⟩⟩
section
variable {X : Cx} {F : Fr} {L : List (Option Asr)} {O : List Own} {p : Addr} {α β γ τ ρ ι : Type} [Obj α] [Rep β] [Rep γ] [RepA τ] [Rep ρ] [OwR ι]
theorem obj_at {s : α} {σ : L2.St} {H : Hp} (g : G F L O σ H) (hO : ow F.K F.mg p s ∈ O) : ∃ C dx vs, H p = some (.ins C dx vs) ∧ F.mg (Obj.cls α) = some (.ref C) ∧ FldsOk (rg F O H) (Obj.fa F.K F.mg s) vs := by
  obtain ⟨o, h3, C, dx, vs, h4, h5, h6⟩ := g.go.objs _ hO
  subst h4
  exact ⟨C, dx, vs, h3, h5, h6⟩
/-- x.f, x an owned instance that stands for s -/
theorem n_attrW {y f : Str} {s : α} {pos pos' : Pos} {b : Bool} (g : α → β) (i : Nat) (c : ClsAt X.K X.mg (Obj.cls α)) (n : NoAt X.K X.mg (Obj.cls α) f) (hL : L[i]? = some (rf p)) (hO : ow F.K F.mg p s ∈ O) (hf : ∀ s : α, (Obj.fa F.K F.mg s).lookup f = some (va F.K F.mg (g s)) := by intro _; rfl) (hM : X.mg = F.mg := by rfl)
    (hN : X.N[i]? = some y := by rfl) (hv : Vis X.env.scope y := by first | exact Or.inl rfl | exact Or.inr (Or.inl rfl) | exact Or.inr (Or.inr rfl)) (hd : (y == ("__debug__" : Str)) = false := by decide) (hcd : (y == ("__classdict__" : Str)) = false := by decide)
    (hb : attributeBase (.Name y pos') f X.env (eval (.Name y pos') X.env) = eval (.Name y pos') X.env := by rfl) : PE X (.Attribute (.Name y pos') f pos) (tP b F L O (.ok (g s))) := pe_imp (pe_fld (pe_var hN hv hd hcd) hb) fun σ H Q ⟨g0, q⟩ => by
  obtain ⟨v, h1, h2⟩ := g0.slot hL
  obtain ⟨C, dx, vs, h3, h5, h6⟩ := obj_at g0 hO
  have h2' : v = V.ref p := h2
  subst h2'
  obtain ⟨w, hw, pw⟩ := h6.get (hf s)
  rw [← hM] at h5
  exact ⟨_, h1, p, C, dx, vs, w, rfl, h3, c.of h5, n.no C h5, hw, q w H g0 (Same.refl _) (Rep.mono rgn_of pw)⟩
/-- x, an owned instance, as a value -/
theorem n_ownW {y : Str} {pos : Pos} {s : α} (i : Nat) (hL : L[i]? = some (rf p)) (hO : ow F.K F.mg p s ∈ O) (hN : X.N[i]? = some y := by rfl) (hv : Vis X.env.scope y := by first | exact Or.inl rfl | exact Or.inr (Or.inl rfl) | exact Or.inr (Or.inr rfl)) (hd : (y == ("__debug__" : Str)) = false := by decide)
    (hcd : (y == ("__classdict__" : Str)) = false := by decide) : PE X (.Name y pos) (tP false F L O (.ok s)) := pe_imp (pe_var hN hv hd hcd) fun σ H Q ⟨g, q⟩ => by
  obtain ⟨v, h1, h2⟩ := g.slot hL
  obtain ⟨C, dx, vs, h3, h5, h6⟩ := obj_at g hO
  exact ⟨v, h1, q v H g (Same.refl _) ⟨p, C, dx, vs, h2, h5, h3, h6.mono less_same⟩⟩
/-- x.f = e -/
theorem s_fldW {y f : Str} {s : α} {e : Expr} {pos pos1 pos2 : Pos} {m : Res β} (u : α → β → α) (i : Nat) (c : ClsAt X.K X.mg (Obj.cls α)) (n : NoAt X.K X.mg (Obj.cls α) f) (hL : L[i]? = some (rf p)) (hO : List.Sublist F.O0 (ow F.K F.mg p s :: O)) (he : PE X e (tP true F L (ow F.K F.mg p s :: O) m)) (hu : ∀ (s : α) (a : β), Obj.fa F.K F.mg (u s a) = putA f (va F.K F.mg a) (Obj.fa F.K F.mg s) := by intro _ _; rfl) (hfew : ∀ s : α, (Obj.fa F.K F.mg s).length < 1000 := by intro _; show _ < 1000; decide) (hM : X.mg = F.mg := by rfl)
    (hN : X.N[i]? = some y := by rfl) (hv : Vis X.env.scope y := by first | exact Or.inl rfl | exact Or.inr (Or.inl rfl) | exact Or.inr (Or.inr rfl)) (hd : (y == ("__debug__" : Str)) = false := by decide) (hcd : (y == ("__classdict__" : Str)) = false := by decide)
    (hs : swapsWith e (some (.Attribute (.Name y pos2) f pos1)) pos.line X.env = pure false := by rfl) :
    PS X (.Assign [.Attribute (.Name y pos2) f pos1] e pos) (tN F L (ow F.K F.mg p s :: O) m (fun _ => L) (fun a => ow F.K F.mg p (u s a) :: O)) := ps_imp (ps_fld (pe_var hN hv hd hcd) he hs) fun D σ H ⟨g, q⟩ =>
  ⟨g, q.mono (fun a k v H1 g1 s1 r1 => by
    obtain ⟨w, h1, h2⟩ := g1.slot hL
    have h2' : w = V.ref p := h2
    subst h2'
    obtain ⟨C, dx, vs, h3, h4, h5⟩ := obj_at g1 List.mem_cons_self
    have z := (g_updW (w := ow F.K F.mg p s) (w' := ow F.K F.mg p (u s a)) (o' := .ins C dx (putF f v vs)) rfl g1 ⟨C, dx, _, rfl, h4, by rw [hu]; exact h5.put r1⟩).1
    rw [← hM] at h4
    exact ⟨_, h1, p, C, dx, vs, rfl, h3, c.of h4, n.no C h4, by rw [← h5.len]; exact hfew s, k σ _ z⟩) fun H' ⟨a, _⟩ => a.go.sub hO⟩
/-- x.f += e, ints -/
theorem s_fldaugW {y f : Str} {s : α} {e : Expr} {pos pos1 pos2 : Pos} {m : Res Int} {b : Bool} (g : α → Int) (u : α → Int → α) (i : Nat) (c : ClsAt X.K X.mg (Obj.cls α)) (n : NoAt X.K X.mg (Obj.cls α) f) (hL : L[i]? = some (rf p)) (hO : List.Sublist F.O0 (ow F.K F.mg p s :: O)) (he : PE X e (tP b F L (ow F.K F.mg p s :: O) m)) (hf : ∀ s : α, (Obj.fa F.K F.mg s).lookup f = some (va F.K F.mg (g s)) := by intro _; rfl) (hu : ∀ (s : α) (a : Int), Obj.fa F.K F.mg (u s a) = putA f (va F.K F.mg a) (Obj.fa F.K F.mg s) := by intro _ _; rfl) (hfew : ∀ s : α, (Obj.fa F.K F.mg s).length < 1000 := by intro _; show _ < 1000; decide) (hM : X.mg = F.mg := by rfl)
    (hN : X.N[i]? = some y := by rfl) (hv : Vis X.env.scope y := by first | exact Or.inl rfl | exact Or.inr (Or.inl rfl) | exact Or.inr (Or.inr rfl)) (hd : (y == ("__debug__" : Str)) = false := by decide) (hcd : (y == ("__classdict__" : Str)) = false := by decide) :
    PS X (.AugAssign (.Attribute (.Name y pos2) f pos1) .Add e pos) (tN F L (ow F.K F.mg p s :: O) (m.bind fun a => .ok (g s + a)) (fun _ => L) (fun a => ow F.K F.mg p (u s a) :: O)) := ps_imp (ps_fldaug (pe_var hN hv hd hcd) he in_add) fun D σ H ⟨g0, q⟩ => by
  rw [out_bind] at q
  obtain ⟨w, h1, h2⟩ := g0.slot hL
  have h2' : w = V.ref p := h2
  subst h2'
  obtain ⟨C, dx, vs, h3, h4, h5⟩ := obj_at g0 List.mem_cons_self
  obtain ⟨v0, hv0, pv0⟩ := h5.get (hf s)
  have h4' := h4
  rw [← hM] at h4'
  refine ⟨_, h1, p, C, dx, vs, v0, rfl, h3, c.of h4', n.no C h4', hv0, g0, q.mono (fun a k v H1 g1 s1 r1 => ?_) fun H' ⟨a, _⟩ => a.go.sub hO⟩
  obtain ⟨C1, dx1, vs1, h6, h7, h8⟩ := obj_at g1 List.mem_cons_self
  have eC : C1 = C := by
    rw [h4] at h7
    cases h7
    rfl
  subst eC
  have pv0' : v0 = V.int (g s) := pv0
  refine ⟨g s, a, pv0', r1, dx1, vs1, h6, by rw [← h8.len]; exact hfew s, ?_⟩
  exact k σ _ (g_updW (w := ow F.K F.mg p s) (w' := ow F.K F.mg p (u s (g s + a))) (o' := .ins C1 dx1 (putF f (.int (g s + a)) vs1)) rfl g1 ⟨C1, dx1, _, rfl, h7, by rw [hu]; exact h8.put (A := va F.K F.mg (g s + a)) rfl⟩).1
/-- x = what is a new instance, owned from now on -/
theorem s_ownO {x : Str} {e : Expr} {pos pos' : Pos} (i : Nat) (hN : X.N.Nodup) (hO : List.Sublist F.O0 O) {m : Res α} (he : PE X e (tFO true F L O m)) (hi : X.N[i]? = some x := by rfl) (hx : L2.Loc X.env.scope x := by first | exact .inl rfl | exact .inr rfl) (hs : swapsWith e (some (.Name x pos')) pos.line X.env = pure false := by rfl) (hf : X.fn x = true ∨ X.env.scope.names.lookup x = some .local := by first | exact .inl rfl | exact .inr rfl) :
    PS X (.Assign [.Name x pos'] e pos) (tNp F L O m (fun p _ => L.set i (rf p)) (fun p r => ow F.K F.mg p r :: O)) := ps_imp (ps_set (i := i) hN hi hx he hs hf) fun D σ H ⟨g, q⟩ =>
  ⟨g, q.mono (fun r k p C dx vs H1 g1 s1 h1 h2 h3 h4 => k p _ _ ⟨set_ok (p := rf p) rfl i (L2.Paired.mapP g.slots fun _ _ z => z.mono (rg_new rfl s1 h1)), {
    objs := fun w hw => by
      rcases List.mem_cons.mp hw with rfl | hw
      · refine ⟨_, h2, C, dx, vs, rfl, h3, h4.mono fun b o q => ?_⟩
        by_cases hb : b ∈ [p]
        · rw [less_in hb] at q; cases q
        · rw [less_out hb] at q
          have q' : less H1 (addrs O ++ F.A) b = some o := q
          show less H1 (p :: (addrs O ++ F.A)) b = some o
          by_cases hc : b ∈ addrs O ++ F.A
          · rw [less_in hc] at q'; cases q'
          · rw [less_out hc] at q'
            rw [less_out (fun z => by
              rcases List.mem_cons.mp z with z | z
              · exact hb (List.mem_singleton.mpr z)
              · exact hc z)]
            exact q'
      · obtain ⟨o, ho, hp⟩ := g.go.objs w hw
        exact ⟨o, s1 _ _ ho, w.mono (rg_new rfl s1 h1) hp⟩
    nd := List.nodup_cons.mpr ⟨fun z => g.go.out h1 (List.mem_append_left _ z), g1.go.nd⟩
    own := fun w hw => by
      rcases List.mem_cons.mp hw with rfl | hw
      · refine .inr ?_
        cases q : F.H0 p with
        | none => exact q
        | some o => exact (g.go.live p (by rw [q]; simp) h1).elim
      · exact g1.go.own w hw
    keep := g1.go.keep
    live := g1.go.live
    hid := g1.go.hid
    apart := fun w hw => by
      rcases List.mem_cons.mp hw with rfl | hw
      · exact fun z => g.go.out h1 (List.mem_append_right _ z)
      · exact g1.go.apart w hw
    facts := fun z hz => z.mono (rg_new rfl s1 h1) (g.go.facts z hz) }⟩) fun H' ⟨a, _⟩ => a.go.sub hO⟩
end
/-! ### defs and methods that change an object and may raise while it stands as it was -/
def spIX {τ ρ ι : Type} [RepA τ] [Rep ρ] [OwR ι] (K : Fg) (mg : MG) (mir : ι → τ → Res (ρ × ι)) : Sp := fun vs H Q E => ∃ (p : Addr) (a : τ) (A : List Addr) (xs : ι) (us : List V) (ob : HO), (∀ x ∈ A, H x ≠ none) ∧ p ∉ A ∧ vs = .ref p :: us ∧ RepA.rep K mg (less H (p :: A)) us a ∧
  H p = some ob ∧ OwR.P K mg (less H (p :: A)) ob xs ∧
  Out (F2 K mg H A (fun c d H' => (∃ ob', H' p = some ob' ∧ OwR.P K mg (less H' (p :: A)) ob' xs) → E c d H') p) (mir xs a) (fun r => ∀ v H' ob', KeepBut p H H' → H' p = some ob' → OwR.P K mg (less H' (p :: A)) ob' r.2 → Rep.rep K mg (less H' (p :: A)) v r.1 → Q v H') (fun H' => GO (F2 K mg H A E0 p) [] H')
section
variable {P : Program} {w : World} {K : Fg} {mg : MG} {base : Heap} {τ ρ ι : Type} [RepA τ] [Rep ρ] [OwR ι]
variable {x qual : Str} {st : Stmt} {f : Addr} {fd : FuncData} {N ps : List Str} {k : Nat}
theorem go_e {K : Fg} {mg : MG} {H H' : Hp} {A : List Addr} {E E' : XK} {p : Addr} {O : List Own} (g : GO (F2 K mg H A E p) O H') : GO (F2 K mg H A E' p) O H' := ⟨g.objs, g.nd, g.own, g.keep, g.live, g.hid, g.apart, g.facts⟩
/-- falls off its end or raises -/
theorem def_IXU {mir : ι → τ → Res (Sum ι (Unit × ι))} (Fu : Fun K x qual st f fd) (S : FnScope N ps (defScope st)) (L0 : Addr → τ → List (Option Asr)) (Le : List (Option Asr)) (hl : ∀ (vs : List V) (R : Hp) (p : Addr) (a : τ), RepA.rep K mg R vs a → (V.ref p :: vs).length = ps.length ∧ Paired (SlotOk R) (L0 p a) (start N (V.ref p :: vs)))
    (body : ∀ (cdv : Value) (A : Around) (outer : List Env) (s : Shared) (H : Hp) (Av : List Addr) (E : XK) (p : Addr) (xs : ι) (a : τ), Room k (A.deeper (envOfC qual (defScope st) s.heap.objs.size f cdv)) →
      (∀ L O, ow K mg p xs ∈ O → TkX (cxOf (L2N.CX P w) P w K mg base N qual (defScope st) f cdv A outer s H E) (F2 K mg H Av (fun c d H' => (∃ ob', H' p = some ob' ∧ OwR.P K mg (less H' (p :: Av)) ob' xs) → E c d H') p) L O) →
      PSs (cxOf (L2N.CX P w) P w K mg base N qual (defScope st) f cdv A outer s H E) (defBody st) (tM (F2 K mg H Av (fun c d H' => (∃ ob', H' p = some ob' ∧ OwR.P K mg (less H' (p :: Av)) ob' xs) → E c d H') p) (L0 p a) [ow K mg p xs] (mir xs a) (fun _ => Le) (fun y => [ow K mg p y]) (rI (F2 K mg H Av (fun c d H' => (∃ ob', H' p = some ob' ∧ OwR.P K mg (less H' (p :: Av)) ob' xs) → E c d H') p) p))) :
    FnOk P w K mg base (L2N.CX P w) (k + 1) f fd ps (spIX K mg fun xs a => goOn (mir xs a) fun y => .ok ((), y)) := by
  obtain ⟨oc, od, kV, doc, pm, an, cdv, ct, osl, rfl, lk, hcd⟩ := Fu.ex
  refine fn_of lk hcd S (fun vs H Q E ⟨p, a, A, xs, us, ob, _, _, e, h, _⟩ => by rw [e]; exact (hl us _ p a h).1) fun A outer s H vs Q E hr ⟨p, a, Av, xs, us, ob, hA, hp, e, h, h1, h2, q⟩ =>
    ⟨_, body cdv A outer s H Av E p xs a hr (fun L O hO => ⟨_, L2N.takes_of rfl rfl rfl rfl, fun c d σ H' e g => e ?_⟩), ⟨?_, ?_⟩, ?_⟩
  · obtain ⟨o, h3, h4⟩ := g.go.objs _ hO
    exact ⟨o, h3, OwR.mono (less_sub fun y hy => by
      rcases List.mem_cons.mp hy with hy | hy
      · rw [hy]; exact List.mem_append_left _ (List.mem_map.mpr ⟨_, hO, rfl⟩)
      · exact List.mem_append_right _ hy) h4⟩
  · rw [e]
    exact (hl us _ p a h).2
  · exact go_startI hA hp h1 h2
  · unfold goOn at q
    rw [out_bind] at q
    refine q.mono (fun r k => ?_) fun H' g => go_e g
    cases r with
    | inl y =>
      intro σ' H' g
      obtain ⟨o, h3, h4⟩ := g.go.objs _ List.mem_cons_self
      exact k .non H' o (fun x o h hx => g.go.keep x o h (fun z => hx (List.mem_singleton.mp z))) h3 h4 rfl
    | inr d =>
      intro v H' ⟨g, r'⟩
      obtain ⟨o, h3, h4⟩ := g.objs _ List.mem_cons_self
      exact k v H' o (fun x o h hx => g.keep x o h (fun z => hx (List.mem_singleton.mp z))) h3 h4 r'
end
end NF

set_option Elab.async false
set_option linter.all false
set_option maxRecDepth 100000
/-! Nf24: None or an int; is None; tuples cut and put together; methods in defs that raise; clear. -/
namespace NF
open PySem PySem.Spec PyProof.Rows L2
open Data (toD)
/-! ### None or an int -/
def optV : Option Int → V
  | none => .non
  | some i => .int i
def optD : Option Int → PyData
  | none => .none
  | some i => .int i
instance : Rep (Option Int) := ⟨fun _ _ _ v a => v = optV a, fun _ h => h⟩
instance : Flat (Option Int) := ⟨optV, Iff.rfl⟩
instance : Data (Option Int) := ⟨optD, fun {K mg H v a} h => by
  have h' : v = optV a := h
  subst h'
  cases a with
  | none => exact .non
  | some i => exact .int i⟩
/-- what `is None` says -/
class IsN (α : Type) [Rep α] where
  isN : α → Bool
  ok : ∀ {K : Fg} {mg : MG} {H : Hp} {v : V} {a : α}, Rep.rep K mg H v a → decide (v = .non) = isN a
instance : IsN (Option Int) := ⟨Option.isNone, fun {K mg H v a} h => by
  have h' : v = optV a := h
  subst h'
  cases a <;> simp [optV]⟩
instance : IsN Unit := ⟨fun _ => true, fun {K mg H v a} h => by
  have h' : v = .non := h
  subst h'
  simp⟩
instance : IsN Int := ⟨fun _ => false, fun {K mg H v a} h => by
  have h' : v = .int a := h
  subst h'
  simp⟩
instance : IsN PyData := ⟨fun d => match d with
  | .none => true
  | _ => false, fun {K mg H v a} h => by
  have h' : Dp K H v a := h
  cases h' <;> simp⟩
section
variable {X : Cx} {F : Fr} {L : List (Option Asr)} {O : List Own} {p : Addr} {α β γ τ ρ ι : Type} [Rep α] [Rep β] [Rep γ] [RepA τ] [Rep ρ] [OwR ι]
variable {b b1 b2 b3 : Bool} {x y : Expr} {pos p' : Pos} {j : Nat}
theorem n_some {m : Res Int} (h : PE X x (tP b F L O m)) : PE X x (tP b3 F L O (m.bind fun a => .ok (some a))) := pe_imp h fun σ H Q ⟨g, q⟩ => by
  rw [out_bind] at q
  exact ⟨g, q.mono (fun a k v H1 g1 s1 r1 => k v H1 g1 s1 r1) fun _ z => z⟩
theorem n_noneO {m : Res Unit} (h : PE X x (tP b F L O m)) : PE X x (tP b3 F L O (m.bind fun _ => .ok (none : Option Int))) := pe_imp h fun σ H Q ⟨g, q⟩ => by
  rw [out_bind] at q
  exact ⟨g, q.mono (fun a k v H1 g1 s1 r1 => k v H1 g1 s1 r1) fun _ z => z⟩
theorem n_isN [IsN α] {m : Res α} (hx : PE X x (tP b1 F L O m)) : PE X (.Compare x [.Is] [.Constant .none j p'] pos) (tP b3 F L O (m.bind fun a => .ok (IsN.isN a))) := pe_imp (pe_cmpR op_isN hx pe_non (nomark _)) fun σ H Q ⟨g, q⟩ => by
  rw [out_bind] at q
  exact ⟨g, q.mono (fun a k v H1 g1 s1 r1 => ⟨rfl, by rw [IsN.ok r1]; exact k _ H1 g1 s1 rfl⟩) fun _ z => z⟩
theorem n_notN [IsN α] {m : Res α} (hx : PE X x (tP b1 F L O m)) : PE X (.Compare x [.IsNot] [.Constant .none j p'] pos) (tP b3 F L O (m.bind fun a => .ok (!IsN.isN a))) := pe_imp (pe_cmpR op_notN hx pe_non (nomark _)) fun σ H Q ⟨g, q⟩ => by
  rw [out_bind] at q
  exact ⟨g, q.mono (fun a k v H1 g1 s1 r1 => ⟨rfl, by rw [IsN.ok r1]; exact k _ H1 g1 s1 rfl⟩) fun _ z => z⟩
theorem t_isN [IsN α] {m : Res α} (hx : PE X x (tP b1 F L O m)) : PT X (.Compare x [.Is] [.Constant .none j p'] pos) (tB' F L O (m.bind fun a => .ok (IsN.isN a))) := pt_imp (pt_cmpR op_isN hx pe_non (nomark _)) fun σ H Q ⟨g, q⟩ => by
  rw [out_bind] at q
  exact ⟨g, q.mono (fun a k v H1 g1 s1 r1 => ⟨rfl, by rw [IsN.ok r1]; exact ⟨_, rfl, k H1 g1 s1⟩⟩) fun _ z => z⟩
theorem t_notN [IsN α] {m : Res α} (hx : PE X x (tP b1 F L O m)) : PT X (.Compare x [.IsNot] [.Constant .none j p'] pos) (tB' F L O (m.bind fun a => .ok (!IsN.isN a))) := pt_imp (pt_cmpR op_notN hx pe_non (nomark _)) fun σ H Q ⟨g, q⟩ => by
  rw [out_bind] at q
  exact ⟨g, q.mono (fun a k v H1 g1 s1 r1 => ⟨rfl, by rw [IsN.ok r1]; exact ⟨_, rfl, k H1 g1 s1⟩⟩) fun _ z => z⟩
theorem et_notN [IsN α] {xs : ι} {m : Res (α × ι)} (hx : PE X x (tE b1 F L p xs O m)) : PT X (.Compare x [.IsNot] [.Constant .none j p'] pos) (tEB F L p xs O (m.bind fun a => .ok (!IsN.isN a.1, a.2))) := pt_imp (pt_cmpR op_notN hx pe_non (nomark _)) fun σ H Q ⟨g, q⟩ => by
  rw [out_bind] at q
  exact ⟨g, q.mono (fun a k v H1 g1 s1 r1 => ⟨rfl, by rw [IsN.ok r1]; exact ⟨_, rfl, k H1 g1 s1⟩⟩) fun _ z => z⟩
/-! ### tuples -/
theorem cut_all {xs : List α} {l h : Option Int} (e : HT.sIx xs.length 0 l = 0 ∧ HT.sIx xs.length xs.length h = xs.length) : cut xs l h = xs := by
  unfold cut
  rw [e.1, e.2]
  simp
theorem n_sliceT {ma : Res (Tp α)} {lo hi : Option Expr} {ml mh : Res (Option Int)} {p1 p2 : Pos} (hx : PE X x (tP b F L O ma)) (hl : PO X lo (tO F L O ml)) (hh : PO X hi (tO F L O mh)) (hK : X.K = F.K := by rfl) :
    PE X (.Subscript x (.Slice lo hi none p2) p1) (tP b F L O (ma.bind fun x => ml.bind fun l => mh.bind fun h => .ok (Tp.mk (cut x.xs l h)))) := pe_imp (pe_slice sl_tupA hx hl hh) fun σ H Q ⟨g, q⟩ => by
  rw [out_bind] at q
  refine ⟨g, q.mono (fun x qx v1 H1 g1 s1 r1 => ?_) fun _ z => z⟩
  rw [out_bind] at qx
  refine ⟨g1, qx.mono (fun l ql H2 g2 s2 => ?_) fun H' ⟨a, b⟩ => ⟨a, s1.trans b⟩⟩
  rw [out_bind] at ql
  refine ⟨g2, ql.mono (fun h qh H3 g3 s3 => ?_) fun H' ⟨a, b⟩ => ⟨a, (s1.trans s2).trans b⟩⟩
  obtain ⟨p, vs, rfl, h2, h3⟩ := r1
  have e : vs.length = x.xs.length := h3.length
  have h3' := h3.mono (rgn_grow (b := b) (s2.trans s3))
  have h2' := same_t (rgn_grow (b := b) (s2.trans s3)) h2
  rw [hK]
  refine ⟨p, vs, rfl, same_t rgn_sub h2', fun w => ?_, fun w q hq => ?_⟩
  · rw [e] at w
    exact qh _ H3 g3 ((s1.trans s2).trans s3) ⟨p, vs, rfl, h2', by rw [cut_all w]; exact h3'⟩
  · refine qh _ _ (g3.grow (same_upd hq)) (((s1.trans s2).trans s3).trans (same_upd hq)) ⟨q, _, rfl, .of (rgn_new g3 (same_upd hq) hq upd_same), ?_⟩
    unfold cutV
    show Reps _ _ _ _ (cut x.xs l h)
    unfold cut
    rw [e]
    exact (reps_take _ (reps_drop _ h3')).mono (rgn_grow (same_upd hq))
theorem n_catT {ma mb : Res (Tp α)} (hx : PE X x (tP b F L O ma)) (hy : PE X y (tP b F L O mb)) (hK : X.K = F.K := by rfl) :
    PE X (.BinOp x .Add y pos) (tP b F L O (ma.bind fun x => mb.bind fun y => need (x.xs.length + y.xs.length ≤ sizeLine) (.ok (Tp.mk (x.xs ++ y.xs))))) := nf2 (pe_op op_catA hx hy) fun x y vx vy H σ Q g rx ry q => by
  rw [out_need] at q
  obtain ⟨hz, k⟩ := q
  obtain ⟨p, vs, rfl, h2, h3⟩ := rx
  obtain ⟨p', vs', rfl, h2', h3'⟩ := ry
  rw [hK]
  have l1 : vs.length = x.xs.length := h3.length
  have l2 : vs'.length = y.xs.length := h3'.length
  refine ⟨p, p', vs, vs', rfl, rfl, same_t rgn_sub h2, same_t rgn_sub h2', by omega, fun e => ?_, fun _ e => ?_, fun _ _ q hq => ?_⟩
  · have ex : x.xs = [] := List.eq_nil_of_length_eq_zero (by rw [← l1, e]; rfl)
    exact k _ H g (Same.refl _) ⟨p', vs', rfl, h2', by show Reps _ _ _ _ (x.xs ++ y.xs); rw [ex]; exact h3'⟩
  · have ey : y.xs = [] := List.eq_nil_of_length_eq_zero (by rw [← l2, e]; rfl)
    exact k _ H g (Same.refl _) ⟨p, vs, rfl, h2, by show Reps _ _ _ _ (x.xs ++ y.xs); rw [ey, List.append_nil]; exact h3⟩
  · exact k _ _ (g.grow (same_upd hq)) (same_upd hq) ⟨q, _, rfl, .of (rgn_new g (same_upd hq) hq upd_same), (reps_append h3 h3').mono (rgn_grow (same_upd hq))⟩
/-- x.clear(), x an owned list -/
theorem s_clear {z : Str} {xs : List α} {pos1 pos2 cpos : Pos} (i : Nat) (hL : L[i]? = some (rf p)) (hO : List.Sublist F.O0 (ow F.K F.mg p xs :: O))
    (h : ∀ {to : TE}, PE X (.Name z pos1) to → PE X (.Call (.Attribute (.Name z pos1) "clear" pos2) [] [] cpos) (tBM0 X.K "list" rClear to))
    (hN : X.N[i]? = some z := by rfl) (hv : Vis X.env.scope z := by first | exact Or.inl rfl | exact Or.inr (Or.inl rfl) | exact Or.inr (Or.inr rfl)) (hd : (z == ("__debug__" : Str)) = false := by decide) (hcd : (z == ("__classdict__" : Str)) = false := by decide)
    (hs : swapsWith (.Call (.Attribute (.Name z pos1) "clear" pos2) [] [] cpos) none pos.line X.env = pure false := by rfl) :
    PS X (.Expr (.Call (.Attribute (.Name z pos1) "clear" pos2) [] [] cpos) pos) (tN F L (ow F.K F.mg p xs :: O) (.ok ()) (fun _ => L) (fun _ => ow F.K F.mg p ([] : List α) :: O)) := ps_imp (ps_expr (h (pe_var hN hv hd hcd)) hs) fun D σ H ⟨g, q⟩ => by
  obtain ⟨w, h4, h5⟩ := g.slot hL
  have h5' : w = V.ref p := h5
  subst h5'
  obtain ⟨vs, h6, h7⟩ := g.head
  refine ⟨_, h4, .inl ⟨rfl, _, .of h6⟩, p, vs, rfl, rfl, h6, ?_⟩
  exact q σ _ (g_upd g (xs' := ([] : List α)) (vs' := []) .nil).1
end
/-! ### methods in defs that raise -/
section
variable {X : Cx} {F : Fr} {L : List (Option Asr)} {O : List Own} {α β τ ρ : Type} [Obj α] [Rep β] [RepA τ] [Rep ρ]
variable {k : Nat} {ps : List Str} {x m : Str} {p1 pos apos : Pos} {e o : Expr} {es : List Expr} {b : Bool}
theorem quiet_core {mir : τ → Res ρ} {m : Res τ} {e : Expr} (hK : X.K = F.K) (hM : X.mg = F.mg) (h : PE X e (tCall (spP X.K X.mg mir) [] E0 (tA b F L O m))) : PE X e (tP b F L O (m.bind fun a => (mir a).quiet)) := pe_imp h fun σ H Q ⟨g, q⟩ => by
  rw [out_bind] at q
  refine ⟨g, q.mono (fun a qa vs H1 g1 s1 r1 => ?_) fun _ z => z⟩
  show spP X.K X.mg mir (vs ++ []) H1 Q E0
  rw [List.append_nil]
  refine ⟨a, avoid b F O, g1.go.avoided, by rw [hK, hM, ← rgn_avoid]; exact r1, ?_⟩
  rw [hK, hM]
  cases e : mir a with
  | ok r =>
    rw [e] at qa
    exact fun v H' s2 r2 => qa v H' (g1.grow s2) (s1.trans s2) (by rw [rgn_avoid]; exact r2)
  | err c fs =>
    rw [e] at qa
    exact qa.elim
  | bad =>
    rw [e] at qa
    exact qa.elim
theorem nq_meth {mir : Ar α τ → Res ρ} {mo : Res α} {ma : Res τ} {pl : Sem Bool} (D : MethAt X.prog X.w X.K X.mg X.base k (Obj.cls α) m ps (spP X.K X.mg mir)) (hr : Room k X.A) (ho : PE X o (tP b F L O mo)) (ha : PA X (e :: es) (tA b F L O ma)) (hf : ∀ a : α, (Obj.fa F.K F.mg a).lookup m = none := by intro _; rfl) (hK : X.K = F.K := by rfl) (hM : X.mg = F.mg := by rfl)
    (hs : starEach (e :: es) X.env = (false, eval e X.env) :: starEach es X.env := by rfl) (hs2 : (backTo pos (starEach es X.env)).any (·.1) = false := by rfl)
    (ht : eval (.Call (.Attribute o m apos) (e :: es) [] pos) X.env = (do
      let ov ← eval o X.env
      standAt apos.atName
      let (f, first) ← holding [ov] (getMethod ov m pl)
      callWith pos f first (backTo pos (starEach (e :: es) X.env)) (backToKw pos (keywordEach [] X.env))) := by rfl) : PE X (.Call (.Attribute o m apos) (e :: es) [] pos) (tP b F L O ((mo.bind fun x => ma.bind fun r => .ok (Ar.mk x r)).bind fun a => (mir a).quiet)) := by
  obtain ⟨C, f, fd, h1, h2, h3, h4, h5⟩ := D.ex
  exact quiet_core hK hM (meth_args (ta := tC .non) (t := tNil) h1 hM hf (pe_meth (pl := pl) ho h2 h3 h4 hr h5 .nil pass0 ha hs hs2 ht))
theorem nq_meth0 {mir : Ar α Unit → Res ρ} {mo : Res α} {pl : Sem Bool} (D : MethAt X.prog X.w X.K X.mg X.base k (Obj.cls α) m ps (spP X.K X.mg mir)) (hr : Room k X.A) (ho : PE X o (tP b F L O mo)) (hf : ∀ a : α, (Obj.fa F.K F.mg a).lookup m = none := by intro _; rfl) (hK : X.K = F.K := by rfl) (hM : X.mg = F.mg := by rfl)
    (ht : eval (.Call (.Attribute o m apos) [] [] pos) X.env = (do
      let ov ← eval o X.env
      standAt apos.atName
      let (f, first) ← holding [ov] (getMethod ov m pl)
      callWith pos f first (backTo pos (starEach [] X.env)) (backToKw pos (keywordEach [] X.env))) := by rfl) : PE X (.Call (.Attribute o m apos) [] [] pos) (tP b F L O ((mo.bind fun x => Res.ok (Ar.mk x ())).bind fun a => (mir a).quiet)) := by
  obtain ⟨C, f, fd, h1, h2, h3, h4, h5⟩ := D.ex
  exact quiet_core hK hM (meth_args (ma := .ok ()) (ta := tC .non) (t := tNil) h1 hM hf (meth_nil (pe_meth0 (pl := pl) ho h2 h3 h4 hr h5 .nil pass0 ht) rfl))
/-- o.m(e, ..) of a method that may raise -/
theorem pe_methX {CX : CXT} {C f : Addr} {fd : FuncData} {sp : Sp} {E : L2.St → XK} {ta : TE} {t : TA} {pl : Sem Bool} (he : PE X o ta) (c : Cls X.K C) (hm : Meth X.K C m f) (G : FnOk X.prog X.w X.K X.mg X.base CX k f fd ps sp) (hr : Room k X.A) (hb : Binds X.K fd ps []) (hx : ∀ σ, PassesAt CX X σ (E σ)) (ha : PA X (e :: es) t)
    (hst : starEach (e :: es) X.env = (false, eval e X.env) :: starEach es X.env := by rfl) (hpl : (backTo pos (starEach es X.env)).any (·.1) = false := by rfl)
    (ht : eval (.Call (.Attribute o m apos) (e :: es) [] pos) X.env = (do
      let ov ← eval o X.env
      standAt apos.atName
      let (f, first) ← holding [ov] (getMethod ov m pl)
      callWith pos f first (backTo pos (starEach (e :: es) X.env)) (backToKw pos (keywordEach [] X.env))) := by rfl) :
    PE X (.Call (.Attribute o m apos) (e :: es) [] pos) (fun σ H Q => ta σ H fun x H1 => ∃ a dx fs, x = .ref a ∧ H1 a = some (.ins C dx fs) ∧ fs.lookup m = none ∧ t σ H1 fun vs H2 => sp (x :: vs) H2 Q (E σ)) := by
  refine ⟨fun pins s σ H Q I h => ?_⟩
  refine PySem.W.methodCall_KW (pl := pl) (thn (he.run pins s σ H _ I h) fun u s1 ⟨x, H1, I1, rx, a, dx, fs, ex, ea, l, q⟩ => ?_) ht
  subst ex
  obtain rfl : u = Value.ref a := rx
  refine getmeth_ok I1 ea c hm l ?_
  refine PySem.W.callWith_K (first := [.ref a]) (h₀ := X.base) I.ok.mod.kin hm.kp (thn (ha.run pos pins s1 σ H1 _ I1 q) fun us s2 ⟨vs, H2, I2, r, q2⟩ => ⟨I2.kIn, ?_⟩) hst hpl
  exact run_fnS (us := .ref a :: us) (vs := .ref a :: vs) G hr hb (hx σ) I2 (.cons rfl r) q2
/-- a method that may raise -/
structure MethX (P : Program) (w : World) (K : Fg) (mg : MG) (base : Heap) (k : Nat) (x m : Str) (ps : List Str) (sp : Sp) : Prop where
  ex : ∃ (C f : Addr) (fd : FuncData), mg x = some (.ref C) ∧ Cls K C ∧ Meth K C m f ∧ FnOk P w K mg base (L2N.CX P w) k f fd ps sp ∧ Binds K fd ps []
/-- the owned object at p becomes what a call made of it -/
theorem g_back {ι : Type} [OwR ι] {p : Addr} {xs ys : ι} {σ : L2.St} {H1 H' : Hp} {ob : HO} (g1 : G F L (ow F.K F.mg p xs :: O) σ H1) (kb : KeepBut p H1 H') (hp' : H' p = some ob) (rr : OwR.P F.K F.mg (less H' (p :: (addrs O ++ F.A))) ob ys) : G F L (ow F.K F.mg p ys :: O) σ H' := by
  have hpn : p ∉ addrs O ++ F.A := fun z => by
    rcases List.mem_append.mp z with z | z
    · exact (List.nodup_cons.mp (show (p :: addrs O).Nodup from g1.go.nd)).1 z
    · exact g1.go.apart _ List.mem_cons_self z
  have er : Same (rg F (ow F.K F.mg p xs :: O) H1) (rg F (ow F.K F.mg p ys :: O) H') := kb_rg kb
  refine ⟨L2.Paired.mapP g1.slots fun _ _ z => z.mono er, ?_⟩
  exact {
    objs := fun w hw => by
      rcases List.mem_cons.mp hw with rfl | hw
      · exact ⟨_, hp', rr⟩
      · obtain ⟨o, ho, q⟩ := g1.go.objs w (List.mem_cons_of_mem _ hw)
        exact ⟨o, kb _ _ ho (fun y => hpn (by rw [← y]; exact List.mem_append_left _ (List.mem_map.mpr ⟨w, hw, rfl⟩))), w.mono er q⟩
    nd := g1.go.nd
    own := fun w hw => by
      rcases List.mem_cons.mp hw with rfl | hw
      · exact g1.go.own (ow F.K F.mg p xs) List.mem_cons_self
      · exact g1.go.own w (List.mem_cons_of_mem _ hw)
    keep := fun a o h hw => by
      refine kb _ _ (g1.go.keep a o h hw) fun y => ?_
      subst y
      rcases g1.go.own _ List.mem_cons_self with z | z
      · exact hw z
      · have z' : F.H0 a = none := z
        rw [z'] at h; cases h
    live := fun a h => by
      by_cases hne : a = p
      · subst hne; rw [hp']; simp
      · cases z : H1 a with
        | none => exact (g1.go.live a h z).elim
        | some o => rw [kb _ _ z hne]; simp
    hid := g1.go.hid
    apart := fun w hw => by
      rcases List.mem_cons.mp hw with rfl | hw
      · exact g1.go.apart (ow F.K F.mg p xs) List.mem_cons_self
      · exact g1.go.apart w (List.mem_cons_of_mem _ hw)
    facts := fun z hz => z.mono er (g1.go.facts z hz) }
/-- y.m(e, ..), y an owned instance, m changes it or raises while it stands as it was -/
theorem e_methX {p : Addr} {s : α} {y : Str} {p2 : Pos} {mir : α → τ → Res (ρ × α)} {ma : Res τ} {pl : Sem Bool} (i : Nat) (D : MethX X.prog X.w X.K X.mg X.base k (Obj.cls α) m ps (spIX X.K X.mg mir)) (hr : Room k X.A) (tk : TkX X F L (ow F.K F.mg p s :: O)) (hL : L[i]? = some (rf p)) (hO : List.Sublist F.O0 (ow F.K F.mg p s :: O)) (ha : PA X (e :: es) (tA true F L (ow F.K F.mg p s :: O) ma)) (hf : ∀ a : α, (Obj.fa F.K F.mg a).lookup m = none := by intro _; rfl) (hK : X.K = F.K := by rfl) (hM : X.mg = F.mg := by rfl)
    (hN : X.N[i]? = some y := by rfl) (hv : Vis X.env.scope y := by first | exact Or.inl rfl | exact Or.inr (Or.inl rfl) | exact Or.inr (Or.inr rfl)) (hd2 : (y == ("__debug__" : Str)) = false := by decide) (hcd : (y == ("__classdict__" : Str)) = false := by decide)
    (hs : starEach (e :: es) X.env = (false, eval e X.env) :: starEach es X.env := by rfl) (hs2 : (backTo pos (starEach es X.env)).any (·.1) = false := by rfl)
    (ht : eval (.Call (.Attribute (.Name y p2) m apos) (e :: es) [] pos) X.env = (do
      let ov ← eval (.Name y p2) X.env
      standAt apos.atName
      let (f, first) ← holding [ov] (getMethod ov m pl)
      callWith pos f first (backTo pos (starEach (e :: es) X.env)) (backToKw pos (keywordEach [] X.env))) := by rfl) :
    PE X (.Call (.Attribute (.Name y p2) m apos) (e :: es) [] pos) (tE true F L p s O (ma.bind fun a => mir s a)) := by
  obtain ⟨C, f, fd, h1, h2, h3, h4, h5⟩ := D.ex
  obtain ⟨W, tk, hW⟩ := tk
  refine pe_imp (pe_methX (E := WE W) (pl := pl) (pe_var hN hv hd2 hcd) h2 h3 h4 hr h5 (fun σ => L2N.passAt tk σ) ha hs hs2 ht) fun σ H Q ⟨g, q⟩ => ?_
  obtain ⟨w, h6, h7⟩ := g.slot hL
  have h7' : w = V.ref p := h7
  subst h7'
  obtain ⟨C', dx, vs, h8, h9, h10⟩ := obj_at g List.mem_cons_self
  have eC : C' = C := by
    rw [← hM, h1] at h9
    cases h9
    rfl
  subst eC
  rw [out_bind] at q
  refine ⟨_, h6, p, dx, vs, rfl, h8, h10.miss (hf s), g, q.mono (fun a qa us H1 g1 s1 r1 => ?_) fun H' ⟨a, _⟩ => a.go.sub hO⟩
  obtain ⟨ob, h11, h12⟩ := g1.go.objs _ List.mem_cons_self
  rw [hK, hM]
  refine ⟨p, a, addrs O ++ F.A, s, us, ob, fun c hc z => g1.go.out z (List.mem_cons_of_mem _ hc), fun z => ?_, rfl, r1, h11, h12, ?_⟩
  · rcases List.mem_append.mp z with z | z
    · exact (List.nodup_cons.mp (show (p :: addrs O).Nodup from g1.go.nd)).1 z
    · exact g1.go.apart _ List.mem_cons_self z
  · cases e1 : mir s a with
    | ok r =>
      rw [e1] at qa
      exact fun v H' ob' kb h13 h14 h15 => qa v H' (g_back g1 kb h13 h14) ((KeepBut.of s1).trans kb) h15
    | err c fs =>
      rw [e1] at qa
      intro D d H' h13 h14 h15 h16
      obtain ⟨ob', h17, h18⟩ := h16
      have kb : KeepBut p H1 H' := fun b o hb hne => h15.keep b o hb fun z => hne (List.mem_singleton.mp z)
      have gb := g_back g1 kb h17 h18
      exact hW _ _ _ _ (qa D d H' h13 (h14.older g1.go.live) (gb.go.sub hO)) gb
    | bad =>
      rw [e1] at qa
      exact qa.elim
end
end NF

set_option Elab.async false
set_option linter.all false
set_option maxRecDepth 100000
set_option maxHeartbeats 1000000
/-! Nf25: loops that break; a try for a class above those that are raised; == of data beside what changes an object; an instance made of an owned list. -/
namespace NF
open PySem PySem.Spec PyProof.Rows L2
open Data (toD)
/-! ### break -/
inductive Brk (β δ : Type) where
  | go (b : β)
  | stop (b : β)
  | ret (d : δ)
def tK {β δ : Type} (F : Fr) (L : List (Option Asr)) (O : List Own) (m : Res (Brk β δ)) (L' : β → List (Option Asr)) (O' : β → List Own) (Ret : δ → V → Hp → Prop) : TS := fun D σ H =>
  G F L O σ H ∧ Out F m (fun r => match r with
    | .go b => ∀ σ' H', G F (L' b) (O' b) σ' H' → D.nx σ' H'
    | .stop b => ∀ σ' H', G F (L' b) (O' b) σ' H' → D.bk σ' H'
    | .ret d => ∀ v H', Ret d v H' → D.rt v H') (XPS F)
def foldK {α β δ : Type} (f : α → β → Res (Brk β δ)) : List α → β → Res (Sum β δ)
  | [], b => .ok (.inl b)
  | a :: as, b => (f a b).bind fun r => match r with
    | .go b => foldK f as b
    | .stop b => .ok (.inl b)
    | .ret d => .ok (.inr d)
section
variable {X : Cx} {F : Fr} {L : List (Option Asr)} {O : List Own} {p : Addr} {α β γ ι B D' : Type} [Rep α] [Rep β] [Rep γ] [OwR ι] {Ret : D' → V → Hp → Prop} {L' : B → List (Option Asr)} {O' : B → List Own}
variable {st : Stmt} {rest : List Stmt} {B1 : Type} {L1 : B1 → List (Option Asr)} {O1 : B1 → List Own} {pos : Pos}
theorem k_N {m1 : Res B1} {m2 : B1 → Res (Brk B D')} (h1 : PS X st (tN F L O m1 L1 O1)) (h2 : ∀ b, PSs X rest (tK F (L1 b) (O1 b) (m2 b) L' O' Ret)) : PSs X (st :: rest) (tK F L O (m1.bind m2) L' O' Ret) := pss_imp (pss_cons h1 (pss_ex h2)) fun D σ H ⟨g, q⟩ => by
  rw [out_bind] at q
  exact ⟨g, q.mono (fun b k σ' H' g' => ⟨b, g', k⟩) fun _ z => z⟩
theorem k_Np {L1 : Addr → B1 → List (Option Asr)} {O1 : Addr → B1 → List Own} {m1 : Res B1} {m2 : B1 → Res (Brk B D')} (h1 : PS X st (tNp F L O m1 L1 O1)) (h2 : ∀ b p, PSs X rest (tK F (L1 p b) (O1 p b) (m2 b) L' O' Ret)) : PSs X (st :: rest) (tK F L O (m1.bind m2) L' O' Ret) := pss_imp (pss_cons h1 (pss_ex fun b => pss_ex (h2 b))) fun D σ H ⟨g, q⟩ => by
  rw [out_bind] at q
  exact ⟨g, q.mono (fun b k p σ' H' g' => ⟨b, p, g', k⟩) fun _ z => z⟩
theorem k_M {m1 : Res (Sum B1 D')} {m2 : B1 → Res (Brk B D')} (h1 : PS X st (tM F L O m1 L1 O1 Ret)) (h2 : ∀ b, PSs X rest (tK F (L1 b) (O1 b) (m2 b) L' O' Ret)) : PSs X (st :: rest) (tK F L O (m1.bind fun r => match r with
    | .inl b => m2 b
    | .inr d => .ok (.ret d)) L' O' Ret) := pss_imp (pss_cons h1 (pss_ex h2)) fun D σ H ⟨g, q⟩ => by
  rw [out_bind] at q
  refine ⟨g, q.mono (fun r k => ?_) fun _ z => z⟩
  cases r with
  | inl b => exact fun σ' H' g' => ⟨b, g', k⟩
  | inr d => exact k
theorem k_end (b : B) (h : wk L (L' b)) (ho : List.Sublist (O' b) O) : PSs X [] (tK F L O (.ok (.go b)) L' O' Ret) := pss_imp pss_nil fun D σ H ⟨g, q⟩ => q σ H (g.to h ho)
theorem k_brk (b : B) (h : wk L (L' b)) (ho : List.Sublist (O' b) O) : PSs X [.Break pos] (tK F L O (.ok (.stop b)) L' O' Ret) := pss_one (ps_imp ps_break fun D σ H ⟨g, q⟩ => q σ H (g.to h ho))
theorem k_T {m : Res D'} {st : List Stmt} (h : PSs X st (tT F L O m Ret)) : PSs X st (tK F L O (m.bind fun d => .ok (.ret d)) L' O' Ret) := pss_imp h fun D σ H ⟨g, q⟩ => by
  rw [out_bind] at q
  exact ⟨g, q⟩
theorem k_perm {st : List Stmt} {m : Res (Brk B D')} {O2 : List Own} (h : O.Perm O2) (hs : PSs X st (tK F L O2 m L' O' Ret)) : PSs X st (tK F L O m L' O' Ret) := pss_imp hs fun D σ H ⟨g, q⟩ => ⟨g.perm h, q⟩
theorem k_ifB {c : Expr} {mc : Res Bool} {m2 : Res (Brk B D')} {bpos : Pos} (b : B) (hc : PT X c (tB' F L O mc)) (h : wk L (L' b)) (ho : List.Sublist (O' b) O) (hr : PSs X rest (tK F L O m2 L' O' Ret)) (hO : List.Sublist F.O0 O) : PSs X (.If c [.Break bpos] [] pos :: rest) (tK F L O (mc.bind fun c => if c then .ok (.stop b) else m2) L' O' Ret) := pss_imp (pss_cons (ps_if hc (pss_one ps_break) pss_nil) hr) fun D σ H ⟨g, q⟩ => by
  rw [out_bind] at q
  refine ⟨g, q.mono (fun c k H1 g1 s1 => ?_) fun H' ⟨a, _⟩ => a.go.sub hO⟩
  cases c with
  | true => exact k σ H1 (g1.to h ho)
  | false => exact ⟨g1, k⟩
theorem k_ifT {c : Expr} {mc : Res Bool} {body : List Stmt} {m1 : Res D'} {m2 : Res (Brk B D')} (hc : PT X c (tB' F L O mc)) (hb : PSs X body (tT F L O m1 Ret)) (hr : PSs X rest (tK F L O m2 L' O' Ret)) (hO : List.Sublist F.O0 O) : PSs X (.If c body [] pos :: rest) (tK F L O (mc.bind fun c => if c then (m1.bind fun d => .ok (.ret d)) else m2) L' O' Ret) := pss_imp (pss_cons (ps_if hc hb pss_nil) hr) fun D σ H ⟨g, q⟩ => by
  rw [out_bind] at q
  refine ⟨g, q.mono (fun c k H1 g1 s1 => ?_) fun H' ⟨a, _⟩ => a.go.sub hO⟩
  cases c with
  | true =>
    simp only [if_true] at k
    rw [out_bind] at k
    exact ⟨g1, k⟩
  | false => exact ⟨g1, k⟩
theorem ke_ifT {xs : ι} {c : Expr} {mc : Res (Bool × ι)} {body : List Stmt} {m1 : ι → Res D'} {m2 : ι → Res (Brk B D')} (hc : PT X c (tEB F L p xs O mc)) (hb : ∀ xs', PSs X body (tT F L (ow F.K F.mg p xs' :: O) (m1 xs') Ret)) (hr : ∀ xs', PSs X rest (tK F L (ow F.K F.mg p xs' :: O) (m2 xs') L' O' Ret)) :
    PSs X (.If c body [] pos :: rest) (tK F L (ow F.K F.mg p xs :: O) (mc.bind fun u => if u.1 then ((m1 u.2).bind fun d => .ok (.ret d)) else m2 u.2) L' O' Ret) := pss_imp (pss_cons (ps_if hc (pss_ex hb) pss_nil) (pss_ex hr)) fun D σ H ⟨g, q⟩ => by
  rw [out_bind] at q
  refine ⟨g, q.mono (fun u k H1 g1 s1 => ?_) fun _ z => z⟩
  cases hu : u.1 with
  | true =>
    rw [hu] at k
    simp only [if_true] at k
    rw [out_bind] at k
    exact ⟨u.2, g1, k⟩
  | false => rw [hu] at k; exact ⟨u.2, g1, k⟩
theorem s_forK {tg iter : Expr} {g : TG} {vs : List Nat} {bd : α → List (Option Asr) → List (Option Asr)} {m : Res (List α)} {f : α → B → Res (Brk B D')} {body : List Stmt} {b0 : B} (sp : Sp3 L' O' b0)
    (hp : PassesOwn (model X.prog X.w) X.A X.env X.xe) (hc : X.calm = true) (hi : PI X tg iter (tI true F L O m)) (ht : Tg X F.K F.mg tg g vs bd) (hO : List.Sublist F.O0 O) (hw : wk L (L' b0)) (ho : List.Sublist (O' b0) O)
    (hb : ∀ z a b, PSs X body (tK (F.add z) (bd a (L' b)) (O' b) (f a b) L' O' Ret)) (hs : ∀ x, foldedSetIterable iter X.env x = pure x := by intro _; rfl) : PS X (.For tg iter body [] pos) (tM F L O (m.bind fun as => foldK f as b0) L' O' Ret) := by
  have hb' : PSs X body (fun D σ H => ∃ z a b, tK (F.add z) (bd a (L' b)) (O' b) (f a b) L' O' Ret D σ H) := pss_ex fun z => pss_ex fun a => pss_ex fun b => hb z a b
  have hg : PG X tg g := ht.pg
  refine ps_imp (ps_for hp hc hi hg hb' hs) fun D σ H ⟨g0, q⟩ => ?_
  rw [out_bind] at q
  refine ⟨g0, q.mono (fun as k J H1 S g1 s1 hS => ?_) fun H' ⟨a, _⟩ => a.go.sub hO⟩
  have zf : ∃ z : Fact, z = ⟨S.src, fun e h => S.mono e h⟩ := ⟨_, rfl⟩
  obtain ⟨z, hz⟩ := zf
  refine for_it S.walk (g := g) (tb := fun D σ H => ∃ z a b, tK (F.add z) (bd a (L' b)) (O' b) (f a b) L' O' Ret D σ H) (D := D) (σ := σ) (H := H1) (fun i σ H => ∃ b, G (F.add z) (L' b) (O' b) σ H ∧ Out F (foldK f (as.drop i) b) (fun r => match r with
    | .inl b => ∀ σ' H', G F (L' b) (O' b) σ' H' → D.nx σ' H'
    | .inr d => ∀ v H', Ret d v H' → D.rt v H') (XPS F)) ⟨b0, ?_, k⟩ ?_ ?_ ?_
  · have g2 := g1.to hw ho
    refine ⟨g2.slots, g2.go.add z ?_⟩
    subst hz
    exact S.mono (rg_sub ho) hS
  · rintro i σ H _ ⟨b, g2, _⟩
    have h := g2.go.fact
    subst hz
    exact S.mono less_same h
  · rintro i x σ H H' hi ⟨b, g2, q2⟩ y
    have ha : as[i]? = some as[i] := List.getElem?_eq_getElem hi
    rw [List.drop_eq_getElem_cons hi] at q2
    rw [show foldK f (as[i] :: List.drop (i + 1) as) b = (f as[i] b).bind fun r => match r with
      | .go b => foldK f (List.drop (i + 1) as) b
      | .stop b => .ok (.inl b)
      | .ret d => .ok (.inr d) from rfl, out_bind] at q2
    obtain ⟨s2, yy⟩ := S.ylds i H x H' y
    have hsrc : S.src (rg F (O' b) H) := by
      have h := g2.go.fact
      subst hz
      exact h
    have r2 : rp (F.add z) (rg F (O' b) H') x as[i] := yy _ (fun a ha z => g2.go.out z ha) hsrc _ ha
    have g3 := g2.grow s2
    refine ht.ok x as[i] σ H' (rg F (O' b) H') (L' b) _ less_same r2 g3.slots fun σ2 _ hs2 => ?_
    refine ⟨z, as[i], b, ⟨hs2, g3.go⟩, out_add.mpr (q2.mono (fun r kb => ?_) fun H'' (x : GO (F.add z) F.O0 H'') => x.unadd)⟩
    cases r with
    | go b' => exact fun σ' H'' g' => ⟨b', g', kb⟩
    | stop b' => exact fun σ' H'' g' => kb σ' H'' ⟨g'.slots, g'.go.unadd⟩
    | ret d => exact fun v H'' hr => kb v H'' hr
  · rintro σ H ⟨b, g2, q2⟩
    rw [List.drop_length] at q2
    exact q2 σ H ⟨g2.slots, g2.go.unadd⟩
/-! ### == and != of data, the left side changing an object -/
theorem ne2ts {xs : ι} {x y e : Expr} {r : R2} {ma : Res (α × ι)} {mb : ι → Res (β × ι)} {mc : α → β → Res Bool} (c : ∀ {ta tb : TE}, PE X x ta → PE X y tb → PT X e (tTest (tOp r ta tb)))
    (hx : PE X x (tE true F L p xs O ma)) (hy : ∀ xs', PE X y (tE true F L p xs' O (mb xs'))) (hr : ∀ xs' : ι, RR F L (ow F.K F.mg p xs' :: O) true true true r mc) (hO : ∀ xs' : ι, List.Sublist F.O0 (ow F.K F.mg p xs' :: O)) :
    PT X e (tEB F L p xs O (ma.bind fun u => (mb u.2).bind fun w => (mc u.1 w.1).bind fun z => .ok (z, w.2))) := pt_imp (c hx (pe_ex hy)) fun σ H Q ⟨g, q⟩ => by
  rw [out_bind] at q
  refine ⟨g, q.mono (fun u qx v1 H1 g1 s1 r1 => ?_) fun _ z => z⟩
  rw [out_bind] at qx
  refine ⟨u.2, g1, qx.mono (fun w qy v2 H2 g2 s2 r2 => ?_) fun _ z => z⟩
  rw [out_bind] at qy
  exact hr w.2 u.1 w.1 v1 v2 H2 σ _ g2 (Rep.mono (kb_rg s2) r1) r2 (qy.mono (fun z kz v H' g' s' r' => ⟨z, r', kz H' g' ((s1.trans s2).trans (.of s'))⟩) fun H' ⟨a, b⟩ => a.go.sub (hO _))
theorem et_eqD [Data α] [Data β] {xs : ι} {x y : Expr} {ma : Res (α × ι)} {mb : ι → Res (β × ι)} (hx : PE X x (tE true F L p xs O ma)) (hy : ∀ xs', PE X y (tE true F L p xs' O (mb xs'))) (hO : ∀ xs' : ι, List.Sublist F.O0 (ow F.K F.mg p xs' :: O)) (hu : X.A.units + 64 < cLine) (hK : X.K = F.K := by rfl) :
    PT X (.Compare x [.Eq] [y] pos) (tEB F L p xs O (ma.bind fun u => (mb u.2).bind fun w => (need (shp u.1 = true ∧ shp w.1 = true) (.ok (eqD u.1 w.1))).bind fun z => .ok (z, w.2))) := ne2ts (fun h1 h2 => pt_cmpR (op_eqD hu) h1 h2 (nomark _)) hx hy (fun _ => rr_eqD hK) hO
theorem et_neD [Data α] [Data β] {xs : ι} {x y : Expr} {ma : Res (α × ι)} {mb : ι → Res (β × ι)} (hx : PE X x (tE true F L p xs O ma)) (hy : ∀ xs', PE X y (tE true F L p xs' O (mb xs'))) (hO : ∀ xs' : ι, List.Sublist F.O0 (ow F.K F.mg p xs' :: O)) (hu : X.A.units + 64 < cLine) (hK : X.K = F.K := by rfl) :
    PT X (.Compare x [.NotEq] [y] pos) (tEB F L p xs O (ma.bind fun u => (mb u.2).bind fun w => (need (shp u.1 = true ∧ shp w.1 = true) (.ok (!eqD u.1 w.1))).bind fun z => .ok (z, w.2))) := ne2ts (mc := fun (u : α) (w : β) => need (shp u = true ∧ shp w = true) (.ok (!eqD u w))) (fun h1 h2 => pt_cmpR (op_neD hu) h1 h2 (nomark _)) hx hy (fun _ x y vx vy H σ Q g rx ry q => by
    rw [out_need] at q
    rw [hK]
    exact ⟨_, _, Data.dp (Rep.mono rgn_sub rx), Data.dp (Rep.mono rgn_sub ry), q.1.1, q.1.2, kp_flat g q.2⟩) hO
end
end NF

set_option Elab.async false
set_option linter.all false
set_option maxRecDepth 100000
set_option maxHeartbeats 1000000
/-! Nf26: a try for a class above the two that are raised; an instance made of an owned list. -/
namespace NF
open PySem PySem.Spec PyProof.Rows L2
open Data (toD)
def tryR2 {α : Type} (x1 x2 : Str) (m : Res α) (h1 h2 : List (Str × PyData) → Res α) : Res α := match m with
  | .ok a => .ok a
  | .err c fs => if c = x1 then need ((fs.all fun p => flatD p.2) = true) (h1 fs) else if c = x2 then need ((fs.all fun p => flatD p.2) = true) (h2 fs) else .bad
  | .bad => .bad
theorem pss_or {X : Cx} {st : List Stmt} {t1 t2 : TS} (h1 : PSs X st t1) (h2 : PSs X st t2) : PSs X st (fun D σ H => t1 D σ H ∨ t2 D σ H) := ⟨fun pins s σ H D I q => q.elim (fun q => h1.run pins s σ H D I q) fun q => h2.run pins s σ H D I q⟩
section
variable {X : Cx} {F : Fr} {L Lh : List (Option Asr)} {O : List Own} {B D' : Type} {Ret : D' → V → Hp → Prop} {L' : B → List (Option Asr)} {O' : B → List Own}
variable {x x1 x2 n : Str} {C C1 C2 : Addr} {body suite : List Stmt} {b₀ : Stmt} {np pos pos' : Pos}
theorem s_try2 {W0 : WX} {mb : Res (Sum B D')} {mh1 mh2 : List (Str × PyData) → Res (Sum B D')} (i : Nat) (hm : X.mg x = some (.ref C)) (hm1 : X.mg x1 = some (.ref C1)) (hm2 : X.mg x2 = some (.ref C2)) (hex1 : PySem.W.exmOne X.K (.ref C1) (.ref C) = some true) (hex2 : PySem.W.exmOne X.K (.ref C2) (.ref C) = some true) (tk : L2N.Takes X W0) (hN : X.N.Nodup) (hno : NoXd O) (hO : List.Sublist F.O0 O)
    (hLi : ∀ b, (L' b).set i none = L' b)
    (hb : ∀ (E' : XK) (pn : List (Addr × PySem.Obj)) (xe : Value → Shared → Prop), TkX (X.tr pn xe) (Ft F E' O) Lh O → PSs (X.tr pn xe) body (tM (Ft F E' O) L O mb L' O' Ret))
    (hh1 : ∀ (a : Addr) (oe : PySem.Obj) (d : Option Addr) (pn : List (Addr × PySem.Obj)) (fs : List (Str × PyData)), L2N.Zn (.ref C1) d oe → (∃ vs, oe.data = .fields vs) → PSs (X.suite a ((a, oe) :: pn)) (b₀ :: suite) (tM (F.add (xdF d fs)) (Lh.set i (rf a)) O (mh1 fs) L' O' Ret))
    (hh2 : ∀ (a : Addr) (oe : PySem.Obj) (d : Option Addr) (pn : List (Addr × PySem.Obj)) (fs : List (Str × PyData)), L2N.Zn (.ref C2) d oe → (∃ vs, oe.data = .fields vs) → PSs (X.suite a ((a, oe) :: pn)) (b₀ :: suite) (tM (F.add (xdF d fs)) (Lh.set i (rf a)) O (mh2 fs) L' O' Ret))
    (hi : X.N[i]? = some n := by rfl) (hln : X.env.kindOf n = some .local := by rfl) (hg : Gl X x := by rfl) (hdb : (x == ("__debug__" : Str)) = false := by decide) (hs : X.stack = X.env :: X.outer := by rfl) (hf : X.env.frame = some X.env.locals := by rfl) (hK : X.K = F.K := by rfl) (hM : X.mg = F.mg := by rfl) :
    PS X (.Try body [.ExceptHandler (some (.Name x np)) (some n) (b₀ :: suite) pos'] [] [] pos) (tM F L O (tryR2 x1 x2 mb mh1 mh2) L' O' Ret) := by
  have hc : Names X x (.ref C) := ⟨hg, hdb, .inl hm⟩
  refine ps_imp (L2N.ps_try_as (tb := fun W D σ H => tM (Ft F (fun cls d H' => ∀ σ', G F Lh O σ' H' → W cls d σ' H') O) L O mb L' O' Ret D σ H)
    (ts := fun a cls d D σ H => (cls = .ref C1 ∧ ∃ fs, tM (F.add (xdF d fs)) (Lh.set i (rf a)) O (mh1 fs) L' O' Ret D σ H) ∨ (cls = .ref C2 ∧ ∃ fs, tM (F.add (xdF d fs)) (Lh.set i (rf a)) O (mh2 fs) L' O' Ret D σ H)) (i := i) hs hf hN hi hln hc tk
    (fun W pn xe tkW _ => hb _ pn xe ⟨W, tkW, fun c d σ H e g => e σ (g_tf g)⟩)
    (fun a oe cls d pn hz hd => pss_or (pss_fact fun e => pss_ex fun fs => by
      subst e
      exact hh1 a oe d pn fs hz hd) (pss_fact fun e => pss_ex fun fs => by
      subst e
      exact hh2 a oe d pn fs hz hd))) fun D σ H ⟨g, q⟩ => ?_
  refine ⟨g_ft g, ?_⟩
  cases em : mb with
  | ok r =>
    rw [em] at q
    cases r with
    | inl b => exact fun σ' H' g' => q σ' H' (g_tf g')
    | inr d => exact q
  | bad =>
    rw [em] at q
    exact q
  | err c fs =>
    rw [em] at q
    unfold tryR2 at q
    -- what either class needs
    have one : ∀ (xx : Str) (CC : Addr) (mh : List (Str × PyData) → Res (Sum B D')), X.mg xx = some (.ref CC) → PySem.W.exmOne X.K (.ref CC) (.ref C) = some true → c = xx → (fs.all fun p => flatD p.2) = true →
        ∀ C' d H', F.mg c = some (.ref C') → XdAt F.K F.H0 H' d fs → ∀ σ', G F Lh O σ' H' → ∀ a, H' a = none → C' = CC ∧ G (F.add (xdF d fs)) (Lh.set i (rf a)) O (σ'.set i (some (V.ref a))) H' := by
      intro xx CC mh hmx hexx hcx hfl C' d H' h1 h2 σ' gh a na
      subst hcx
      have eC : C' = CC := by
        rw [← hM, hmx] at h1
        cases h1
        rfl
      refine ⟨eC, ⟨paired_set (x := rf a) (y := some (V.ref a)) rfl i gh.slots, gh.go.add _ ?_⟩⟩
      · cases d with
        | none => exact h2
        | some d =>
          obtain ⟨h5, vs, h6, h7⟩ := h2
          have e := xd_flat h7 hfl
          subst e
          show less H' (addrs O ++ F.A) d = _
          rw [less_out]
          · exact h6
          · intro z
            rcases List.mem_append.mp z with z | z
            · obtain ⟨w, hw, e⟩ := List.mem_map.mp z
              obtain ⟨o, h8, h9⟩ := gh.go.objs w hw
              rw [e, h6] at h8
              cases h8
              exact hno w hw _ _ h9
            · exact gh.go.hid d z h5
    intro C' d H' h1 h2 h4 σ' gh
    by_cases hcx : c = x1
    · simp only [hcx, if_true] at q
      rw [out_need] at q
      refine ⟨true, ?_, fun _ a na => ?_, fun z => by cases z⟩
      · have eC : C' = C1 := by
          have z : F.mg c = some (.ref C') := h1
          rw [← hM, hcx, hm1] at z
          cases z
          rfl
        rw [eC]; exact hex1
      · obtain ⟨e1, e2⟩ := one x1 C1 mh1 hm1 hex1 hcx q.1 C' d H' h1 h2 σ' gh a na
        refine .inl ⟨by rw [e1], fs, e2, ?_⟩
        rw [out_add]
        refine q.2.mono (fun r k => ?_) fun H'' (x : GO (F.add _) F.O0 H'') => x.unadd
        cases r with
        | inl b => exact fun σ2 H2 g2 => k _ _ ⟨by have z := paired_set (x := (none : Option Asr)) (y := (none : Option V)) (R := SlotOk (rg F (O' b) H2)) trivial i g2.slots; rwa [hLi] at z, g2.go.unadd⟩
        | inr d => exact k
    · simp only [hcx, if_false] at q
      by_cases hcx2 : c = x2
      · simp only [hcx2, if_true] at q
        rw [out_need] at q
        refine ⟨true, ?_, fun _ a na => ?_, fun z => by cases z⟩
        · have eC : C' = C2 := by
            have z : F.mg c = some (.ref C') := h1
            rw [← hM, hcx2, hm2] at z
            cases z
            rfl
          rw [eC]; exact hex2
        · obtain ⟨e1, e2⟩ := one x2 C2 mh2 hm2 hex2 hcx2 q.1 C' d H' h1 h2 σ' gh a na
          refine .inr ⟨by rw [e1], fs, e2, ?_⟩
          rw [out_add]
          refine q.2.mono (fun r k => ?_) fun H'' (x : GO (F.add _) F.O0 H'') => x.unadd
          cases r with
          | inl b => exact fun σ2 H2 g2 => k _ _ ⟨by have z := paired_set (x := (none : Option Asr)) (y := (none : Option V)) (R := SlotOk (rg F (O' b) H2)) trivial i g2.slots; rwa [hLi] at z, g2.go.unadd⟩
          | inr d => exact k
      · simp only [hcx2, if_false] at q
        exact q.elim
end
/-! ### an instance made of an owned list -/
/-- what its fields hold is no list -/
class ObjNL (α : Type) [Obj α] : Prop where
  nl : ∀ {K : Fg} {mg : MG} {H : Hp} {q : Addr} {ws : List V} {a : α} {vs : List (Str × V)}, H q = some (.lst ws) → FldsOk H (Obj.fa K mg a) vs → FldsOk (less H [q]) (Obj.fa K mg a) vs
theorem tp_nl {α : Type} [Rep α] [Flat α] {K : Fg} {mg : MG} {H : Hp} {q : Addr} {ws : List V} {v : V} {a : Tp α} (h : H q = some (.lst ws)) (r : Rep.rep K mg H v a) : Rep.rep K mg (less H [q]) v a := by
  obtain ⟨p, vs, e, h2, h3⟩ := r
  have rd : ∀ u : HO, (∀ zs, u ≠ .lst zs) → Rd H p u → Rd (less H [q]) p u := fun u hu z => by
    have ne : p ∉ [q] := fun y => by
      have y' := List.mem_singleton.mp y
      subst y'
      rcases z with z | ⟨o, z⟩
      · rw [h] at z
        cases z
        exact hu _ rfl
      · rw [h] at z
        cases z
    rcases z with z | ⟨o, z⟩
    · exact .inl (by rw [less_out ne]; exact z)
    · exact .inr ⟨o, by rw [less_out ne]; exact z⟩
  refine ⟨p, vs, e, ?_, reps_flat.mpr (reps_flat.mp h3)⟩
  rcases h2 with h2 | h2
  · exact .inl (rd _ (fun _ z => by cases z) h2)
  · exact .inr h2
theorem noxd_consO {α : Type} [Obj α] {K : Fg} {mg : MG} {p : Addr} {a : α} {O : List Own} (h : NoXd O) : NoXd (ow K mg p a :: O) := fun w hw H vs z => by
  rcases List.mem_cons.mp hw with rfl | hw
  · obtain ⟨_, _, _, e, _⟩ := z
    cases e
  · exact h w hw H vs z
section
variable {X : Cx} {F : Fr} {L : List (Option Asr)} {O : List Own} {α β τ : Type} [Obj α] [ObjNL α] [Rep β] [RepA τ]
variable {k : Nat} {ps : List Str} {x z : Str} {p1 p2 pos : Pos} {es : List Expr} {q : Addr} {hs : List β}
/-- x(z, ..), z an owned list -/
theorem fo_makeL {mir : Ar (Sq β) τ → Res α} {ma : Res τ} (i : Nat) (D : MkAt X.prog X.w X.K X.mg X.base k x ps mir) (hr : Room (k + 1) X.A) (hL : L[i]? = some (rf q)) (ha : PA X es (tA true F L (ow F.K F.mg q hs :: O) ma)) (hg : Gl X x := by rfl) (hE : F.E = E0 := by rfl) (hK : X.K = F.K := by rfl) (hM : X.mg = F.mg := by rfl) (hd : (x == ("__debug__" : Str)) = false := by decide)
    (hN : X.N[i]? = some z := by rfl) (hv : Vis X.env.scope z := by first | exact Or.inl rfl | exact Or.inr (Or.inl rfl) | exact Or.inr (Or.inr rfl)) (hd2 : (z == ("__debug__" : Str)) = false := by decide) (hcd : (z == ("__classdict__" : Str)) = false := by decide)
    (hs1 : starEach (.Name z p2 :: es) X.env = (false, eval (.Name z p2) X.env) :: starEach es X.env := by rfl) (hs2 : (backTo pos (starEach es X.env)).any (·.1) = false := by rfl) : PE X (.Call (.Name x p1) (.Name z p2 :: es) [] pos) (tFO true F L (ow F.K F.mg q hs :: O) (ma.bind fun a => mir (Ar.mk (Sq.l hs) a))) := by
  obtain ⟨C, f, fd, h1, h2, h3, h4⟩ := D.ex
  have hx : X.mg (Obj.cls α) = some (.ref C) := by rw [← D.nm]; exact h1
  refine pe_imp (pe_make h2 h3 hr hg h1 h4 .nil pass0 (pa_cons (pe_var hN hv hd2 hcd) ha hs1) hd hs1 hs2) fun σ H Q ⟨g, q0⟩ => ?_
  rw [out_bind] at q0
  obtain ⟨w, h5, h6⟩ := g.slot hL
  have e1 : w = V.ref q := h6
  subst e1
  refine ⟨_, h5, g, q0.mono (fun a qa vs H1 g1 s1 r1 => ?_) fun _ z => z⟩
  intro y dx hy hdx hne
  rw [List.append_nil]
  obtain ⟨ws, h7, h8⟩ := g1.head
  have av : ∀ c ∈ addrs O ++ F.A, H1 c ≠ none := fun c hc z => g1.go.out z (List.mem_cons_of_mem _ hc)
  have hyA : y ∉ addrs O ++ F.A := fun z => av y z hy
  have qA : q ∉ addrs O ++ F.A := fun z => by
    rcases List.mem_append.mp z with z | z
    · exact (List.nodup_cons.mp (show (q :: addrs O).Nodup from g1.go.nd)).1 z
    · exact g1.go.apart _ List.mem_cons_self z
  have up : ∀ c o, H1 c = some o → upd (upd H1 dx (.own y)) y (.ins C dx []) c = some o := fun c o hc => by
    rw [upd_ne (ne_of_none hc hy), upd_ne (ne_of_none hc hdx)]
    exact hc
  have rin : Same (rg F (ow F.K F.mg q hs :: O) H1) (less (upd (upd H1 dx (.own y)) y (.ins C dx [])) (y :: (addrs O ++ F.A))) := fun c o hc => by
    unfold rg at hc
    by_cases hcA : c ∈ addrs (ow F.K F.mg q hs :: O) ++ F.A
    · rw [less_in hcA] at hc; cases hc
    · rw [less_out hcA] at hc
      rw [less_out (fun z => by
        rcases List.mem_cons.mp z with z | z
        · rw [z, hy] at hc; cases hc
        · exact hcA (List.mem_cons_of_mem _ z))]
      exact up c o hc
  show spC X.K X.mg mir _ _ _ _
  rw [hK, hM]
  refine ⟨y, V.ref q :: vs, ⟨Sq.l hs, a⟩, addrs O ++ F.A, C, dx, fun c hc z => ?_, hyA, rfl, by rw [← hM]; exact hx, upd_same, ⟨V.ref q, vs, rfl, ?_, RepA.mono rin r1⟩, ?_⟩
  · cases e1 : H1 c with
    | none => exact av c hc e1
    | some o => rw [up c o e1] at z; cases z
  · refine ⟨q, ws, rfl, ?_, h8.mono rin⟩
    rw [less_out (fun z => by
      rcases List.mem_cons.mp z with z | z
      · rw [z, hy] at h7; cases h7
      · exact qA z)]
    exact up _ _ h7
  · cases e1 : mir ⟨Sq.l hs, a⟩ with
    | ok r =>
      rw [e1] at qa
      intro H' C' dx' vs' kb h9 h10 h11
      have s2 : Same H1 H' := fun c o hc => kb c o (up c o hc) (ne_of_none hc hy)
      have hq : less H' (y :: (addrs O ++ F.A)) q = some (.lst ws) := by
        rw [less_out (fun z => by
          rcases List.mem_cons.mp z with z | z
          · rw [z, hy] at h7; cases h7
          · exact qA z)]
        exact s2 _ _ h7
      refine ⟨rfl, qa y C' dx' vs' H' (g1.grow s2) (s1.trans s2) (s1.free hy) h9 h10 ?_⟩
      refine (ObjNL.nl hq h11).mono fun c o hc => ?_
      by_cases c1 : c ∈ [q]
      · rw [less_in c1] at hc; cases hc
      · rw [less_out c1] at hc
        by_cases c2 : c ∈ y :: (addrs O ++ F.A)
        · rw [less_in c2] at hc; cases hc
        · rw [less_out c2] at hc
          rw [less_out (fun z => c2 (by rw [List.mem_singleton.mp z]; exact List.mem_cons_self))]
          show less H' (addrs (ow F.K F.mg q hs :: O) ++ F.A) c = some o
          rw [less_out (fun z => by
            rcases List.mem_cons.mp (show c ∈ q :: (addrs O ++ F.A) from z) with z | z
            · exact c1 (List.mem_singleton.mpr z)
            · exact c2 (List.mem_cons_of_mem _ z))]
          exact hc
    | err c fs =>
      rw [e1] at qa
      intro D' d H' h9 h10 h12
      have z : F.E (.ref D') d H' := qa D' d H' h9 (h10.older fun c hc z => ?_) ⟨g1.grow fun c o hc => h12.keep c o (up c o hc) (fun z => ne_of_none hc hy (List.mem_singleton.mp z)), s1.trans fun c o hc => h12.keep c o (up c o hc) (fun z => ne_of_none hc hy (List.mem_singleton.mp z))⟩
      · rw [hE] at z; exact z
      · have := g1.go.live c hc
        cases e2 : H1 c with
        | none => exact this e2
        | some o =>
          have z' : upd (upd H1 dx (.own y)) y (.ins C dx []) c = none := z
          rw [up c o e2] at z'; cases z'
    | bad =>
      rw [e1] at qa
      exact qa.elim
end
end NF

set_option Elab.async false
set_option linter.all false
set_option maxRecDepth 100000
/-! Nm0: what the mathematics of the laws uses of the mirrors. -/
namespace NF
open PySem PySem.Spec PyProof.Rows L2
open Data (toD)
theorem need_ok {α : Type} {p : Prop} [Decidable p] {m : Res α} (h : p) : need p m = m := by unfold need; rw [if_pos h]
theorem quiet_ok {α : Type} (a : α) : (Res.ok a).quiet = Res.ok a := rfl
theorem filtR_ok {α β : Type} {f : α → Res β} {g : α → β} : ∀ {as : List α}, (∀ a ∈ as, f a = .ok (g a)) → filtR (fun _ => Res.ok true) f as = .ok (as.map g)
  | [], _ => rfl
  | a :: as, h => by
    rw [filtR_yes]
    show ((f a).bind fun y => (mapR f as).bind fun ys => .ok (y :: ys)) = _
    rw [h a List.mem_cons_self, ← filtR_yes, filtR_ok (fun b hb => h b (List.mem_cons_of_mem _ hb))]
    rfl
/-- with the marks of a comprehension -/
theorem filtQ_ok {α β : Type} {f : α → Res β} {g : α → β} {as : List α} (h : ∀ a ∈ as, f a = .ok (g a)) : filtR (fun _ => Res.quiet (Res.ok true)) (fun a => Res.quiet (f a)) as = .ok (as.map g) :=
  filtR_ok (f := fun a => Res.quiet (f a)) fun a ha => by rw [h a ha]; rfl
theorem idx_nat {α : Type} {xs : List α} {k : Nat} {a : α} (h : xs[k]? = some a) : idx xs (k : Int) = .ok a := by
  unfold idx
  rw [atI_nat (j := k) h]
theorem idx0 {α : Type} (x : α) (r : List α) : idx (x :: r) 0 = .ok x := idx_nat (k := 0) rfl
theorem ixN0 (n : Nat) (h : 0 < n) : ixN n 0 = some 0 := by
  unfold ixN
  rw [if_pos (by omega), if_pos (by omega)]
  rfl
theorem setR0 (x y : Int) (r : List Int) : setR (x :: r) 0 y = .ok (y :: r) := by
  unfold setR
  rw [ixN0 _ (by simp)]
  rfl
theorem popAt0 (x : Int) (r : List Int) : popAtR (x :: r) 0 = .ok (x, r) := by
  unfold popAtR
  rw [show seqIndex? 0 (x :: r).length = some 0 by unfold seqIndex?; simp]
  show need (Rg63 0) _ = _
  rw [need_ok (by unfold Rg63; omega)]
  rfl
theorem sl_ge : 100000 ≤ sizeLine := by rw [sizeLine_eq]; decide
theorem canLay_ints : ∀ xs : List Int, PyData.canLayAll0 (xs.map toD) = true
  | [] => rfl
  | _ :: xs => by
    show (true && PyData.canLayAll0 (xs.map toD)) = true
    rw [canLay_ints xs]
    rfl
theorem depth_ints : ∀ xs : List Int, PyData.depthAll (xs.map toD) = 0
  | [] => rfl
  | _ :: xs => by
    show max 0 (PyData.depthAll (xs.map toD)) = 0
    rw [depth_ints xs]
    rfl
theorem shp_ints (xs : List Int) : shp xs = true := by
  show (PyData.canLayAll0 (xs.map toD) && decide (PyData.depthAll (xs.map toD) + 1 ≤ 64)) = true
  rw [canLay_ints, depth_ints]
  rfl
theorem canLay_bools : ∀ xs : List Bool, PyData.canLayAll0 (xs.map toD) = true
  | [] => rfl
  | _ :: xs => by
    show (true && PyData.canLayAll0 (xs.map toD)) = true
    rw [canLay_bools xs]
    rfl
theorem depth_bools : ∀ xs : List Bool, PyData.depthAll (xs.map toD) = 0
  | [] => rfl
  | _ :: xs => by
    show max 0 (PyData.depthAll (xs.map toD)) = 0
    rw [depth_bools xs]
    rfl
theorem shp_bools (xs : List Bool) : shp xs = true := by
  show (PyData.canLayAll0 (xs.map toD) && decide (PyData.depthAll (xs.map toD) + 1 ≤ 64)) = true
  rw [canLay_bools, depth_bools]
  rfl
theorem shp_int (x : Int) : shp x = true := rfl
theorem shp_intD (x : Int) : shp (toD x) = true := rfl
theorem eqv_ints : ∀ xs ys : List Int, PyData.eqvAll (xs.map toD) (ys.map toD) = decide (xs = ys)
  | [], [] => rfl
  | [], _ :: _ => rfl
  | _ :: _, [] => rfl
  | x :: xs, y :: ys => by
    show ((x == y) && PyData.eqvAll (xs.map toD) (ys.map toD)) = _
    rw [eqv_ints xs ys]
    by_cases h : x = y
    · subst h
      simp
    · simp [h]
theorem eqD_ints (xs ys : List Int) : eqD xs ys = decide (xs = ys) := eqv_ints xs ys
theorem eqD_refl (xs : List Int) : eqD xs xs = true := by rw [eqD_ints]; simp
theorem eqv_bools : ∀ xs : List Bool, PyData.eqvAll (xs.map toD) (xs.map toD) = true
  | [] => rfl
  | x :: xs => by
    show ((toD x).eqv (toD x) && PyData.eqvAll (xs.map toD) (xs.map toD)) = _
    rw [eqv_bools xs]
    cases x <;> rfl
theorem eqD_bools (xs : List Bool) : eqD xs xs = true := eqv_bools xs
theorem eqD_intD (x y : Int) : eqD (toD x) y = decide (x = y) := by
  show (x == y) = _
  by_cases h : x = y <;> simp [h]
theorem isT_int_int (x : Int) : isT "int" (Ty.tyN (toD x)) = .ok true := by show isT "int" "int" = _; unfold isT; rw [show kitB "int" "int" = some true by decide +kernel]
theorem isT_int_bool (x : Int) : isT "bool" (Ty.tyN (toD x)) = .ok false := by show isT "bool" "int" = _; unfold isT; rw [show kitB "int" "bool" = some false by decide +kernel]
theorem isT_list (xs : List Int) : isT "list" (Ty.tyN xs) = .ok true := by show isT "list" "list" = _; unfold isT; rw [show kitB "list" "list" = some true by decide +kernel]
theorem isT_tuple (xs : Tp Bool) : isT "tuple" (Ty.tyN xs) = .ok true := by show isT "tuple" "tuple" = _; unfold isT; rw [show kitB "tuple" "tuple" = some true by decide +kernel]
theorem isT_bool (x : Bool) : isT "bool" (Ty.tyN x) = .ok true := by show isT "bool" "bool" = _; unfold isT; rw [show kitB "bool" "bool" = some true by decide +kernel]
theorem all_true : ∀ n : Nat, (List.replicate n true).all id = true
  | 0 => rfl
  | n + 1 => by rw [List.replicate_succ]; simp
/-! slices -/
theorem cut_upto {α : Type} (xs : List α) (n : Nat) : cut xs none (some (n : Int)) = xs.take n := by
  unfold cut
  rw [HT.sIx_none, HT.sIx_nat, Nat.sub_zero, List.drop_zero]
  by_cases h : n ≤ xs.length
  · rw [Nat.min_eq_left h]
  · rw [Nat.min_eq_right (by omega), List.take_of_length_le (Nat.le_refl _), List.take_of_length_le (by omega)]
theorem cut_from {α : Type} (xs : List α) (n : Nat) : cut xs (some (n : Int)) none = xs.drop n := by
  unfold cut
  rw [HT.sIx_none, HT.sIx_nat]
  by_cases h : n ≤ xs.length
  · rw [Nat.min_eq_left h, List.take_of_length_le (by rw [List.length_drop]; exact Nat.le_refl _)]
  · rw [Nat.min_eq_right (by omega), Nat.sub_self, List.take_zero, List.drop_of_length_le (by omega)]
theorem cut_sub {α : Type} {xs : List α} {lo hi : Option Int} {x : α} (h : x ∈ cut xs lo hi) : x ∈ xs := by
  unfold cut at h
  exact List.mem_of_mem_drop (List.mem_of_mem_take h)
theorem cut_len {α : Type} (xs : List α) (lo hi : Option Int) : (cut xs lo hi).length ≤ xs.length := by
  unfold cut
  rw [List.length_take, List.length_drop]
  omega
/-! bits -/
theorem bitOr_nat (x y : Nat) : Builtin.bitOr (x : Int) (y : Int) = ((x ||| y : Nat) : Int) := by
  unfold Builtin.bitOr Builtin.bitAnd Builtin.bitNot
  have h1 : decide (0 ≤ -(x : Int) - 1) = false := by simp; omega
  have h2 : decide (0 ≤ -(y : Int) - 1) = false := by simp; omega
  rw [h1, h2]
  dsimp only
  rw [show (-(-(x : Int) - 1) - 1).toNat = x by omega, show (-(-(y : Int) - 1) - 1).toNat = y by omega]
  omega
theorem bitOr_add {a b : Int} {k : Nat} (h0 : 0 ≤ a) (h1 : a < 2 ^ k) (hb : 0 ≤ b) : Builtin.bitOr a (b * 2 ^ k) = a + b * 2 ^ k := by
  obtain ⟨x, rfl⟩ := Int.eq_ofNat_of_zero_le h0
  obtain ⟨y, rfl⟩ := Int.eq_ofNat_of_zero_le hb
  have hx : x < 2 ^ k := by
    have : ((x : Nat) : Int) < ((2 ^ k : Nat) : Int) := by rw [Int.natCast_pow]; exact h1
    omega
  have e : ((y : Int) * 2 ^ k) = ((y * 2 ^ k : Nat) : Int) := by rw [Int.natCast_mul, Int.natCast_pow]; rfl
  rw [e, bitOr_nat, Nat.or_comm, ← Nat.shiftLeft_eq, ← Nat.shiftLeft_add_eq_or_of_lt hx]
  rw [Nat.add_comm, Int.natCast_add]
theorem bitAnd_mask (x : Int) (w : Nat) : Builtin.bitAnd x (2 ^ w - 1) = x % 2 ^ w := by
  have hp : (1 : Int) ≤ 2 ^ w := by
    have : 1 ≤ 2 ^ w := Nat.one_le_two_pow
    have h2 : ((1 : Nat) : Int) ≤ ((2 ^ w : Nat) : Int) := by omega
    rw [Int.natCast_pow] at h2
    exact h2
  have ep : (2 : Int) ^ w = ((2 ^ w : Nat) : Int) := by rw [Int.natCast_pow]; rfl
  have em : ((2 : Int) ^ w - 1).toNat = 2 ^ w - 1 := by rw [ep]; omega
  unfold Builtin.bitAnd
  have h2 : decide (0 ≤ (2 : Int) ^ w - 1) = true := by simp; omega
  by_cases h : 0 ≤ x
  · rw [h2, show decide (0 ≤ x) = true by simpa using h]
    dsimp only
    rw [em, Nat.and_two_pow_sub_one_eq_mod, Int.natCast_emod, ← ep]
    congr 1
    omega
  · rw [h2, show decide (0 ≤ x) = false by simpa using h]
    dsimp only
    unfold Builtin.bitNot
    rw [em, Nat.and_comm, Nat.and_two_pow_sub_one_eq_mod]
    have hn : 2 ^ w > 0 := Nat.two_pow_pos w
    obtain ⟨m, hm⟩ : ∃ m : Nat, x = -(m : Int) - 1 := ⟨(-x - 1).toNat, by omega⟩
    subst hm
    rw [show (-(-(m : Int) - 1) - 1).toNat = m by omega, ep]
    have hlt := Nat.mod_lt m hn
    have hd := Nat.div_add_mod m (2 ^ w)
    generalize 2 ^ w = P at *
    have : -(m : Int) - 1 = ((P : Int) - 1 - ((m % P : Nat) : Int)) + (P : Int) * (-((m / P : Nat) : Int) - 1) := by
      rw [Int.mul_sub, Int.mul_neg]
      have : ((P * (m / P) + m % P : Nat) : Int) = (m : Int) := by rw [hd]
      rw [Int.natCast_add, Int.natCast_mul] at this
      omega
    rw [this, Int.add_mul_emod_self_left, Int.emod_eq_of_lt (by omega) (by omega)]
/-! ranges, walks -/
theorem irange_nat (n : Nat) : irange 0 (n : Int) = (List.range n).map fun i : Nat => (i : Int) := by
  unfold irange
  rw [Int.sub_zero, Int.toNat_natCast]
  apply List.map_congr_left
  intro a _
  omega
theorem irange3_len (lo hi c : Int) : (irange3 lo hi c).length ≤ (hi - lo).toNat + (lo - hi).toNat := by
  unfold irange3
  rw [List.length_map, List.length_range]
  exact rangeSize_toNat_le lo hi c
theorem foldR_ok {α β : Type} {f : α → β → Res β} {g : α → β → β} : ∀ {as : List α} {b : β}, (∀ a ∈ as, ∀ b, f a b = .ok (g a b)) → foldR f as b = .ok (as.foldl (fun b a => g a b) b)
  | [], _, _ => rfl
  | a :: as, b, h => by
    show (f a b).bind _ = _
    rw [h a List.mem_cons_self, Res.bind_ok, foldR_ok (fun c hc => h c (List.mem_cons_of_mem _ hc))]
    rfl
theorem comp2R_ok {α β : Type} {it : α → Res (List β)} {g : α → List β} {c : Nat} : ∀ {as : List α} {n : Nat}, (∀ a ∈ as, it a = .ok (g a)) → (∀ a ∈ as, (g a).length ≤ c) → n + as.length * c ≤ sizeLine →
    comp2R (fun _ => Res.quiet (Res.ok true)) (fun a => Res.quiet (it a)) (fun _ _ => Res.quiet (Res.ok true)) (fun _ (b : β) => Res.quiet (Res.ok b)) n as = .ok (as.flatMap g)
  | [], _, _, _, _ => rfl
  | a :: as, n, h, hc, hn => by
    have e1 : (a :: as).length * c = as.length * c + c := by rw [List.length_cons, Nat.succ_mul]
    have e2 := hc a List.mem_cons_self
    rw [comp2R, h a List.mem_cons_self]
    show (need _ _ : Res (List β)) = _
    rw [need_ok (by omega)]
    rw [show filtR (fun b => Res.quiet (Res.ok true)) (fun b => Res.quiet (Res.ok b)) (g a) = Res.ok (g a) from (filtQ_ok (g := id) fun _ _ => rfl).trans (by rw [List.map_id]), Res.bind_ok, comp2R_ok (c := c) (fun b hb => h b (List.mem_cons_of_mem _ hb)) (fun b hb => hc b (List.mem_cons_of_mem _ hb)) (by omega), Res.bind_ok, List.flatMap_cons]
end NF

set_option Elab.async false
set_option linter.all false
namespace NF
open PySem PySem.Spec PyProof.Rows L2
theorem tN_cast {X : Cx} {F : Fr} {L : List (Option Asr)} {O : List Own} {B : Type} {st : List Stmt} {L' : B → List (Option Asr)} {O' : B → List Own} {m m' : Res B} (h : PSs X st (tN F L O m L' O')) (e : m = m') : PSs X st (tN F L O m' L' O') := e ▸ h
theorem FldsOk.mapW {H H' : Hp} : ∀ {fl : FA} {vs : List (Str × V)}, FldsOk H fl vs → (∀ f ∈ fl, ∀ w, f.2.P H w → f.2.P H' w) → FldsOk H' fl vs
  | [], _, h, _ => by
    cases h
    exact .nil
  | f :: fl, _, h, k => by
    cases h with
    | cons h1 h2 => exact .cons ⟨h1.1, k f List.mem_cons_self _ h1.2⟩ (FldsOk.mapW h2 fun g hg => k g (List.mem_cons_of_mem _ hg))
theorem fa_nl {H H' : Hp} {f : Str × Asr} {fl : FA} (h : ∀ w, f.2.P H w → f.2.P H' w) (k : ∀ g ∈ fl, ∀ w, g.2.P H w → g.2.P H' w) : ∀ g ∈ f :: fl, ∀ w, g.2.P H w → g.2.P H' w := fun g hg => by
  rcases List.mem_cons.mp hg with rfl | hg
  · exact h
  · exact k g hg
theorem fa_nil {H H' : Hp} : ∀ g ∈ ([] : FA), ∀ w, g.2.P H w → g.2.P H' w := fun _ h => (List.not_mem_nil h).elim
section
variable {X : Cx} {F : Fr} {L : List (Option Asr)} {O : List Own} {α β τ ρ : Type} [Obj α] [Rep β] [RepA τ] [Rep ρ]
variable {k : Nat} {ps : List Str} {x m : Str} {p1 pos apos : Pos} {e o : Expr} {es : List Expr} {b : Bool}
/-- y.m(e, ..), y an owned instance, m changes it or raises while it stands as it was -/
theorem e_methXq {p : Addr} {s : α} {y : Str} {p2 : Pos} {mir : α → τ → Res (ρ × α)} {ma : Res τ} {pl : Sem Bool} (i : Nat) (D : MethX X.prog X.w X.K X.mg X.base k (Obj.cls α) m ps (spIX X.K X.mg mir)) (hr : Room k X.A) (hL : L[i]? = some (rf p)) (hO : List.Sublist F.O0 (ow F.K F.mg p s :: O)) (ha : PA X (e :: es) (tA true F L (ow F.K F.mg p s :: O) ma)) (hf : ∀ a : α, (Obj.fa F.K F.mg a).lookup m = none := by intro _; rfl) (hK : X.K = F.K := by rfl) (hM : X.mg = F.mg := by rfl)
    (hN : X.N[i]? = some y := by rfl) (hv : Vis X.env.scope y := by first | exact Or.inl rfl | exact Or.inr (Or.inl rfl) | exact Or.inr (Or.inr rfl)) (hd2 : (y == ("__debug__" : Str)) = false := by decide) (hcd : (y == ("__classdict__" : Str)) = false := by decide)
    (hs : starEach (e :: es) X.env = (false, eval e X.env) :: starEach es X.env := by rfl) (hs2 : (backTo pos (starEach es X.env)).any (·.1) = false := by rfl)
    (ht : eval (.Call (.Attribute (.Name y p2) m apos) (e :: es) [] pos) X.env = (do
      let ov ← eval (.Name y p2) X.env
      standAt apos.atName
      let (f, first) ← holding [ov] (getMethod ov m pl)
      callWith pos f first (backTo pos (starEach (e :: es) X.env)) (backToKw pos (keywordEach [] X.env))) := by rfl) :
    PE X (.Call (.Attribute (.Name y p2) m apos) (e :: es) [] pos) (tE true F L p s O (ma.bind fun a => (mir s a).quiet)) := by
  obtain ⟨C, f, fd, h1, h2, h3, h4, h5⟩ := D.ex
  refine pe_imp (pe_methX (E := WE (fun _ _ _ _ => False)) (pl := pl) (pe_var hN hv hd2 hcd) h2 h3 h4 hr h5 (fun σ => L2N.passAt takes0N σ) ha hs hs2 ht) fun σ H Q ⟨g, q⟩ => ?_
  obtain ⟨w, h6, h7⟩ := g.slot hL
  have h7' : w = V.ref p := h7
  subst h7'
  obtain ⟨C', dx, vs, h8, h9, h10⟩ := obj_at g List.mem_cons_self
  have eC : C' = C := by
    rw [← hM, h1] at h9
    cases h9
    rfl
  subst eC
  rw [out_bind] at q
  refine ⟨_, h6, p, dx, vs, rfl, h8, h10.miss (hf s), g, q.mono (fun a qa us H1 g1 s1 r1 => ?_) fun H' ⟨a, _⟩ => a.go.sub hO⟩
  obtain ⟨ob, h11, h12⟩ := g1.go.objs _ List.mem_cons_self
  rw [hK, hM]
  refine ⟨p, a, addrs O ++ F.A, s, us, ob, fun c hc z => g1.go.out z (List.mem_cons_of_mem _ hc), fun z => ?_, rfl, r1, h11, h12, ?_⟩
  · rcases List.mem_append.mp z with z | z
    · exact (List.nodup_cons.mp (show (p :: addrs O).Nodup from g1.go.nd)).1 z
    · exact g1.go.apart _ List.mem_cons_self z
  · cases e1 : mir s a with
    | ok r =>
      rw [e1] at qa
      exact fun v H' ob' kb h13 h14 h15 => qa v H' (g_back g1 kb h13 h14) ((KeepBut.of s1).trans kb) h15
    | err c fs =>
      rw [e1] at qa
      exact qa.elim
    | bad =>
      rw [e1] at qa
      exact qa.elim
end
end NF

set_option Elab.async false
set_option linter.all false
set_option maxRecDepth 100000
/-! Nf28: < of data, tests by truth, slices in steps of two, list(pair), list(range), loops with while. -/
namespace NF
open PySem PySem.Spec PyProof.Rows L2
open Data (toD)
/-! ### < of data: two ints, two texts, two pairs of an int and a text -/
def strLt (a b : Str) : Bool := decide (a.cps.toList < b.cps.toList)
def ltO : PyData → PyData → Option Bool
  | .int a, .int b => some (decide (a < b))
  | .str a, .str b => some (strLt a b)
  | .tuple [.int a, .str s], .tuple [.int b, .str t] => some (if a = b then strLt s t else decide (a < b))
  | _, _ => none
def ltD (x y : PyData) : Res Bool := match ltO x y with
  | some b => .ok b
  | none => .bad
def rLtD (K : Fg) : R2 := fun x y H Q => ∃ d e b, Dp K H x d ∧ Dp K H y e ∧ ltO d e = some b ∧ Q (.bl b) H
theorem dp_int {K : Fg} {H : Hp} {x : V} {i : Int} (h : Dp K H x (.int i)) : x = .int i := by cases h; rfl
theorem dp_str {K : Fg} {H : Hp} {x : V} {i : Str} (h : Dp K H x (.str i)) : x = .str i := by cases h; rfl
theorem dp_tup {K : Fg} {H : Hp} {x : V} {ds : List PyData} (h : Dp K H x (.tuple ds)) : ∃ a xs, x = .ref a ∧ SqT K H a xs ∧ DpAll K H xs ds := by
  cases h with
  | tup h hs => exact ⟨_, _, rfl, h, hs⟩
theorem dp_is {K : Fg} {H : Hp} {xs : List V} {i : Int} {s : Str} (h : DpAll K H xs [.int i, .str s]) : xs = [.int i, .str s] := by
  cases h with
  | cons h1 h2 =>
    cases h2 with
    | cons h3 h4 =>
      cases h4
      rw [dp_int h1, dp_str h3]
theorem op_ltD {X : Cx} (hu : X.A.units + 64 < cLine) : OpR X (compareOp .Lt) (rLtD X.K) := by
  intro pins s σ H x y v u Q I rx ry h
  obtain ⟨d, e, b, hd, he, hb, q⟩ := h
  unfold ltO at hb
  split at hb
  · next i j =>
    injection hb with hb
    subst hb
    have e1 := dp_int hd
    have e2 := dp_int he
    subst e1 e2
    exact op_lt pins s σ H _ _ v u Q I rx ry ⟨i, j, rfl, rfl, q⟩
  · next i j =>
    injection hb with hb
    subst hb
    have e1 := dp_str hd
    have e2 := dp_str he
    subst e1 e2
    exact op_lt_str pins s σ H _ _ v u Q I rx ry ⟨i, j, rfl, rfl, q⟩
  · next i x1 j y1 =>
    injection hb with hb
    subst hb
    obtain ⟨a, xs, rfl, ha, hs⟩ := dp_tup hd
    obtain ⟨a', xs', rfl, ha', hs'⟩ := dp_tup he
    have z1 := dp_is hs
    have z2 := dp_is hs'
    subst z1 z2
    cases rx
    cases ry
    obtain ⟨its, r1, p1, _⟩ := I.tuple ha
    obtain ⟨its2, r2, p2, _⟩ := I.tuple ha'
    obtain ⟨t1, t2, rfl⟩ := vals_is r1
    obtain ⟨t3, t4, rfl⟩ := vals_is r2
    have R := Ob.RcOp.tuples_lt (A := X.A) (s := s) (e := fun k => if k = 0 then (i == j) else (x1 == y1)) (r := fun k => if k = 0 then decide (i < j) else strLt x1 y1) p1 p2 (by omega) (fun k h1 h2 => by
      match k, h1, h2 with
      | 0, _, _ => exact SeqAt.EqAt.int_int _ _ _ _
      | 1, _, _ => exact SeqAt.EqAt.str_str _ _ _ _
      | n + 2, h1, _ => exact absurd h1 (by simp)) (fun k h1 h2 _ => by
      match k, h1, h2 with
      | 0, _, _ => exact Ob.RcOp.lt_int _ _ _ _
      | 1, _, _ => exact fun _ _ _ _ h => PyProof.Rows.lt_str h
      | n + 2, h1, _ => exact absurd h1 (by simp))
    have hlex : Ob.lexAt (fun k => if k = 0 then (i == j) else (x1 == y1)) (fun k => if k = 0 then decide (i < j) else strLt x1 y1) (decide ([Value.int i t1, Value.str x1 t2].toArray.size < [Value.int j t3, Value.str y1 t4].toArray.size)) 0 (min [Value.int i t1, Value.str x1 t2].toArray.size [Value.int j t3, Value.str y1 t4].toArray.size) = if i = j then strLt x1 y1 else decide (i < j) := by
      show (if (i == j) = true then (if (x1 == y1) = true then decide (2 < 2) else strLt x1 y1) else decide (i < j)) = _
      by_cases h : i = j
      · rw [if_pos (by simpa using h), if_pos h]
        by_cases hx : x1 = y1
        · subst hx
          rw [if_pos (by simp)]
          unfold strLt
          simp
        · rw [if_neg (by simpa using hx)]
      · rw [if_neg (by simpa using h), if_neg h]
    rw [hlex] at R
    have z : wpAny (model X.prog X.w) X.A (compareOp .Lt (.ref a) (.ref a')) (EP X pins σ Q) X.xe s := R X.prog X.w X.xe (EP X pins σ Q) ⟨.bl _, H, I, rfl, q⟩
    exact z
  · cases hb
where
  vals_is {i : Int} {x : Str} {its : List Value} (r : Vals [V.int i, V.str x] its) : ∃ t t', its = [.int i t, .str x t'] := by
    cases r with
    | cons r1 r2 =>
      cases r2 with
      | cons r3 r4 =>
        cases r4
        obtain ⟨t, e⟩ := r1
        obtain ⟨t', e'⟩ := r3
        subst e e'
        exact ⟨t, t', rfl⟩
section
variable {X : Cx} {F : Fr} {L : List (Option Asr)} {O : List Own} {α β γ s : Type} [Rep α] [Rep β] [Rep γ] [Rep s]
theorem rr_ltD {b1 b2 b3 : Bool} (hK : X.K = F.K) : RR F L O b1 b2 b3 (rLtD X.K) fun (x y : PyData) => ltD x y := fun x y vx vy H σ Q g rx ry q => by
  unfold ltD at q
  dsimp only at q
  cases e : ltO x y with
  | none => rw [e] at q; exact q.elim
  | some b =>
    rw [e] at q
    rw [hK]
    exact ⟨x, y, b, dp_mono rgn_sub rx, dp_mono rgn_sub ry, e, kp_flat (α := Bool) g q⟩
theorem n_ltD {x y : Expr} {b1 b2 b3 : Bool} {ma mb : Res PyData} {pos : Pos} (hx : PE X x (tP b1 F L O ma)) (hy : PE X y (tP b2 F L O mb)) (hu : X.A.units + 64 < cLine) (hK : X.K = F.K := by rfl) :
    PE X (.Compare x [.Lt] [y] pos) (tP b3 F L O (ma.bind fun x => mb.bind fun y => ltD x y)) := nf2 (pe_cmpR (op_ltD hu) hx hy (nomark _)) (rr_ltD hK)
theorem t_ltD {x y : Expr} {b1 b2 : Bool} {ma mb : Res PyData} {pos : Pos} (hx : PE X x (tP b1 F L O ma)) (hy : PE X y (tP b2 F L O mb)) (hu : X.A.units + 64 < cLine) (hK : X.K = F.K := by rfl) :
    PT X (.Compare x [.Lt] [y] pos) (tB' F L O (ma.bind fun x => mb.bind fun y => ltD x y)) := nf2t (pt_cmpR (op_ltD hu) hx hy (nomark _)) (rr_ltD hK)
/-! ### truth -/
theorem t_truthL [Lk s α] {e : Expr} {b : Bool} {m : Res s} (h : PE X e (tP b F L O m)) (he : ∀ whole, isTrue e X.env whole = (do let v ← whole; standAt e.pos; holding [v] (truthy v)) := by intro _; rfl) (hK : X.K = F.K := by rfl) :
    PT X e (tB' F L O (m.bind fun x => .ok (!(Lk.its x).isEmpty))) := pt_imp (pt_truth h he) fun σ H Q ⟨g, q⟩ => by
  rw [out_bind] at q
  refine ⟨g, q.mono (fun x k v H1 g1 s1 r1 => ?_) fun _ z => z⟩
  obtain ⟨p, vs, h1, h2, h3⟩ := Lk.get r1
  refine ⟨_, ?_, k H1 g1 s1⟩
  subst h1
  rw [hK]
  have hl : vs.isEmpty = (Lk.its x).isEmpty := by
    have := h3.length
    cases vs with
    | nil => cases hx : Lk.its x with
      | nil => rfl
      | cons a as => rw [hx] at this; simp at this
    | cons v vs => cases hx : Lk.its x with
      | nil => rw [hx] at this; simp at this
      | cons a as => rfl
  rw [← hl]
  exact h2.elim (fun z => .inl ⟨vs, rgn_sub.seq z, rfl⟩) (fun z => .inr (.inl ⟨vs, same_t rgn_sub z, rfl⟩))
theorem t_truthI {e : Expr} {b : Bool} {m : Res Int} (h : PE X e (tP b F L O m)) (he : ∀ whole, isTrue e X.env whole = (do let v ← whole; standAt e.pos; holding [v] (truthy v)) := by intro _; rfl) :
    PT X e (tB' F L O (m.bind fun x => .ok (x != 0))) := pt_imp (pt_truth h he) fun σ H Q ⟨g, q⟩ => by
  rw [out_bind] at q
  refine ⟨g, q.mono (fun x k v H1 g1 s1 r1 => ?_) fun _ z => z⟩
  have r1' : v = V.int x := r1
  subst r1'
  exact ⟨_, rfl, k H1 g1 s1⟩
end
/-! ### xs[::2], xs[1::2] -/
def evens {α : Type} : List α → List α
  | [] => []
  | [a] => [a]
  | a :: _ :: as => a :: evens as
theorem evens_get {α : Type} : ∀ (xs : List α) (k : Nat), (evens xs)[k]? = xs[2 * k]?
  | [], k => by simp [evens]
  | [a], 0 => rfl
  | [a], k + 1 => by
    show ([a] : List α)[k + 1]? = ([a] : List α)[2 * (k + 1)]?
    rw [show 2 * (k + 1) = (2 * k + 1) + 1 by omega]
    simp
  | a :: b :: as, 0 => rfl
  | a :: b :: as, k + 1 => by
    show (a :: evens as)[k + 1]? = (a :: b :: as)[2 * (k + 1)]?
    rw [show 2 * (k + 1) = 2 * k + 2 by omega, List.getElem?_cons_succ, evens_get as k]
    simp
theorem evens_length {α : Type} : ∀ (xs : List α), (evens xs).length = (xs.length + 1) / 2
  | [] => by show (0 : Nat) = (0 + 1) / 2; omega
  | [a] => by show (1 : Nat) = (1 + 1) / 2; omega
  | a :: b :: as => by
    show (evens as).length + 1 = (as.length + 1 + 1 + 1) / 2
    rw [evens_length as]
    omega
theorem reps_evens {α : Type} [Rep α] {K : Fg} {mg : MG} {H : Hp} : ∀ {vs : List V} {as : List α}, Reps K mg H vs as → Reps K mg H (evens vs) (evens as)
  | _, _, .nil => .nil
  | _, _, .cons r .nil => .cons r .nil
  | _, _, .cons r (.cons _ t) => .cons r (reps_evens t)
theorem vals_evens : ∀ {xs : List V} {us : List Value}, Vals xs us → Vals (evens xs) (evens us)
  | _, _, .nil => .nil
  | _, _, .cons r .nil => .cons r .nil
  | _, _, .cons r (.cons _ t) => .cons r (vals_evens t)
theorem fm_map {α β : Type} {f : α → Option β} {g : α → β} : ∀ l : List α, (∀ x ∈ l, f x = some (g x)) → l.filterMap f = l.map g
  | [], _ => rfl
  | a :: l, h => by
    rw [List.filterMap_cons, h a List.mem_cons_self, List.map_cons, fm_map l fun x hx => h x (List.mem_cons_of_mem _ hx)]
theorem fm_cg {α β : Type} {f g : α → Option β} : ∀ l : List α, (∀ x ∈ l, f x = g x) → l.filterMap f = l.filterMap g
  | [], _ => rfl
  | a :: l, h => by
    rw [List.filterMap_cons, List.filterMap_cons, h a List.mem_cons_self, fm_cg l fun x hx => h x (List.mem_cons_of_mem _ hx)]
theorem evens_filter (its : List Value) (c : Nat) (off : Nat) (hc : c = (its.length - off + 1) / 2) : (List.range c).filterMap (fun k => its[off + 2 * k]?) = evens (its.drop off) := by
  apply List.ext_getElem?
  intro k
  rw [evens_get, List.getElem?_drop]
  have hl : ∀ j ∈ List.range c, ∃ v, its[off + 2 * j]? = some v := fun j hj => by
    have := List.mem_range.mp hj
    exact ⟨_, List.getElem?_eq_getElem (by omega)⟩
  have : (List.range c).filterMap (fun k => its[off + 2 * k]?) = (List.range c).map (fun k => (its[off + 2 * k]?).getD .none) := by
    apply fm_map
    intro j hj
    obtain ⟨v, hv⟩ := hl j hj
    rw [hv]
    rfl
  rw [this, List.getElem?_map]
  by_cases hk : k < c
  · rw [List.getElem?_range hk]
    obtain ⟨v, hv⟩ := hl k (List.mem_range.mpr hk)
    simp [hv]
  · rw [List.getElem?_eq_none (by simpa using hk)]
    rw [List.getElem?_eq_none (by omega)]
    rfl
theorem pick2 (its : List Value) : slicePick its.toArray none none (some 2) = (evens its).toArray := by
  unfold slicePick sliceRange
  simp only [sliceBounds, Option.getD_some, show (2 : Int) > 0 by decide, if_true, List.size_toArray]
  rw [List.filterMap_map]
  congr 1
  by_cases h : (0 : Int) < its.length
  · rw [if_pos h]
    have := evens_filter its (((its.length : Int) - 0 + 2 - 1) / 2).toNat 0 (by omega)
    rw [List.drop_zero] at this
    rw [← this]
    apply fm_cg
    intro k hk
    show its.toArray[((0 : Int) + 2 * (k : Int)).toNat]? = its[0 + 2 * k]?
    rw [show ((0 : Int) + 2 * (k : Int)).toNat = 0 + 2 * k by omega]
    simp
  · have : its = [] := by cases its with | nil => rfl | cons a b => simp at h
    subst this
    simp [evens]
theorem pick12 (its : List Value) : slicePick its.toArray (some 1) none (some 2) = (evens (its.drop 1)).toArray := by
  unfold slicePick sliceRange
  simp only [sliceBounds, Option.getD_some, show (2 : Int) > 0 by decide, if_true, List.size_toArray, show ¬ ((1 : Int) < 0) by decide, if_false]
  rw [List.filterMap_map]
  congr 1
  have hm : max (0 : Int) (min 1 (its.length : Int)) = if its.length = 0 then 0 else 1 := by split <;> omega
  rw [hm]
  by_cases h : its.length = 0
  · have : its = [] := by cases its with | nil => rfl | cons a b => simp at h
    subst this
    simp [evens]
  · rw [if_neg h]
    by_cases h1 : (1 : Int) < its.length
    · rw [if_pos h1]
      have := evens_filter its (((its.length : Int) - 1 + 2 - 1) / 2).toNat 1 (by omega)
      rw [← this]
      apply fm_cg
      intro k hk
      show its.toArray[((1 : Int) + 2 * (k : Int)).toNat]? = its[1 + 2 * k]?
      rw [show ((1 : Int) + 2 * (k : Int)).toNat = 1 + 2 * k by omega]
      simp
    · rw [if_neg h1]
      have hd : its.drop 1 = [] := List.drop_eq_nil_iff.mpr (by omega)
      rw [hd]
      simp [evens]
def tEvL (K : Fg) (off : Nat) (te : TE) : TE := fun σ H Q => te σ H fun x H1 => ∃ a xs, x = .ref a ∧ SqL K H1 a xs ∧ ∀ p, H1 p = none → Q (.ref p) (upd H1 p (.lst (evens (xs.drop off))))
theorem pe_ev0 {X : Cx} {e : Expr} {te : TE} {k : Nat} {p1 p3 pos : Pos} (he : PE X e te) : PE X (.Subscript e (.Slice none none (some (.Constant (.int 2) k p1)) p3) pos) (tEvL X.K 0 te) := by
  refine ⟨fun pins s σ H Q I h => ?_⟩
  refine Subscript_ (thn (he.run pins s σ H _ I h) fun v s1 ⟨x, H1, I1, r1, q1⟩ => ?_)
  obtain ⟨a, xs, ex, hx, q⟩ := q1
  subst ex
  cases r1
  have hst : PO X (some (.Constant (.int 2) k p1)) (tPart (tC (.int 2))) := po_some pe_int
  refine wpAny_Slice (thn (po_none.run pins s1 σ H1 (fun o H2 => o = none ∧ H2 = H1) I1 ⟨rfl, rfl⟩) fun vl s2 ⟨l, H2, I2, pl, el, e2⟩ => ?_)
  subst el e2
  refine thn (po_none.run pins s2 σ H2 (fun o H3 => o = none ∧ H3 = H2) I2 ⟨rfl, rfl⟩) fun vu s3 ⟨u, H3, I3, pu, eu, e3⟩ => ?_
  subst eu e3
  refine thn (hst.run pins s3 σ H3 (fun o H4 => o = some 2 ∧ H4 = H3) I3 ⟨2, rfl, rfl, rfl⟩) fun vs s4 ⟨o, H4, I4, ps, eo, e4⟩ => ?_
  subst eo e4
  have I5 : Inv X pins σ H4 { s4 with heap := s4.heap.push { cls := .type "slice", data := .fields #[vl, vu, vs] } } := I4.kept (t' := s4.toks) fun b ob q => Heap.get?_push_of_some _ q
  obtain ⟨its, r, ht, hz⟩ := I5.list hx
  have hlen := r.length
  show wpAny (model X.prog X.w) X.A (subscriptTail e (.Slice none none (some (.Constant (.int 2) k p1)) p3) (.ref a) (.ref s4.heap.objs.size)) (EP X pins σ Q) X.xe { s4 with heap := s4.heap.push { cls := .type "slice", data := .fields #[vl, vu, vs] } }
  refine tail_any (ops := [.ref a, .ref s4.heap.objs.size]) ht.isList.typeIs (PySem.slot_list_getitem.lookup) ?_ (by with_unfolding_all rfl)
  refine wpAny_getItem_list_slice ht.isList (Heap.IsSliceOf.new _ vl vu vs) pl pu ps (by decide) ?_ (by rw [List.size_toArray]; omega)
  rw [pick2]
  refine ⟨.ref _, _, I5.laid (t' := s4.toks) (o := .lst (evens (xs.drop 0))) (fun b ob q => Heap.get?_push_of_some _ q) (Nat.le_refl _) ?_, rfl, q _ (I5.hok.fresh (Nat.le_refl _))⟩
  exact ⟨by rw [evens_length, List.drop_zero]; omega, _, 0, by rw [List.drop_zero]; exact vals_evens r, Heap.get?_push_size _ rfl⟩
theorem pe_ev1 {X : Cx} {e : Expr} {te : TE} {k k' : Nat} {p1 p2 p3 pos : Pos} (he : PE X e te) : PE X (.Subscript e (.Slice (some (.Constant (.int 1) k' p2)) none (some (.Constant (.int 2) k p1)) p3) pos) (tEvL X.K 1 te) := by
  refine ⟨fun pins s σ H Q I h => ?_⟩
  refine Subscript_ (thn (he.run pins s σ H _ I h) fun v s1 ⟨x, H1, I1, r1, q1⟩ => ?_)
  obtain ⟨a, xs, ex, hx, q⟩ := q1
  subst ex
  cases r1
  have hst : PO X (some (.Constant (.int 2) k p1)) (tPart (tC (.int 2))) := po_some pe_int
  have hlo : PO X (some (.Constant (.int 1) k' p2)) (tPart (tC (.int 1))) := po_some pe_int
  refine wpAny_Slice (thn (hlo.run pins s1 σ H1 (fun o H2 => o = some 1 ∧ H2 = H1) I1 ⟨1, rfl, rfl, rfl⟩) fun vl s2 ⟨l, H2, I2, pl, el, e2⟩ => ?_)
  subst el e2
  refine thn (po_none.run pins s2 σ H2 (fun o H3 => o = none ∧ H3 = H2) I2 ⟨rfl, rfl⟩) fun vu s3 ⟨u, H3, I3, pu, eu, e3⟩ => ?_
  subst eu e3
  refine thn (hst.run pins s3 σ H3 (fun o H4 => o = some 2 ∧ H4 = H3) I3 ⟨2, rfl, rfl, rfl⟩) fun vs s4 ⟨o, H4, I4, ps, eo, e4⟩ => ?_
  subst eo e4
  have I5 : Inv X pins σ H4 { s4 with heap := s4.heap.push { cls := .type "slice", data := .fields #[vl, vu, vs] } } := I4.kept (t' := s4.toks) fun b ob q => Heap.get?_push_of_some _ q
  obtain ⟨its, r, ht, hz⟩ := I5.list hx
  have hlen := r.length
  show wpAny (model X.prog X.w) X.A (subscriptTail e (.Slice (some (.Constant (.int 1) k' p2)) none (some (.Constant (.int 2) k p1)) p3) (.ref a) (.ref s4.heap.objs.size)) (EP X pins σ Q) X.xe { s4 with heap := s4.heap.push { cls := .type "slice", data := .fields #[vl, vu, vs] } }
  refine tail_any (ops := [.ref a, .ref s4.heap.objs.size]) ht.isList.typeIs (PySem.slot_list_getitem.lookup) ?_ (by with_unfolding_all rfl)
  refine wpAny_getItem_list_slice ht.isList (Heap.IsSliceOf.new _ vl vu vs) pl pu ps (by decide) ?_ (by rw [List.size_toArray]; omega)
  rw [pick12]
  refine ⟨.ref _, _, I5.laid (t' := s4.toks) (o := .lst (evens (xs.drop 1))) (fun b ob q => Heap.get?_push_of_some _ q) (Nat.le_refl _) ?_, rfl, q _ (I5.hok.fresh (Nat.le_refl _))⟩
  exact ⟨by rw [evens_length, List.length_drop]; omega, _, 0, vals_evens (r.drop 1), Heap.get?_push_size _ rfl⟩
section
variable {X : Cx} {F : Fr} {L : List (Option Asr)} {O : List Own} {α β γ s : Type} [Rep α] [Rep β] [Rep γ] [Rep s]
theorem f_ev0 {e : Expr} {b : Bool} {m : Res (List α)} {k : Nat} {p1 p3 pos : Pos} (he : PE X e (tP b F L O m)) (hK : X.K = F.K := by rfl) : PE X (.Subscript e (.Slice none none (some (.Constant (.int 2) k p1)) p3) pos) (tF b F L O (m.bind fun xs => .ok (evens xs))) := pe_imp (pe_ev0 he) fun σ H Q ⟨g, q⟩ => by
  rw [out_bind] at q
  refine ⟨g, q.mono (fun xs k v H1 g1 s1 r1 => ?_) fun _ z => z⟩
  obtain ⟨p, vs, rfl, h2, h3⟩ := r1
  rw [hK]
  exact ⟨p, vs, rfl, .of (rgn_sub _ _ h2), kf_new g1 (KF.mono s1 k) (reps_evens h3)⟩
theorem f_ev1 {e : Expr} {b : Bool} {m : Res (List α)} {k k' : Nat} {p1 p2 p3 pos : Pos} (he : PE X e (tP b F L O m)) (hK : X.K = F.K := by rfl) : PE X (.Subscript e (.Slice (some (.Constant (.int 1) k' p2)) none (some (.Constant (.int 2) k p1)) p3) pos) (tF b F L O (m.bind fun xs => .ok (evens (xs.drop 1)))) := pe_imp (pe_ev1 he) fun σ H Q ⟨g, q⟩ => by
  rw [out_bind] at q
  refine ⟨g, q.mono (fun xs k v H1 g1 s1 r1 => ?_) fun _ z => z⟩
  obtain ⟨p, vs, rfl, h2, h3⟩ := r1
  rw [hK]
  exact ⟨p, vs, rfl, .of (rgn_sub _ _ h2), kf_new g1 (KF.mono s1 k) (reps_evens (reps_drop 1 h3))⟩
/-! ### list(pair), list(range(a, b)) -/
theorem f_listP {e : Expr} {b : Bool} {r} {m : Res (α × α)} (h : PE X e (tCB r (tCons (tP b F L O m) tNil))) (er : r = fun xs H Q => ∃ p ys, xs = [V.ref p] ∧ (SqL X.K H p ys ∨ SqT X.K H p ys) ∧ ∀ l, H l = none → Q (.ref l) (upd H l (.lst ys))) (hK : X.K = F.K := by rfl) :
    PE X e (tF b F L O (m.bind fun x => .ok [x.1, x.2])) := nc1f h fun x vx H σ Q g rx q => by
  subst er
  obtain ⟨p, v1, v2, rfl, h2, h3, h4⟩ := rx
  rw [hK]
  exact ⟨p, _, rfl, .inr (same_t rgn_sub h2), kf_new g q (.cons h3 (.cons h4 .nil))⟩
theorem f_listRg {e e2 : Expr} {b b1 b' : Bool} {m m2 : Res Int} {p q pos pos2 : Pos} (h : PE X e (tP b F L O m)) (h2 : PE X e2 (tP b1 F L O m2)) (hm : X.mg "range" = none) (hml : X.mg "list" = none) (hc : X.calm = true) (hg : Gl X "range" := by rfl) (hgl : Gl X "list" := by rfl)
    (na : starEach [e, e2] X.env = (false, eval e X.env) :: starEach [e2] X.env := by rfl) (nb : starEach [e2] X.env = (false, eval e2 X.env) :: starEach [] X.env := by rfl) (hp : (backTo pos (starEach [e2] X.env)).any (·.1) = false := by rfl)
    (nc : starEach [.Call (.Name "range" p) [e, e2] [] pos] X.env = (false, eval (.Call (.Name "range" p) [e, e2] [] pos) X.env) :: starEach [] X.env := by rfl) :
    PE X (.Call (.Name "list" q) [.Call (.Name "range" p) [e, e2] [] pos] [] pos2) (tF b' F L O (m.bind fun lo => m2.bind fun hi => need (Rg62 lo ∧ Rg62 hi ∧ (hi - lo).toNat ≤ 16777216) (.ok (irange lo hi)))) := pe_imp (pe_listRg hc hgl hml (prg_2 hg hm h h2 na nb hp) nc) fun σ H Q ⟨g, qq⟩ => by
  rw [out_bind] at qq
  refine ⟨g, qq.mono (fun n k v H1 g1 s1 r1 => ?_) fun _ z => z⟩
  rw [out_bind] at k
  refine ⟨g1, k.mono (fun n2 k v H2 g2 s2 r2 => ?_) fun H' ⟨a, b⟩ => ⟨a, s1.trans b⟩⟩
  rw [out_need] at k
  cases r1
  cases r2
  refine ⟨n, n2, rfl, rfl, ⟨k.1.1.1, k.1.1.2, k.1.2.1.1, k.1.2.1.2, k.1.2.2⟩, kf_new g2 (KF.mono (s1.trans s2) k.2) (reps_flat.mpr ?_)⟩
  unfold rgV irange
  rw [List.map_map]
  rfl
end
/-! ### while -/
def whileN {β : Type} (c : β → Res Bool) (f : β → Res β) : Nat → β → Res β
  | 0, _ => .bad
  | n + 1, b => (c b).bind fun t => if t then (f b).bind fun b => whileN c f n b else .ok b
theorem whileN_more {β : Type} {c : β → Res Bool} {f : β → Res β} : ∀ (n k : Nat) (b : β), whileN c f n b ≠ .bad → whileN c f (n + k) b = whileN c f n b
  | 0, k, b, h => (h rfl).elim
  | n + 1, k, b, h => by
    rw [show n + 1 + k = (n + k) + 1 by omega]
    show ((c b).bind fun t => if t then (f b).bind fun b => whileN c f (n + k) b else .ok b) = ((c b).bind fun t => if t then (f b).bind fun b => whileN c f n b else .ok b)
    have h' : ((c b).bind fun t => if t then (f b).bind fun b => whileN c f n b else .ok b) ≠ .bad := h
    cases hc : c b with
    | err x fs => rfl
    | bad => rfl
    | ok t =>
      rw [hc] at h'
      cases t with
      | false => rfl
      | true =>
        simp only [Res.bind_ok, if_true] at h' ⊢
        cases hf : f b with
        | err x fs => rfl
        | bad => rfl
        | ok b' =>
          rw [hf] at h'
          exact whileN_more n k b' h'
open Classical in
/-- a while: as many turns as it takes -/
noncomputable def whileW {β : Type} (c : β → Res Bool) (f : β → Res β) (b : β) : Res β :=
  if h : ∃ n, whileN c f n b ≠ .bad then whileN c f h.choose b else .bad
theorem whileW_of {β : Type} {c : β → Res Bool} {f : β → Res β} {n : Nat} {b : β} (h : whileN c f n b ≠ .bad) : whileW c f b = whileN c f n b := by
  unfold whileW
  have hx : ∃ n, whileN c f n b ≠ .bad := ⟨n, h⟩
  rw [dif_pos hx]
  have h2 := hx.choose_spec
  rcases Nat.le_total hx.choose n with z | z
  · have := whileN_more hx.choose (n - hx.choose) b h2
    rw [show hx.choose + (n - hx.choose) = n by omega] at this
    exact this.symm
  · have := whileN_more n (hx.choose - n) b h
    rw [show n + (hx.choose - n) = hx.choose by omega] at this
    exact this
theorem whileW_n {β : Type} (c : β → Res Bool) (f : β → Res β) (b : β) : ∃ n, whileW c f b = whileN c f n b := by
  unfold whileW
  by_cases h : ∃ n, whileN c f n b ≠ .bad
  · rw [dif_pos h]; exact ⟨_, rfl⟩
  · rw [dif_neg h]; exact ⟨0, rfl⟩
section
variable {X : Cx} {F : Fr} {L : List (Option Asr)} {O : List Own}
theorem s_while {B : Type} {c : Expr} {mc : B → Res Bool} {f : B → Res B} {body : List Stmt} {pos : Pos} {L' : B → List (Option Asr)} {O' : B → List Own} {b0 : B} (sp : Sp3 L' O' b0)
    (hp : PassesOwn (model X.prog X.w) X.A X.env X.xe) (hc : ∀ b, PT X c (tB' F (L' b) (O' b) (mc b))) (hO : ∀ b, List.Sublist F.O0 (O' b)) (hw : wk L (L' b0)) (ho : List.Sublist (O' b0) O)
    (hb : ∀ b, PSs X body (tN F (L' b) (O' b) (f b) L' O')) : PS X (.While c body [] pos) (tN F L O (whileW mc f b0) L' O') := by
  have hc' : PT X c (fun σ H Q => ∃ b, tB' F (L' b) (O' b) (mc b) σ H Q) := ⟨fun pins s σ H Q I ⟨b, q⟩ => (hc b).run pins s σ H Q I q⟩
  have hb' : PSs X body (fun D σ H => ∃ b, tN F (L' b) (O' b) (f b) L' O' D σ H) := pss_ex hb
  refine ps_imp (ps_while hp hc' hb') fun D σ H ⟨g0, q⟩ => ?_
  obtain ⟨n, hn⟩ := whileW_n mc f b0
  rw [hn] at q
  refine ⟨fun m σ H => ∃ b, G F (L' b) (O' b) σ H ∧ Out F (whileN mc f m b) (fun b => ∀ σ' H', G F (L' b) (O' b) σ' H' → D.nx σ' H') (XPS F), ⟨n, b0, g0.to hw ho, q⟩, ?_⟩
  rintro m σ H ⟨b, g, q⟩
  cases m with
  | zero => exact q.elim
  | succ m =>
    rw [show whileN mc f (m + 1) b = (mc b).bind fun t => if t then (f b).bind fun b => whileN mc f m b else .ok b from rfl, out_bind] at q
    refine ⟨b, g, q.mono (fun t k H1 g1 s1 => ?_) fun H' ⟨a, _⟩ => a.go.sub (hO b)⟩
    cases t with
    | true =>
      rw [if_pos rfl]
      simp only [if_true] at k
      rw [out_bind] at k
      exact ⟨fun σ' H' => ∃ b', G F (L' b') (O' b') σ' H' ∧ Out F (whileN mc f m b') (fun b => ∀ σ' H', G F (L' b) (O' b) σ' H' → D.nx σ' H') (XPS F), fun σ' H' z => ⟨m, Nat.lt_succ_self m, z⟩, b, g1, k.mono (fun b' kb σ' H' g' => ⟨b', g', kb⟩) fun _ z => z⟩
    | false =>
      rw [if_neg Bool.false_ne_true]
      exact k σ H1 g1
end
end NF

set_option Elab.async false
set_option linter.all false
set_option maxRecDepth 100000
/-! Nf29: further things that change the owned list; lists known to be new. -/
namespace NF
open PySem PySem.Spec PyProof.Rows L2
open Data (toD)
section
variable {X : Cx} {F : Fr} {L : List (Option Asr)} {p : Addr} {O : List Own} {α β γ s ι τ ρ : Type} [Rep α] [Rep β] [Rep γ] [Rep s] [OwR ι] [RepA τ] [Rep ρ] {xs : ι}
theorem e_toD [Data α] {e : Expr} {b : Bool} {m : Res (α × ι)} (h : PE X e (tE b F L p xs O m)) : PE X e (tE b F L p xs O (m.bind fun u => .ok (toD u.1, u.2))) := pe_imp h fun σ H Q ⟨g, q⟩ => by
  rw [out_bind] at q
  exact ⟨g, q.mono (fun u k v H1 g1 s1 r1 => k v H1 g1 s1 (Data.dp r1)) fun _ z => z⟩
theorem e_tup2 {x y : Expr} {ma : Res (α × ι)} {mb : ι → Res (β × ι)} {k} {pos : Pos} (hx : PE X x (tE true F L p xs O ma)) (hy : ∀ xs', PE X y (tE true F L p xs' O (mb xs'))) (h1 : starEach [x, y] X.env = (false, eval x X.env) :: starEach [y] X.env := by rfl) (h2 : starEach [y] X.env = (false, eval y X.env) :: starEach [] X.env := by rfl) :
    PE X (.Tuple [x, y] k pos) (tE true F L p xs O (ma.bind fun u => (mb u.2).bind fun w => .ok ((u.1, w.1), w.2))) := pe_imp (pe_tup (pa_cons hx (pa_cons (pe_ex hy) pa_nil h2) h1)) fun σ H Q ⟨g, q⟩ => by
  rw [out_bind] at q
  refine ⟨g, q.mono (fun u qx v1 H1 g1 s1 r1 => ?_) fun _ z => z⟩
  rw [out_bind] at qx
  refine ⟨u.2, g1, qx.mono (fun w qy v2 H2 g2 s2 r2 => ?_) fun _ z => z⟩
  refine ⟨by show 2 ≤ sizeLine; decide, fun p' hp => qy _ _ (g2.grow (same_upd hp)) ((s1.trans s2).trans (.of (same_upd hp))) ⟨p', v1, v2, rfl, .of (rgn_new (b := true) g2 (same_upd hp) hp upd_same), Rep.mono (rgn_grow (b := true) (same_upd hp)) (Rep.mono (kb_rg s2) r1), Rep.mono (rgn_grow (b := true) (same_upd hp)) r2⟩⟩
/-! ### texts -/
theorem rr_catS {O : List Own} {b1 b2 b3 : Bool} : RR F L O b1 b2 b3 (fun x y H Q => ∃ i j, x = .str i ∧ y = .str j ∧ i.length + j.length ≤ sizeLine ∧ Q (.str (i ++ j)) H) fun (x y : Str) => need (x.length + y.length ≤ sizeLine) (.ok (x ++ y)) := fun x y vx vy H σ Q g rx ry q => by
  rw [out_need] at q
  cases rx; cases ry
  exact ⟨x, y, rfl, rfl, q.1, kp_flat (α := Str) g q.2⟩
theorem n_catS {x y : Expr} {b1 b2 b3 : Bool} {ma mb : Res Str} {pos : Pos} (hx : PE X x (tP b1 F L O ma)) (hy : PE X y (tP b2 F L O mb)) :
    PE X (.BinOp x .Add y pos) (tP b3 F L O (ma.bind fun x => mb.bind fun y => need (x.length + y.length ≤ sizeLine) (.ok (x ++ y)))) := nf2 (pe_op op_add_str hx hy) rr_catS
theorem e_catS {x y : Expr} {b1 b2 b3 : Bool} {ma : Res (Str × ι)} {mb : ι → Res (Str × ι)} {pos : Pos} (hx : PE X x (tE b1 F L p xs O ma)) (hy : ∀ xs', PE X y (tE b2 F L p xs' O (mb xs'))) (hO : ∀ xs' : ι, List.Sublist F.O0 (ow F.K F.mg p xs' :: O)) :
    PE X (.BinOp x .Add y pos) (tE b3 F L p xs O (ma.bind fun u => (mb u.2).bind fun w => (need (u.1.length + w.1.length ≤ sizeLine) (.ok (u.1 ++ w.1))).bind fun z => .ok (z, w.2))) := ne2 (mc := fun (x y : Str) => need (x.length + y.length ≤ sizeLine) (.ok (x ++ y))) (pe_op op_add_str) hx hy (fun _ => rr_catS) hO
def idxS (s : Str) (i : Int) : Res Str := match atI s.cps.toList i with
  | some c => need (s.length ≤ sizeLine) (.ok ⟨#[c]⟩)
  | none => .bad
theorem rr_idxS {O : List Own} {b1 b2 b3 : Bool} : RR F L O b1 b2 b3 rIxS fun (x : Str) (y : Int) => idxS x y := fun x y vx vy H σ Q g rx ry q => by
  unfold idxS at q
  dsimp only at q
  cases e : atI x.cps.toList y with
  | none => rw [e] at q; exact q.elim
  | some c =>
    rw [e] at q
    have q' : Out F (need (x.length ≤ sizeLine) (Res.ok (⟨#[c]⟩ : Str))) (KP Str b3 F L O σ H Q) (XP F L O σ H) := q
    rw [out_need] at q'
    cases rx; cases ry
    exact ⟨x, y, c, rfl, rfl, q'.1, e, kp_flat (α := Str) g q'.2⟩
theorem e_idxS {x y : Expr} {b1 b2 b3 : Bool} {ma : Res (Str × ι)} {mb : ι → Res (Int × ι)} {pos : Pos} (hx : PE X x (tE b1 F L p xs O ma)) (hy : ∀ xs', PE X y (tE b2 F L p xs' O (mb xs'))) (hO : ∀ xs' : ι, List.Sublist F.O0 (ow F.K F.mg p xs' :: O)) (hp : PlainIx y := by exact fun _ _ => rfl) :
    PE X (.Subscript x y pos) (tE b3 F L p xs O (ma.bind fun u => (mb u.2).bind fun w => (idxS u.1 w.1).bind fun z => .ok (z, w.2))) := ne2 (mc := fun (x : Str) (y : Int) => idxS x y) (fun h1 h2 => pe_ix ix_str h1 h2 hp) hx hy (fun _ => rr_idxS) hO
/-! ### xs[:e], e changing the owned list -/
theorem e_sliceHi {x y : Expr} {b : Bool} {ma : Res (List α × ι)} {mb : ι → Res (Int × ι)} {p1 p2 : Pos} (hx : PE X x (tE true F L p xs O ma)) (hy : ∀ xs', PE X y (tE b F L p xs' O (mb xs'))) :
    PE X (.Subscript x (.Slice none (some y) none p2) p1) (tE true F L p xs O (ma.bind fun u => (mb u.2).bind fun w => .ok (cut u.1 none (some w.1), w.2))) := pe_imp (pe_slice sl_list hx po_none (po_some (pe_ex hy))) fun σ H Q ⟨g, q⟩ => by
  rw [out_bind] at q
  refine ⟨g, q.mono (fun u qx v1 H1 g1 s1 r1 => ?_) fun _ z => z⟩
  rw [out_bind] at qx
  refine ⟨u.2, g1, qx.mono (fun w qy v2 H2 g2 s2 r2 => ?_) fun _ z => z⟩
  have r2' : v2 = V.int w.1 := Flat.iff.mp r2
  obtain ⟨a, vs, rfl, h2, h3⟩ := (Rep.mono (kb_rg s2) r1 : Rep.rep F.K F.mg (rg F (ow F.K F.mg p w.2 :: O) H2) v1 u.1)
  refine ⟨w.1, r2', a, vs, rfl, .of (less_same _ _ h2), fun p' hp => ?_⟩
  refine qy _ _ (g2.grow (same_upd hp)) ((s1.trans s2).trans (.of (same_upd hp))) ⟨p', _, rfl, rgn_new (b := true) g2 (same_upd hp) hp upd_same, ?_⟩
  have e : vs.length = u.1.length := h3.length
  unfold cutV cut
  rw [e]
  exact (reps_take _ (reps_drop _ h3)).mono (rgn_grow (b := true) (same_upd hp))
/-! ### f(..), its arguments changing the owned list -/
theorem ea_one {e : Expr} {m : Res (α × ι)} (h : PE X e (tE true F L p xs O m)) (hs : starEach [e] X.env = (false, eval e X.env) :: starEach [] X.env := by rfl) : PA X [e] (tEA true F L p xs O (m.bind fun u => .ok (Ar.mk u.1 (), u.2))) := pa_imp (pa_cons h pa_nil hs) fun σ H Q ⟨g, q⟩ => by
  rw [out_bind] at q
  exact ⟨g, q.mono (fun u k v H1 g1 s1 r1 => k _ H1 g1 s1 ⟨v, [], rfl, r1, rfl⟩) fun _ z => z⟩
theorem e_pcall {mir : τ → Res ρ} {m : Res (τ × ι)} {k : Nat} {ps : List Str} {x : Str} {p1 pos : Pos} {e : Expr} {es : List Expr} (D : DefAt X.prog X.w X.K X.mg X.base CX0 k x ps (spP X.K X.mg mir)) (hr : Room k X.A) (ha : PA X (e :: es) (tEA true F L p xs O m)) (hO : ∀ xs' : ι, List.Sublist F.O0 (ow F.K F.mg p xs' :: O)) (hg : Gl X x := by rfl) (hE : F.E = E0 := by rfl) (hK : X.K = F.K := by rfl) (hM : X.mg = F.mg := by rfl) (hd : (x == ("__debug__" : Str)) = false := by decide)
    (hs : starEach (e :: es) X.env = (false, eval e X.env) :: starEach es X.env := by rfl) (hs2 : ((backTo pos (starEach es X.env)).any fun x => x.fst) = false := by rfl) : PE X (.Call (.Name x p1) (e :: es) [] pos) (tE true F L p xs O (m.bind fun u => (mir u.1).bind fun z => .ok (z, u.2))) := by
  obtain ⟨f, fd, Gf, hm, hk, hb⟩ := D.ex
  refine pe_imp (pe_call Gf hr hg hm hk hb .nil pass0 ha hd hs hs2) fun σ H Q ⟨g, q⟩ => ?_
  rw [out_bind] at q
  refine ⟨g, q.mono (fun u qa vs H1 g1 s1 r1 => ?_) fun _ z => z⟩
  show spP X.K X.mg mir (vs ++ []) H1 Q E0
  rw [List.append_nil, hK, hM]
  refine ⟨u.1, avoid true F (ow F.K F.mg p u.2 :: O), g1.go.avoided, by rw [← rgn_avoid]; exact r1, ?_⟩
  rw [out_bind] at qa
  cases e : mir u.1 with
  | ok r =>
    rw [e] at qa
    exact fun v H' s2 r2 => qa v H' (g1.grow s2) (s1.trans (.of s2)) (by rw [rgn_avoid]; exact r2)
  | err c fs =>
    rw [e] at qa
    intro C d H' h1 h2 h4
    have := qa C d H' h1 (h2.older g1.go.live) ((g1.grow h4).go.sub (hO _))
    rw [hE] at this
    exact this
  | bad =>
    rw [e] at qa
    exact qa.elim
end
/-! ### lists known to be new: not among B -/
def NewIn (B : Addr → Prop) : Type := List Int
instance {B : Addr → Prop} : Rep (NewIn B) := ⟨fun K mg H v as => ∃ p vs, v = .ref p ∧ ¬ B p ∧ H p = some (.lst vs) ∧ Reps K mg H vs (α := Int) as, fun e ⟨p, vs, h1, h0, h2, h3⟩ => ⟨p, vs, h1, h0, e _ _ h2, h3.mono e⟩⟩
section
variable {X : Cx} {F : Fr} {L : List (Option Asr)} {O : List Own} {α τ : Type} [Rep α] [RepA τ] {B : Addr → Prop}
theorem n_unnew {e : Expr} {b : Bool} {m : Res (NewIn B)} (h : PE X e (tP b F L O m)) : PE X e (tP (α := List Int) b F L O m) := pe_imp h fun σ H Q ⟨g, q⟩ =>
  ⟨g, q.mono (fun a k v H1 g1 s1 ⟨p, vs, h1, _, h2, h3⟩ => k v H1 g1 s1 ⟨p, vs, h1, h2, h3⟩) fun _ z => z⟩
theorem f_new {e : Expr} {b : Bool} {m : Res (List Int)} (hB : ∀ a, B a → F.H0 a ≠ none) (h : PE X e (tF b F L O m)) : PE X e (tP (α := NewIn B) b F L O m) := pe_imp h fun σ H Q ⟨g, q⟩ =>
  ⟨g, q.mono (fun as k p vs H' g' s h1 h2 r => k _ H' g' s ⟨p, vs, rfl, fun z => g.go.live p (hB p z) h1, rgn_new g s h1 h2, r.mono less_same⟩) fun _ z => z⟩
def spFB (B : Addr → Prop) (K : Fg) (mg : MG) (mir : τ → Res (List α)) : Sp := fun vs H Q E => (∀ a, B a → H a ≠ none) ∧ spF K mg mir vs H Q E
theorem fd_callB {mir : τ → Res (List α)} {m : Res τ} {b : Bool} {k : Nat} {ps : List Str} {x : Str} {p1 pos : Pos} {e : Expr} {es : List Expr} (hB : ∀ a, B a → F.H0 a ≠ none) (D : DefAt X.prog X.w X.K X.mg X.base CX0 k x ps (spFB B X.K X.mg mir)) (hr : Room k X.A) (ha : PA X (e :: es) (tA b F L O m)) (hg : Gl X x := by rfl) (hE : F.E = E0 := by rfl) (hK : X.K = F.K := by rfl) (hM : X.mg = F.mg := by rfl) (hd : (x == ("__debug__" : Str)) = false := by decide)
    (hs : starEach (e :: es) X.env = (false, eval e X.env) :: starEach es X.env := by rfl) (hs2 : ((backTo pos (starEach es X.env)).any fun x => x.fst) = false := by rfl) : PE X (.Call (.Name x p1) (e :: es) [] pos) (tF b F L O (m.bind mir)) := by
  obtain ⟨f, fd, Gf, hm, hk, hb⟩ := D.ex
  refine pe_imp (pe_call Gf hr hg hm hk hb .nil pass0 ha hd hs hs2) fun σ H Q ⟨g, q⟩ => ?_
  rw [out_bind] at q
  refine ⟨g, q.mono (fun a qa vs H1 g1 s1 r1 => ?_) fun _ z => z⟩
  show spFB B X.K X.mg mir (vs ++ []) H1 Q E0
  rw [List.append_nil, hK, hM]
  refine ⟨fun a z => g1.go.live a (hB a z), a, avoid b F O, g1.go.avoided, by rw [← rgn_avoid]; exact r1, ?_⟩
  cases e : mir a with
  | ok r =>
    rw [e] at qa
    exact fun p ws H' s2 h1 h2 r2 => qa p ws H' (g1.grow s2) (s1.trans s2) (s1.free h1) h2 (by rw [rgn_avoid]; exact r2)
  | err c fs =>
    rw [e] at qa
    intro C d H' h1 h2 h4
    have := qa C d H' h1 (h2.older g1.go.live) ⟨g1.grow h4, s1.trans h4⟩
    rw [hE] at this
    exact this
  | bad =>
    rw [e] at qa
    exact qa.elim
theorem b_retNew {m : Res (NewIn B)} {e : Expr} {pos : Pos} (hB : ∀ a, F.H0 a ≠ none → B a) (he : PE X e (tP true F L O m)) (hO : List.Sublist F.O0 O) : PSs X [.Return (some e) pos] (tT F L O (m : Res (List Int)) (rF F)) := pss_one (ps_imp (ps_ret he) fun D σ H ⟨g, q⟩ => ⟨g, q.mono (fun a k v H1 g1 s1 ⟨p, vs, h1, h0, h2, h3⟩ => by
  have hA : p ∉ F.A := fun z => by
    have h2' : rg F O H1 p = some (.lst vs) := h2
    unfold rg at h2'
    rw [less_in (List.mem_append_right _ z)] at h2'
    cases h2'
  exact k v H1 ⟨p, vs, h1, g1.go.sub (List.nil_sublist _), Decidable.byContradiction fun z => h0 (hB p z), hA, less_same _ _ h2, reps_flat.mpr (reps_flat.mp h3)⟩) fun H' ⟨a, _⟩ => a.go.sub hO⟩)
end
section
variable {P : Program} {w : World} {K : PySem.W.Frag} {mg : Str → Option Value} {base : Heap} {τ α : Type} [RepA τ] [Rep α] {B : Addr → Prop}
variable {x qual : Str} {st : Stmt} {f : Addr} {fd : FuncData} {N ps : List Str} {k : Nat}
theorem def_FB {mir : τ → Res (List α)} (Fu : Fun K x qual st f fd) (S : FnScope N ps (defScope st)) (L0 : τ → List (Option Asr)) (hl : ∀ (vs : List V) (R : Hp) (a : τ), RepA.rep K mg R vs a → vs.length = ps.length ∧ Paired (SlotOk R) (L0 a) (start N vs))
    (body : ∀ (cdv : Value) (A : Around) (outer : List Env) (s : Shared) (H : Hp) (Av : List Addr) (E : XK) (a : τ), Room k (A.deeper (envOfC qual (defScope st) s.heap.objs.size f cdv)) → (∀ a, B a → H a ≠ none) →
      PSs (cxOf CX0 P w K mg base N qual (defScope st) f cdv A outer s H E).nox (defBody st) (tT (F0 K mg H Av E0) (L0 a) [] (mir a) (rF (F0 K mg H Av E0)))) :
    FnOk P w K mg base CX0 (k + 1) f fd ps (spFB B K mg mir) := by
  refine Fu.ok S (fun vs H Q E ⟨_, a, A, _, h, _⟩ => (hl vs _ a h).1) (fun cdv A outer s H vs Q E hr ⟨hB, a, Av, hA, h, q⟩ => ⟨_, body cdv A outer s H Av E a hr hB, ⟨(hl vs _ a h).2, go_start hA⟩, ?_⟩)
  exact q.mono (fun r k v H' ⟨p, ws, e, g, h1, h2, h3, h4⟩ => by subst e; exact k p ws H' (go_same g) h1 h3 h4) fun H' g => go_same g
end
end NF

set_option Elab.async false
set_option linter.all false
set_option maxRecDepth 100000
/-! Nf30: comprehensions whose test or element changes an owned object. -/
namespace NF
open PySem PySem.Spec PyProof.Rows L2
open Data (toD)
def filtE {α β ι : Type} (p : α → ι → Res (Bool × ι)) (f : α → ι → Res (β × ι)) : List α → ι → Res (List β × ι)
  | [], xs => .ok ([], xs)
  | a :: as, xs => (p a xs).bind fun c => if c.1 then (f a c.2).bind fun y => (filtE p f as y.2).bind fun ys => .ok (y.1 :: ys.1, ys.2) else filtE p f as c.2
section
variable {X : Cx} {F : Fr} {L : List (Option Asr)} {p : Addr} {O : List Own} {α β γ s ι : Type} [Rep α] [Rep β] [Rep γ] [Rep s] [OwR ι] {xs : ι}
theorem i_pE {tg e : Expr} {m : Res (List α)} (hO : List.Sublist F.O0 (ow F.K F.mg p xs :: O)) (h : PI X tg e (tI true F L (ow F.K F.mg p xs :: O) m)) : PI X tg e (tIE F L p xs O (m.bind fun a => .ok (a, xs))) := pi_imp h fun σ H R ⟨g, q⟩ => by
  rw [out_bind] at q
  exact ⟨g, q.mono (fun as k J H' S g' s hS => k J H' S g' (.of s) hS) fun H' ⟨a, _⟩ => a.go.sub hO⟩
theorem ts_nilE : PTs X [] (tEB F L p xs O (.ok (true, xs))) := pts_imp pts_nil fun σ H Q ⟨g, q⟩ => q H g (.of (Same.refl _))
theorem ts_oneE {c : Expr} {m : Res (Bool × ι)} (h : PT X c (tEB F L p xs O m)) : PTs X [c] (tEB F L p xs O m) := pts_one h
theorem less_one {H : Hp} {D a : Addr} (h : a ≠ D) : less H [D] a = H a := less_out fun z => h (List.mem_singleton.mp z)
/-- the object at D taken out of sight again -/
theorem GO.without {D : Addr} {ds : List β} {H : Hp} {xs' : ι} (g : GO F (ow F.K F.mg p xs' :: ow F.K F.mg D ds :: O) H) (hD : F.H0 D = none) : GO F (ow F.K F.mg p xs' :: O) (less H [D]) := by
  have nd := List.nodup_cons.mp (show (p :: D :: addrs O).Nodup from g.nd)
  have nd2 := List.nodup_cons.mp nd.2
  have hne : ∀ w ∈ (ow F.K F.mg p xs' :: O), w.a ≠ D := fun w hw z => by
    rcases List.mem_cons.mp hw with rfl | hw
    · exact nd.1 (by rw [show p = D from z]; exact List.mem_cons_self)
    · exact nd2.1 (by rw [← z]; exact List.mem_map.mpr ⟨w, hw, rfl⟩)
  have er : rg F (ow F.K F.mg p xs' :: O) (less H [D]) = rg F (ow F.K F.mg p xs' :: ow F.K F.mg D ds :: O) H := by
    funext a
    unfold rg
    by_cases h1 : a ∈ addrs (ow F.K F.mg p xs' :: ow F.K F.mg D ds :: O) ++ F.A
    · rw [less_in h1]
      by_cases h2 : a ∈ addrs (ow F.K F.mg p xs' :: O) ++ F.A
      · rw [less_in h2]
      · rw [less_out h2]
        have : a = D := by
          rcases List.mem_append.mp h1 with z | z
          · rcases List.mem_cons.mp (show a ∈ p :: D :: addrs O from z) with e | z
            · exact (h2 (List.mem_append_left _ (by rw [e]; exact List.mem_cons_self))).elim
            · rcases List.mem_cons.mp z with e | z
              · exact e
              · exact (h2 (List.mem_append_left _ (List.mem_cons_of_mem _ z))).elim
          · exact (h2 (List.mem_append_right _ z)).elim
        subst this
        exact less_in List.mem_cons_self
    · rw [less_out h1]
      have h2 : a ∉ addrs (ow F.K F.mg p xs' :: O) ++ F.A := fun z => h1 (by
        rcases List.mem_append.mp z with z | z
        · rcases List.mem_cons.mp (show a ∈ p :: addrs O from z) with e | z
          · exact List.mem_append_left _ (by rw [e]; exact List.mem_cons_self)
          · exact List.mem_append_left _ (List.mem_cons_of_mem _ (List.mem_cons_of_mem _ z))
        · exact List.mem_append_right _ z)
      rw [less_out h2]
      refine less_one fun z => h1 ?_
      rw [z]
      exact List.mem_append_left _ (List.mem_cons_of_mem _ List.mem_cons_self)
  have ha : D ∉ F.A := g.apart (ow F.K F.mg D ds) (List.mem_cons_of_mem _ List.mem_cons_self)
  exact {
    objs := fun w hw => by
      have hw' : w ∈ (ow F.K F.mg p xs' :: ow F.K F.mg D ds :: O) := by
        rcases List.mem_cons.mp hw with e | hw
        · rw [e]; exact List.mem_cons_self
        · exact List.mem_cons_of_mem _ (List.mem_cons_of_mem _ hw)
      obtain ⟨o, ho, hp⟩ := g.objs w hw'
      exact ⟨o, by rw [less_one (hne w hw)]; exact ho, by rw [er]; exact hp⟩
    nd := List.nodup_cons.mpr ⟨fun z => nd.1 (List.mem_cons_of_mem _ z), nd2.2⟩
    own := fun w hw => by
      rcases List.mem_cons.mp hw with e | hw
      · rw [e]; exact g.own _ List.mem_cons_self
      · exact g.own w (List.mem_cons_of_mem _ (List.mem_cons_of_mem _ hw))
    keep := fun a o h hw => by
      rw [less_one (fun z => by rw [z, hD] at h; cases h)]
      exact g.keep a o h hw
    live := fun a h => by
      rw [less_one (fun z => h (by rw [z]; exact hD))]
      exact g.live a h
    hid := g.hid
    apart := fun w hw => by
      rcases List.mem_cons.mp hw with e | hw
      · rw [e]; exact g.apart _ List.mem_cons_self
      · exact g.apart w (List.mem_cons_of_mem _ (List.mem_cons_of_mem _ hw))
    facts := fun z hz => by rw [er]; exact g.facts z hz }
theorem rg_without {D : Addr} {ds : List β} {H : Hp} {xs' : ι} : Same (rg F (ow F.K F.mg p xs' :: ow F.K F.mg D ds :: O) H) (rg F (ow F.K F.mg p xs' :: O) (less H [D])) := fun a o z => by
  unfold rg at z ⊢
  by_cases h1 : a ∈ addrs (ow F.K F.mg p xs' :: ow F.K F.mg D ds :: O) ++ F.A
  · rw [less_in h1] at z; cases z
  · rw [less_out h1] at z
    have h2 : a ∉ addrs (ow F.K F.mg p xs' :: O) ++ F.A := fun y => h1 (by
      rcases List.mem_append.mp y with y | y
      · rcases List.mem_cons.mp (show a ∈ p :: addrs O from y) with e | y
        · exact List.mem_append_left _ (by rw [e]; exact List.mem_cons_self)
        · exact List.mem_append_left _ (List.mem_cons_of_mem _ (List.mem_cons_of_mem _ y))
      · exact List.mem_append_right _ y)
    rw [less_out h2, less_one (fun y => h1 (by rw [y]; exact List.mem_append_left _ (List.mem_cons_of_mem _ List.mem_cons_self)))]
    exact z
theorem comp_coreE {g : TG} {vs : List Nat} {bd : α → List (Option Asr) → List (Option Asr)} {m : Res (List α × ι)} {P : α → ι → Res (Bool × ι)} {f : α → ι → Res (β × ι)} {wi : TI} (tt : TT) (te : TE)
    (hi : wi = tIE F L p xs O m) (ht : TgOk F.K F.mg g vs bd) (htt : tt = fun σ H Q => ∃ a D ds xs', tEB F.nox (bd a (wipeL L vs)) p xs' (ow (s := List β) F.K F.mg D ds :: O) (P a xs') σ H Q) (hte : te = fun σ H Q => ∃ a D ds xs', tE true F.nox (bd a (wipeL L vs)) p xs' (ow (s := List β) F.K F.mg D ds :: O) (f a xs') σ H Q) (σ : L2.St) (H : Hp) (Q : VK)
    (h : tE true F L p xs O (m.bind fun r => need (r.1.length ≤ sizeLine) (filtE (fun a x => (P a x).quiet) (fun a x => (f a x).quiet) r.1 r.2)) σ H Q) : tLc wi g tt te vs σ H Q := by
  subst hi
  obtain ⟨g0, q⟩ := h
  rw [out_bind] at q
  refine ⟨g0, q.mono (fun r k J H1 S g1 s1 hS => ?_) fun _ z => z⟩
  obtain ⟨as, xs1⟩ := r
  rw [out_need] at k
  obtain ⟨hsz, k⟩ := k
  have hsz : as.length ≤ sizeLine := hsz
  intro D hD
  have hD0 : F.H0 D = none := by
    cases z : F.H0 D with
    | none => rfl
    | some o => exact (g1.go.live D (by rw [z]; simp) hD).elim
  refine lc_it S.walk (g := g) (tt := tt) (te := te) (vs := vs) (σ := σ) (H1 := H1) (D := D) (Qd := fun H => Q (.ref D) H)
    (fun i H => ∃ (ds : List β) (vd : List V) (xs' : ι), H D = some (.lst vd) ∧ ds.length + (as.length - i) ≤ sizeLine ∧ G F L (ow F.K F.mg p xs' :: O) σ (less H [D]) ∧ Reps F.K F.mg (rg F (ow F.K F.mg p xs' :: O) (less H [D])) vd ds ∧ KeepBut p H1 (less H [D]) ∧ S.src (rg F (ow F.K F.mg p xs' :: O) (less H [D])) ∧
      Out F (filtE (fun a x => (P a x).quiet) (fun a x => (f a x).quiet) (as.drop i) xs') (fun r => ∀ v H', G F L (ow F.K F.mg p r.2 :: O) σ H' → KeepBut p H1 H' → rp F (rg F (ow F.K F.mg p r.2 :: O) H') v (ds ++ r.1) → Q v H') (fun _ => False))
    ⟨[], [], xs1, upd_same, ?_, ?_, .nil, ?_, ?_, ?_⟩ ?_ ?_ ?_
  · show 0 + (as.length - 0) ≤ sizeLine
    omega
  · rw [show less (upd H1 D (.lst [])) [D] = H1 from less_upd1 hD]; exact g1
  · rw [show less (upd H1 D (.lst [])) [D] = H1 from less_upd1 hD]; exact .of (Same.refl _)
  · rw [show less (upd H1 D (.lst [])) [D] = H1 from less_upd1 hD]; exact hS
  · rw [List.drop_zero]
    have hk : Out F (filtE (fun a x => (P a x).quiet) (fun a x => (f a x).quiet) as xs1) _ _ := k
    have hnb := filtE_noerr P f as xs1
    cases e : filtE (fun a x => (P a x).quiet) (fun a x => (f a x).quiet) as xs1 with
    | ok r => rw [e] at hk; exact fun v H' g' s' r' => hk v H' g' (s1.trans s') r'
    | err c fs => exact (hnb c fs e).elim
    | bad => rw [e] at hk; exact hk.elim
  · rintro i H _ ⟨ds, vd, xs', h1, _, _, _, _, h6, _⟩
    exact S.mono (less_same.trans less_same) h6
  · rintro i x H H' hi ⟨ds, vd, xs', h1, hl, gi, hr, hkb, hsrc, q2⟩ y
    have hi : i < as.length := hi
    have ha : as[i]? = some as[i] := List.getElem?_eq_getElem hi
    have eHD : Same (less H [D]) H := less_same
    have hDn : less H [D] D = none := less_in List.mem_cons_self
    have go2 : GO F (ow F.K F.mg D ds :: ow F.K F.mg p xs' :: O) H := go_new gi (gi.go.grow eHD) eHD hDn h1 (hr.mono fun a o z => by
      have hz : a ≠ D := fun e => by
        subst e
        have := less_same a o z
        rw [hDn] at this; cases this
      rw [less_one hz]
      exact rg_grow eHD a o z)
    have go3 : GO F (ow F.K F.mg p xs' :: ow F.K F.mg D ds :: O) H := go2.perm (List.Perm.swap _ _ _)
    have sReg : Same (rg F (ow F.K F.mg p xs' :: O) (less H [D])) (rg F (ow F.K F.mg p xs' :: ow F.K F.mg D ds :: O) H) := fun a o z => by
      have hz : a ≠ D := fun e => by
        subst e
        have := less_same a o z
        rw [hDn] at this; cases this
      unfold rg at z ⊢
      by_cases hb : a ∈ addrs (ow F.K F.mg p xs' :: O) ++ F.A
      · rw [less_in hb] at z; cases z
      · rw [less_out hb, less_one hz] at z
        rw [less_out]
        · exact z
        · intro w
          rcases List.mem_append.mp w with w | w
          · rcases List.mem_cons.mp (show a ∈ p :: D :: addrs O from w) with e | w
            · exact hb (List.mem_append_left _ (by rw [e]; exact List.mem_cons_self))
            · rcases List.mem_cons.mp w with e | w
              · exact hz e
              · exact hb (List.mem_append_left _ (List.mem_cons_of_mem _ w))
          · exact hb (List.mem_append_right _ w)
    obtain ⟨s2, yy⟩ := S.ylds i H x H' y
    have g2 : G F L (ow F.K F.mg p xs' :: ow F.K F.mg D ds :: O) σ H := ⟨L2.Paired.mapP gi.slots fun _ _ z => z.mono sReg, go3⟩
    have g3 := g2.grow s2
    have rx : rp F (rg F (ow F.K F.mg p xs' :: ow F.K F.mg D ds :: O) H') x as[i] := yy _ (fun a ha z => go3.out z ha) (S.mono sReg hsrc) _ ha
    have gn : G F.nox (wipeL L vs) (ow F.K F.mg p xs' :: ow F.K F.mg D ds :: O) (wipe σ vs) H' := ⟨wipe_ok g3.slots vs, g3.go.nox⟩
    refine ht x as[i] (wipe σ vs) H' (rg F (ow F.K F.mg p xs' :: ow F.K F.mg D ds :: O) H') (wipeL L vs) _ less_same rx gn.slots fun σ2 e2 hs2 => ?_
    refine ⟨e2.trans (wipe_wipe σ vs), ?_⟩
    rw [List.drop_eq_getElem_cons hi] at q2
    rw [show filtE (fun a x => (P a x).quiet) (fun a x => (f a x).quiet) (as[i] :: List.drop (i + 1) as) xs' = ((P as[i] xs').quiet).bind fun c => if c.1 then ((f as[i] c.2).quiet).bind fun y => (filtE (fun a x => (P a x).quiet) (fun a x => (f a x).quiet) (List.drop (i + 1) as) y.2).bind fun ys => .ok (y.1 :: ys.1, ys.2) else filtE (fun a x => (P a x).quiet) (fun a x => (f a x).quiet) (List.drop (i + 1) as) c.2 from rfl, out_bind] at q2
    have gb : G F.nox (bd as[i] (wipeL L vs)) (ow F.K F.mg p xs' :: ow F.K F.mg D ds :: O) σ2 H' := ⟨hs2, gn.go⟩
    -- what stood at the turn's start stands at its end
    have onw : ∀ {H'' : Hp} {xs'' : ι}, KeepBut p H' H'' → GO F.nox (ow F.K F.mg p xs'' :: ow F.K F.mg D ds :: O) H'' → (H'' D = some (.lst vd) ∧ G F L (ow F.K F.mg p xs'' :: O) σ (less H'' [D]) ∧ Reps F.K F.mg (rg F (ow F.K F.mg p xs'' :: O) (less H'' [D])) vd ds ∧ KeepBut p H1 (less H'' [D]) ∧ S.src (rg F (ow F.K F.mg p xs'' :: O) (less H'' [D]))) := fun {H'' xs''} kb gg => by
      have nd := List.nodup_cons.mp (show (p :: D :: addrs O).Nodup from gg.nd)
      have hpD : D ≠ p := fun e => nd.1 (by rw [← e]; exact List.mem_cons_self)
      have gg' : GO F (ow F.K F.mg p xs'' :: ow F.K F.mg D ds :: O) H'' := ⟨gg.objs, gg.nd, gg.own, gg.keep, gg.live, gg.hid, gg.apart, gg.facts⟩
      have sR : Same (rg F (ow F.K F.mg p xs' :: O) (less H [D])) (rg F (ow F.K F.mg p xs'' :: O) (less H'' [D])) := fun a o z => by
        have hz : a ≠ D := fun e => by
          subst e
          have := less_same a o z
          rw [hDn] at this; cases this
        unfold rg at z ⊢
        by_cases hb : a ∈ addrs (ow F.K F.mg p xs' :: O) ++ F.A
        · rw [less_in hb] at z; cases z
        · rw [less_out hb, less_one hz] at z
          rw [less_out (show a ∉ addrs (ow F.K F.mg p xs'' :: O) ++ F.A from hb), less_one hz]
          exact kb a o (s2 a o z) fun e => hb (List.mem_append_left _ (by rw [e]; exact List.mem_cons_self))
      refine ⟨kb D _ (s2 D _ h1) hpD, ⟨L2.Paired.mapP gi.slots fun _ _ z => z.mono sR, gg'.without hD0⟩, hr.mono sR, fun a o z hp => ?_, S.mono sR hsrc⟩
      have z1 := hkb a o z hp
      have hz : a ≠ D := fun e => by subst e; rw [hDn] at z1; cases z1
      rw [less_one hz] at z1 ⊢
      exact kb a o (s2 a o z1) hp
    subst htt hte
    refine ⟨as[i], D, ds, xs', gb, out_quiet (q2.mono (fun c qc H3 g4 s3 => ?_) fun _ z => z)⟩
    dsimp only at qc g4 ⊢
    cases hc : c.1 with
    | false =>
      rw [hc] at qc
      obtain ⟨o1, o2, o3, o4, o5⟩ := onw s3 g4.go
      exact ⟨ds, vd, c.2, o1, by omega, o2, o3, o4, o5, qc⟩
    | true =>
      rw [hc] at qc
      simp only [if_true] at qc
      rw [out_bind] at qc
      refine ⟨as[i], D, ds, c.2, g4, out_quiet (qc.mono (fun y qy v H4 g5 s4 r5 => ?_) fun _ z => z)⟩
      obtain ⟨o1, o2, o3, o4, o5⟩ := onw (s3.trans s4) g5.go
      have lenv : vd.length = ds.length := hr.length
      have e5 : less (upd H4 D (.lst (vd ++ [v]))) [D] = less H4 [D] := by
        funext a
        by_cases hz : a = D
        · subst hz; rw [less_in List.mem_cons_self, less_in List.mem_cons_self]
        · rw [less_one hz, less_one hz, upd_ne hz]
      refine ⟨vd, o1, by rw [lenv]; omega, ds ++ [y.1], vd ++ [v], y.2, upd_same, by rw [List.length_append, List.length_singleton]; omega, ?_, ?_, ?_, ?_, ?_⟩
      · rw [e5]; exact o2
      · rw [e5]
        exact reps_append o3 (.cons (Rep.mono rg_without r5) .nil)
      · rw [e5]; exact o4
      · rw [e5]; exact o5
      · rw [out_bind] at qy
        exact qy.mono (fun ys kk v H' g' s' r' => kk v H' g' s' (by rw [List.append_assoc] at r'; exact r')) fun _ z => z
  · rintro H ⟨ds, vd, xs', h1, _, gi, hr, hkb, _, q2⟩
    rw [List.drop_length] at q2
    have hDn : less H [D] D = none := less_in List.mem_cons_self
    have eHD : Same (less H [D]) H := less_same
    refine q2 (.ref D) H (gi.grow eHD) (fun a o z hp => ?_) ⟨D, vd, rfl, ?_, ?_⟩
    · have z1 := hkb a o z hp
      exact less_same a o z1
    · exact (less_out (gi.go.out hDn)).trans h1
    · rw [List.append_nil]
      exact hr.mono (rg_grow eHD)
where
  less_upd1 {H : Hp} {D : Addr} {o : HO} (h : H D = none) : less (upd H D o) [D] = H := by
    funext a
    by_cases hz : a = D
    · subst hz; rw [less_in List.mem_cons_self, h]
    · rw [less_one hz, upd_ne hz]
  filtE_noerr (P : α → ι → Res (Bool × ι)) (f : α → ι → Res (β × ι)) : ∀ (as : List α) (x : ι) (c : Str) (fs : List (Str × PyData)), filtE (fun a x => (P a x).quiet) (fun a x => (f a x).quiet) as x ≠ .err c fs
    | [], _, _, _, z => nomatch z
    | a :: as, x, c, fs, z => by
      rw [show filtE (fun a x => (P a x).quiet) (fun a x => (f a x).quiet) (a :: as) x = ((P a x).quiet).bind fun c => if c.1 then ((f a c.2).quiet).bind fun y => (filtE (fun a x => (P a x).quiet) (fun a x => (f a x).quiet) as y.2).bind fun ys => .ok (y.1 :: ys.1, ys.2) else filtE (fun a x => (P a x).quiet) (fun a x => (f a x).quiet) as c.2 from rfl] at z
      cases e : P a x with
      | err _ _ => rw [e] at z; cases z
      | bad => rw [e] at z; cases z
      | ok r =>
        rw [e] at z
        change (if r.1 = true then ((f a r.2).quiet).bind (fun y => (filtE (fun a x => (P a x).quiet) (fun a x => (f a x).quiet) as y.2).bind fun ys => .ok (y.1 :: ys.1, ys.2)) else filtE (fun a x => (P a x).quiet) (fun a x => (f a x).quiet) as r.2) = _ at z
        cases hc : r.1 with
        | false =>
          rw [hc, if_neg Bool.false_ne_true] at z
          exact filtE_noerr P f as r.2 c fs z
        | true =>
          rw [hc, if_pos rfl] at z
          cases e2 : f a r.2 with
          | err _ _ => rw [e2] at z; cases z
          | bad => rw [e2] at z; cases z
          | ok y =>
            rw [e2] at z
            change ((filtE (fun a x => (P a x).quiet) (fun a x => (f a x).quiet) as y.2).bind fun ys => .ok (y.1 :: ys.1, ys.2)) = _ at z
            cases e3 : filtE (fun a x => (P a x).quiet) (fun a x => (f a x).quiet) as y.2 with
            | ok ys => rw [e3] at z; cases z
            | err c' fs' => exact filtE_noerr P f as y.2 c' fs' e3
            | bad => rw [e3] at z; cases z
/-- [elt for tg in iter if ..], the test or the element changing the owned object -/
theorem e_lc {tg iter elt : Expr} {ifs : List Expr} {scope : Scope} {own : List (Str × Nat)} {pos : Pos} {g : TG} {bd : α → List (Option Asr) → List (Option Asr)} {m : Res (List α × ι)} {P : α → ι → Res (Bool × ι)} {f : α → ι → Res (β × ι)}
    (hc : X.calm = true) (hN : X.N.Nodup) (hi : PI X tg iter (tIE F L p xs O m)) (hb : BlkOk X.N X.env.scope scope own)
    (hok : TgOk F.K F.mg g (own.map (·.2)) bd) (ht : ∀ (s : Shared) (H : Hp) (C : Addr) (cl : List (Str × Addr)) (fp : List Addr), Tg (X.blk s H scope (compEnvC scope cl C X.env) fp) F.K F.mg tg g (own.map (·.2)) bd)
    (hp : ∀ (s : Shared) (H : Hp) (C : Addr) (cl : List (Str × Addr)) (fp : List Addr) (a : α) (D : Addr) (ds : List β) (xs' : ι), PTs (X.blk s H scope (compEnvC scope cl C X.env) fp) ifs (tEB F.nox (bd a (wipeL L (own.map (·.2)))) p xs' (ow F.K F.mg D ds :: O) (P a xs')))
    (he : ∀ (s : Shared) (H : Hp) (C : Addr) (cl : List (Str × Addr)) (fp : List Addr) (a : α) (D : Addr) (ds : List β) (xs' : ι), PE (X.blk s H scope (compEnvC scope cl C X.env) fp) elt (tE true F.nox (bd a (wipeL L (own.map (·.2)))) p xs' (ow F.K F.mg D ds :: O) (f a xs')))
    (hf : ∀ x, foldedSetIterable iter X.env x = pure x := by intro _; rfl) :
    PE X (.ListComp elt [{ target := tg, iter := iter, ifs := ifs, is_async := 0 }] scope pos) (tE true F L p xs O (m.bind fun r => need (r.1.length ≤ sizeLine) (filtE (fun a x => (P a x).quiet) (fun a x => (f a x).quiet) r.1 r.2))) := by
  refine pe_imp (pe_lc hc hN hi hb (fun s H C cl fp => (ht s H C cl fp).pg) (fun s H C cl fp => pts_ex fun a => pts_ex fun D => pts_ex fun ds => pts_ex fun xs' => hp s H C cl fp a D ds xs') (fun s H C cl fp => pe_ex fun a => pe_ex fun D => pe_ex fun ds => pe_ex fun xs' => he s H C cl fp a D ds xs') hf) fun σ H Q h => ?_
  exact comp_coreE _ _ rfl hok rfl rfl σ H Q h
end
end NF

set_option Elab.async false
set_option linter.all false
set_option maxRecDepth 100000
/-! Nf31: texts; loops that go on in their midst; a list of three as a state. -/
namespace NF
open PySem PySem.Spec PyProof.Rows L2
open Data (toD)
section
variable {X : Cx} {F : Fr} {L : List (Option Asr)} {O : List Own} {α β γ : Type} [Rep α] [Rep β] [Rep γ]
theorem n_lenS {e : Expr} {b1 b3 : Bool} {m : Res Str} {r} (h : PE X e (tCB r (tCons (tP b1 F L O m) tNil))) (er : r = fun xs H Q => ∃ z, xs = [V.str z] ∧ z.length ≤ sizeLine ∧ Q (.int z.length) H) : PE X e (tP b3 F L O (m.bind fun x => need (x.length ≤ sizeLine) (.ok (x.length : Int)))) := nc1 h fun x vx H σ Q g rx q => by
  subst er
  rw [out_need] at q
  cases rx
  exact ⟨x, rfl, q.1, kp_flat (α := Int) g q.2⟩
theorem n_idxS {x y : Expr} {b1 b2 b3 : Bool} {ma : Res Str} {mb : Res Int} {pos : Pos} (hx : PE X x (tP b1 F L O ma)) (hy : PE X y (tP b2 F L O mb)) (hp : PlainIx y := by exact fun _ _ => rfl) :
    PE X (.Subscript x y pos) (tP b3 F L O (ma.bind fun x => mb.bind fun y => idxS x y)) := nf2 (pe_ix ix_str hx hy hp) rr_idxS
/-! one sign in a text -/
def inS (x z : Str) : Res Bool := match x.cps.toList with
  | [c] => .ok (decide (c ∈ z.cps.toList))
  | _ => .bad
theorem one_sign {x : Str} {c : Nat} (h : x.cps.toList = [c]) : x = ⟨#[c]⟩ := by
  cases x with
  | mk a =>
    have : a.toList.toArray = [c].toArray := by rw [h]
    rw [Array.toArray_toList] at this
    rw [this]
theorem rr_inS {b1 b2 b3 : Bool} : RR F L O b1 b2 b3 (fun x y H Q => ∃ (c : Nat) (z : Str), x = .str ⟨#[c]⟩ ∧ y = .str z ∧ Q (.bl (decide (c ∈ z.cps.toList))) H) fun (x z : Str) => inS x z := fun x y vx vy H σ Q g rx ry q => by
  unfold inS at q
  dsimp only at q
  cases rx; cases ry
  split at q
  · next c h =>
    exact ⟨c, y, by rw [one_sign h], rfl, kp_flat (α := Bool) g q⟩
  · exact q.elim
theorem rr_ninS {b1 b2 b3 : Bool} : RR F L O b1 b2 b3 (fun x y H Q => ∃ (c : Nat) (z : Str), x = .str ⟨#[c]⟩ ∧ y = .str z ∧ Q (.bl (!decide (c ∈ z.cps.toList))) H) fun (x z : Str) => (inS x z).bind fun b => .ok (!b) := fun x y vx vy H σ Q g rx ry q => by
  unfold inS at q
  dsimp only at q
  cases rx; cases ry
  split at q
  · next c h =>
    exact ⟨c, y, by rw [one_sign h], rfl, kp_flat (α := Bool) g q⟩
  · exact q.elim
section
variable {x y : Expr} {b1 b2 b3 : Bool} {ma mb : Res Str} {pos : Pos} (hx : PE X x (tP b1 F L O ma)) (hy : PE X y (tP b2 F L O mb))
include hx hy
theorem n_inS (hm : behindInMarks CmpOp.In y = false := by rfl) : PE X (.Compare x [.In] [y] pos) (tP b3 F L O (ma.bind fun x => mb.bind fun y => inS x y)) := nf2 (pe_cmpR op_in_sign hx hy hm) rr_inS
theorem t_inS (hm : behindInMarks CmpOp.In y = false := by rfl) : PT X (.Compare x [.In] [y] pos) (tB' F L O (ma.bind fun x => mb.bind fun y => inS x y)) := nf2t (pt_cmpR op_in_sign hx hy hm) rr_inS
theorem n_ninS (hm : behindInMarks CmpOp.NotIn y = false := by rfl) : PE X (.Compare x [.NotIn] [y] pos) (tP b3 F L O (ma.bind fun x => mb.bind fun y => (inS x y).bind fun b => .ok (!b))) := nf2 (pe_cmpR op_notIn_sign hx hy hm) rr_ninS
theorem t_ninS (hm : behindInMarks CmpOp.NotIn y = false := by rfl) : PT X (.Compare x [.NotIn] [y] pos) (tB' F L O (ma.bind fun x => mb.bind fun y => (inS x y).bind fun b => .ok (!b))) := nf2t (pt_cmpR op_notIn_sign hx hy hm) rr_ninS
/-! == of texts -/
theorem n_eqS : PE X (.Compare x [.Eq] [y] pos) (tP b3 F L O (ma.bind fun x => mb.bind fun y => .ok (decide (x = y)))) := nf2 (pe_cmpR op_eq hx hy (nomark _)) fun x y vx vy H σ Q g rx ry q => by
  cases rx; cases ry
  exact ⟨rfl, by rw [show decide (V.str x = V.str y) = decide (x = y) by simp]; exact kp_flat (α := Bool) g q⟩
theorem t_eqS : PT X (.Compare x [.Eq] [y] pos) (tB' F L O (ma.bind fun x => mb.bind fun y => .ok (decide (x = y)))) := nf2t (pt_cmpR op_eq hx hy (nomark _)) fun x y vx vy H σ Q g rx ry q => by
  cases rx; cases ry
  exact ⟨rfl, by rw [show decide (V.str x = V.str y) = decide (x = y) by simp]; exact kp_flat (α := Bool) g q⟩
theorem n_neS : PE X (.Compare x [.NotEq] [y] pos) (tP b3 F L O (ma.bind fun x => mb.bind fun y => .ok (!decide (x = y)))) := nf2 (pe_cmpR op_ne hx hy (nomark _)) fun x y vx vy H σ Q g rx ry q => by
  cases rx; cases ry
  exact ⟨rfl, by rw [show decide (V.str x = V.str y) = decide (x = y) by simp]; exact kp_flat (α := Bool) g q⟩
theorem t_neS : PT X (.Compare x [.NotEq] [y] pos) (tB' F L O (ma.bind fun x => mb.bind fun y => .ok (!decide (x = y)))) := nf2t (pt_cmpR op_ne hx hy (nomark _)) fun x y vx vy H σ Q g rx ry q => by
  cases rx; cases ry
  exact ⟨rfl, by rw [show decide (V.str x = V.str y) = decide (x = y) by simp]; exact kp_flat (α := Bool) g q⟩
end
/-! a text in a list of texts -/
theorem inV_str (x : Str) : ∀ ys : List Str, inV (V.str x) (ys.map V.str) = decide (x ∈ ys)
  | [] => by simp [inV]
  | y :: ys => by
    have ih := inV_str x ys
    unfold inV at ih ⊢
    rw [List.map_cons, List.any_cons, ih]
    by_cases h : x = y
    · subst h
      simp [eqV, valV, scal]
    · have h2 : eqV (V.str y) (V.str x) = false := by
        simp [eqV]
        exact fun e => h e.symm
      rw [h2]
      simp [h]
theorem flat_strs : ∀ ys : List Str, (ys.map V.str).all flatV = true
  | [] => rfl
  | _ :: ys => by rw [List.map_cons, List.all_cons, flat_strs ys]; rfl
theorem rr_inL {b1 b2 b3 : Bool} (hK : X.K = F.K) : RR F L O b1 b2 b3 (rIn X.K false) fun (x : Str) (ys : List Str) => .ok (decide (x ∈ ys)) := fun x y vx vy H σ Q g rx ry q => by
  cases rx
  obtain ⟨p, vs, rfl, h2, h3⟩ := ry
  have e : vs = y.map V.str := reps_flat.mp h3
  subst e
  refine ⟨p, _, rfl, .inl (.of (rgn_sub _ _ h2)), rfl, flat_strs y, ?_⟩
  rw [if_neg Bool.false_ne_true, inV_str]
  exact kp_flat (α := Bool) g q
theorem t_inL {x y : Expr} {b1 b2 : Bool} {ma : Res Str} {mb : Res (List Str)} {pos : Pos} (hx : PE X x (tP b1 F L O ma)) (hy : PE X y (tP b2 F L O mb)) (hm : behindInMarks CmpOp.In y = false := by rfl) (hK : X.K = F.K := by rfl) : PT X (.Compare x [.In] [y] pos) (tB' F L O (ma.bind fun x => mb.bind fun y => .ok (decide (x ∈ y)))) := nf2t (pt_cmpR op_in_seq hx hy hm) (rr_inL hK)
/-! slices, find -/
theorem n_sliceS {x : Expr} {b b3 : Bool} {ma : Res Str} {lo hi : Option Expr} {ml mh : Res (Option Int)} {p1 p2 : Pos} (hx : PE X x (tP b F L O ma)) (hl : PO X lo (tO F L O ml)) (hh : PO X hi (tO F L O mh)) :
    PE X (.Subscript x (.Slice lo hi none p2) p1) (tP b3 F L O (ma.bind fun x => ml.bind fun l => mh.bind fun h => need (x.length ≤ sizeLine) (.ok (cutS x l h)))) := pe_imp (pe_slice sl_str hx hl hh) fun σ H Q ⟨g, q⟩ => by
  rw [out_bind] at q
  refine ⟨g, q.mono (fun x qx v1 H1 g1 s1 r1 => ?_) fun _ z => z⟩
  rw [out_bind] at qx
  refine ⟨g1, qx.mono (fun l ql H2 g2 s2 => ?_) fun H' ⟨a, b⟩ => ⟨a, s1.trans b⟩⟩
  rw [out_bind] at ql
  refine ⟨g2, ql.mono (fun h qh H3 g3 s3 => ?_) fun H' ⟨a, b⟩ => ⟨a, (s1.trans s2).trans b⟩⟩
  rw [out_need] at qh
  cases r1
  exact ⟨x, rfl, qh.1, qh.2 _ H3 g3 ((s1.trans s2).trans s3) rfl⟩
theorem n_find3 {x y z : Expr} {b1 b2 b3 b4 : Bool} {ma mb : Res Str} {mc : Res Int} {apos cpos : Pos} (hx : PE X x (tP b1 F L O ma)) (hy : PE X y (tP b2 F L O mb)) (hz : PE X z (tP b3 F L O mc))
    (h : ∀ {to : TE} {t : TA}, PE X x to → PA X [y, z] t → PE X (.Call (.Attribute x "find" apos) [y, z] [] cpos) (tBM X.K "str" (fun x xs H Q => ∃ (a b : Str) (i : Int), x = .str a ∧ xs = [.str b, .int i] ∧ Q (.int (Txt.find3 a b i)) H) to t))
    (h1 : starEach [y, z] X.env = (false, eval y X.env) :: starEach [z] X.env := by rfl) (h2 : starEach [z] X.env = (false, eval z X.env) :: starEach [] X.env := by rfl) :
    PE X (.Call (.Attribute x "find" apos) [y, z] [] cpos) (tP b4 F L O (ma.bind fun x => mb.bind fun y => mc.bind fun i => .ok (Txt.find3 x y i))) := pe_imp (h hx (pa_cons hy (pa_cons hz pa_nil h2) h1)) fun σ H Q ⟨g, q⟩ => by
  rw [out_bind] at q
  refine ⟨g, q.mono (fun x qx v1 H1 g1 s1 r1 => ?_) fun _ z => z⟩
  rw [out_bind] at qx
  cases r1
  refine ⟨rfl, g1, qx.mono (fun y qy v2 H2 g2 s2 r2 => ?_) fun H' ⟨a, b⟩ => ⟨a, s1.trans b⟩⟩
  rw [out_bind] at qy
  refine ⟨g2, qy.mono (fun i qi v3 H3 g3 s3 r3 => ?_) fun H' ⟨a, b⟩ => ⟨a, (s1.trans s2).trans b⟩⟩
  cases r2; cases r3
  exact ⟨x, y, i, rfl, rfl, qi _ H3 g3 ((s1.trans s2).trans s3) rfl⟩
/-! s * n -/
def CMulS (a : Str) (n : Int) : Prop := 0 ≤ n ∧ n ≤ 1000 ∧ a.length ≤ 1000
instance (a : Str) (n : Int) : Decidable (CMulS a n) := by unfold CMulS; infer_instance
theorem op_repS : OpR X (binaryOp .Mult) (fun x y H Q => ∃ a n, x = .str a ∧ y = .int n ∧ CMulS a n ∧ Q (.str (Txt.mul a n)) H) := by
  intro pins s σ H x y v u Q I rx ry h
  obtain ⟨a, n, rfl, rfl, ⟨c1, c2, c3⟩, q⟩ := h
  obtain ⟨t, rfl⟩ := rx
  obtain ⟨t', rfl⟩ := ry
  refine SB.mul ⟨?_, fun h1 _ => ?_, fun h1 _ => ?_⟩ fun t' k => ⟨.str (Txt.mul a n), H, I.tok _, ⟨_, rfl⟩, q⟩
  · simp; omega
  · have : (9000000000000000 : Int) ≤ (2 ^ 63 - 1) / n := by
      apply Int.le_ediv_of_mul_le (by omega)
      have : 9000000000000000 * n ≤ 9000000000000000 * 1000 := Int.mul_le_mul_of_nonneg_left c2 (by omega)
      omega
    omega
  · have hb : a.length * n.toNat ≤ 1000 * 1000 := Nat.mul_le_mul c3 (by omega)
    unfold Builtin.Str.tooLong
    rw [sizeLine_eq]
    simp
    omega
theorem rr_repS {b1 b2 b3 : Bool} : RR F L O b1 b2 b3 (fun x y H Q => ∃ a n, x = .str a ∧ y = .int n ∧ CMulS a n ∧ Q (.str (Txt.mul a n)) H) fun (x : Str) (n : Int) => need (CMulS x n) (.ok (Txt.mul x n)) := fun x y vx vy H σ Q g rx ry q => by
  rw [out_need] at q
  cases rx; cases ry
  exact ⟨x, y, rfl, rfl, q.1, kp_flat (α := Str) g q.2⟩
theorem n_repS {x y : Expr} {b1 b2 b3 : Bool} {ma : Res Str} {mb : Res Int} {pos : Pos} (hx : PE X x (tP b1 F L O ma)) (hy : PE X y (tP b2 F L O mb)) : PE X (.BinOp x .Mult y pos) (tP b3 F L O (ma.bind fun x => mb.bind fun n => need (CMulS x n) (.ok (Txt.mul x n)))) := nf2 (pe_op op_repS hx hy) rr_repS
/-! a walk over a text -/
def txChars (z : Str) : List Str := z.cps.toList.map fun c => ⟨#[c]⟩
def srcS {K : Fg} {mg : MG} {z : Str} : Src K mg (Its z) (txChars z) where
  src H := True
  mono e h := h
  Y := fun i H v H' => H' = H ∧ ∃ c, z.cps[i]? = some c ∧ v = .str ⟨#[c]⟩
  walk := by
    have : (txChars z).length = z.cps.size := by unfold txChars; rw [List.length_map, Array.length_toList]
    rw [this]; exact walk_str
  ylds i H x H' y := by
    obtain ⟨rfl, c, hc, rfl⟩ := y
    refine ⟨Same.refl _, fun Av _ h a ha => ?_⟩
    unfold txChars at ha
    rw [List.getElem?_map, Array.getElem?_toList, hc] at ha
    cases ha
    rfl
theorem i_str {tg e : Expr} {b b' : Bool} {m : Res Str} (h : PE X e (tP b F L O m)) : PI X tg e (tI b' F L O (m.bind fun z => .ok (txChars z))) := pi_imp (pi_str h) fun σ H R ⟨g, q⟩ => by
  rw [out_bind] at q
  refine ⟨g, q.mono (fun x k v H1 g1 s1 r1 => ?_) fun _ z => z⟩
  cases r1
  exact ⟨x, rfl, k _ H1 srcS g1 s1 trivial⟩
/-! a tuple of texts of the module -/
structure GlobT (K : Fg) (mg : MG) (x : Str) (ss : List Str) : Prop where
  ex : ∃ a, mg x = some (.ref a) ∧ ∃ (o : PySem.Obj) (its : Array Value) (n : Nat), K.lookup a = some o ∧ o.cls = .type "tuple" ∧ o.data = .seq its n ∧ its.size ≤ sizeLine ∧ Vals (ss.map V.str) its.toList
theorem n_globT {b : Bool} {x : Str} {ss : List Str} {pos : Pos} (h : GlobT X.K X.mg x ss) (hg : Gl X x := by rfl) (hd : (x == ("__debug__" : Str)) = false := by decide) (hK : X.K = F.K := by rfl) : PE X (.Name x pos) (tP b F L O (.ok (Tp.mk ss))) := by
  obtain ⟨a, hm, o, its, n, h1, h2, h3, h4, h5⟩ := h.ex
  refine pe_imp (pe_glob (v := .ref a) hg hm rfl hd) fun σ H Q ⟨g, q⟩ => ?_
  exact q _ H g (Same.refl _) ⟨a, ss.map V.str, rfl, .inr ⟨o, its, n, by rw [← hK]; exact h1, h2, h3, h4, h5⟩, reps_flat.mpr rfl⟩
end
/-! ### what changes the owned object -/
section
variable {X : Cx} {F : Fr} {L : List (Option Asr)} {p : Addr} {O : List Own} {α β γ s ι : Type} [Rep α] [Rep β] [Rep γ] [Rep s] [OwR ι] {xs : ι}
theorem e_repS {x y : Expr} {b1 b2 b3 : Bool} {ma : Res (Str × ι)} {mb : ι → Res (Int × ι)} {pos : Pos} (hx : PE X x (tE b1 F L p xs O ma)) (hy : ∀ xs', PE X y (tE b2 F L p xs' O (mb xs'))) (hO : ∀ xs' : ι, List.Sublist F.O0 (ow F.K F.mg p xs' :: O)) :
    PE X (.BinOp x .Mult y pos) (tE b3 F L p xs O (ma.bind fun u => (mb u.2).bind fun w => (need (CMulS u.1 w.1) (.ok (Txt.mul u.1 w.1))).bind fun z => .ok (z, w.2))) := ne2 (mc := fun (x : Str) (n : Int) => need (CMulS x n) (.ok (Txt.mul x n))) (pe_op op_repS) hx hy (fun _ => rr_repS) hO
/-- ''.join(texts) -/
theorem e_join {o e : Expr} {b : Bool} {a : Str} {m : Res (List Str × ι)} {apos pos : Pos} (ho : PE X o (tP b F L (ow F.K F.mg p xs :: O) (.ok a))) (he : PE X e (tE true F L p xs O m)) (hK : X.K = F.K := by rfl) (hs : starEach [e] X.env = [(false, eval e X.env)] := by rfl) (hbase : attributeBase o "join" X.env (eval o X.env) = eval o X.env := by rfl) (hline : (apos.endLine == pos.line) = true := by rfl) :
    PE X (.Call (.Attribute o "join" apos) [e] [] pos) (tE true F L p xs O (m.bind fun u => need ((u.1.map (·.length)).sum + u.1.length * a.length ≤ 16777216) (.ok (Txt.join a u.1, u.2)))) := pe_imp (pe_join ho he hs hbase hline) fun σ H Q ⟨g, q⟩ => by
  refine ⟨g, fun v1 H1 g1 s1 r1 => ?_⟩
  have r1' : v1 = V.str a := r1
  subst r1'
  rw [out_bind] at q
  refine ⟨⟨a, rfl⟩, g1, q.mono (fun u k v H2 g2 s2 r2 => ?_) fun _ z => z⟩
  rw [out_need] at k
  obtain ⟨q', vs, rfl, h2, h3⟩ := r2
  have e : vs = u.1.map V.str := reps_flat.mp h3
  subst e
  rw [hK]
  exact ⟨a, q', u.1, rfl, rfl, .inl (.of (less_same _ _ h2)), k.1, k.2 _ H2 g2 ((KeepBut.of s1).trans s2) rfl⟩
/-! ### a list of two ints and a list of ints -/
end
structure P3 where
  a : Int
  b : Int
  cs : List Int
instance : OwR P3 := ⟨fun K mg H o x => ∃ q vs, o = .lst [.int x.a, .int x.b, .ref q] ∧ H q = some (.lst vs) ∧ Reps K mg H vs x.cs, fun e ⟨q, vs, h1, h2, h3⟩ => ⟨q, vs, h1, e _ _ h2, h3.mono e⟩⟩
section
variable {X : Cx} {F : Fr} {L : List (Option Asr)} {p : Addr} {O : List Own} {x : P3}
theorem p3_head {O : List Own} {σ : L2.St} {H : Hp} (g : G F L O σ H) (hO : ow F.K F.mg p x ∈ O) : ∃ q vs, H p = some (.lst [.int x.a, .int x.b, .ref q]) ∧ rg F O H q = some (.lst vs) ∧ Reps F.K F.mg (rg F O H) vs x.cs := by
  obtain ⟨o, h3, q, vs, h4, h5, h6⟩ := g.go.objs _ hO
  subst h4
  exact ⟨q, vs, h3, h5, h6⟩
section
variable {n : Str} {pos pos' p3 : Pos} {j : Nat} (i : Nat) (hL : L[i]? = some (rf p)) (hO : ow F.K F.mg p x ∈ O) (hN : X.N[i]? = some n := by rfl) (hv : Vis X.env.scope n := by first | exact Or.inl rfl | exact Or.inr (Or.inl rfl) | exact Or.inr (Or.inr rfl)) (hd : (n == ("__debug__" : Str)) = false := by decide)
    (hcd : (n == ("__classdict__" : Str)) = false := by decide) (hK : X.K = F.K := by rfl)
include hL hO hN hv hd hcd hK
theorem n_p3a {b : Bool} (hp : PlainIx (.Constant (.int 0) j p3) := by exact fun _ _ => rfl) : PE X (.Subscript (.Name n pos) (.Constant (.int 0) j p3) pos') (tP b F L O (.ok x.a)) := pe_imp (pe_ix ix_list (pe_var hN hv hd hcd) pe_int hp) fun σ H Q ⟨g, q⟩ => by
  obtain ⟨v, h1, h2⟩ := g.slot hL
  obtain ⟨q', vs, h3, _, _⟩ := p3_head g hO
  exact ⟨v, h1, p, _, 0, _, h2, rfl, by rw [hK]; exact .of h3, rfl, q _ H g (Same.refl _) rfl⟩
theorem n_p3b {b : Bool} (hp : PlainIx (.Constant (.int 1) j p3) := by exact fun _ _ => rfl) : PE X (.Subscript (.Name n pos) (.Constant (.int 1) j p3) pos') (tP b F L O (.ok x.b)) := pe_imp (pe_ix ix_list (pe_var hN hv hd hcd) pe_int hp) fun σ H Q ⟨g, q⟩ => by
  obtain ⟨v, h1, h2⟩ := g.slot hL
  obtain ⟨q', vs, h3, _, _⟩ := p3_head g hO
  exact ⟨v, h1, p, _, 1, _, h2, rfl, by rw [hK]; exact .of h3, rfl, q _ H g (Same.refl _) rfl⟩
theorem n_p3c (hp : PlainIx (.Constant (.int 2) j p3) := by exact fun _ _ => rfl) : PE X (.Subscript (.Name n pos) (.Constant (.int 2) j p3) pos') (tP true F L O (.ok x.cs)) := pe_imp (pe_ix ix_list (pe_var hN hv hd hcd) pe_int hp) fun σ H Q ⟨g, q⟩ => by
  obtain ⟨v, h1, h2⟩ := g.slot hL
  obtain ⟨q', vs, h3, h4, h5⟩ := p3_head g hO
  exact ⟨v, h1, p, _, 2, _, h2, rfl, by rw [hK]; exact .of h3, rfl, q _ H g (Same.refl _) ⟨q', vs, rfl, h4, h5⟩⟩
end
/-- the object at p becomes another one of its kind -/
theorem g_updO {ι : Type} [OwR ι] {xs xs' : ι} {o : HO} {σ : L2.St} {H : Hp} (g : G F L (ow F.K F.mg p xs :: O) σ H) (r : OwR.P F.K F.mg (rg F (ow F.K F.mg p xs :: O) H) o xs') :
    G F L (ow F.K F.mg p xs' :: O) σ (upd H p o) := by
  have hp : p ∈ addrs (ow F.K F.mg p xs :: O) ++ F.A := List.mem_append_left _ List.mem_cons_self
  have er : Same (rg F (ow F.K F.mg p xs :: O) H) (rg F (ow F.K F.mg p xs' :: O) (upd H p o)) := fun a o' z => by
    unfold rg at z ⊢
    by_cases hb : a ∈ addrs (ow F.K F.mg p xs :: O) ++ F.A
    · rw [less_in hb] at z; cases z
    · rw [less_out hb] at z
      rw [less_out (show a ∉ addrs (ow F.K F.mg p xs' :: O) ++ F.A from hb), upd_ne (fun y => hb (by rw [y]; exact hp))]
      exact z
  have nd := List.nodup_cons.mp (show (p :: addrs O).Nodup from g.go.nd)
  refine ⟨L2.Paired.mapP g.slots fun _ _ q => q.mono er, ?_⟩
  exact {
    objs := fun w hw => by
      rcases List.mem_cons.mp hw with rfl | hw
      · exact ⟨_, upd_same, OwR.mono er r⟩
      · obtain ⟨o', ho, q⟩ := g.go.objs w (List.mem_cons_of_mem _ hw)
        have hne : w.a ≠ p := fun y => nd.1 (by rw [← y]; exact List.mem_map.mpr ⟨w, hw, rfl⟩)
        exact ⟨o', by rw [upd_ne hne]; exact ho, w.mono er q⟩
    nd := g.go.nd
    own := fun w hw => by
      rcases List.mem_cons.mp hw with rfl | hw
      · exact g.go.own (ow F.K F.mg p xs) List.mem_cons_self
      · exact g.go.own w (List.mem_cons_of_mem _ hw)
    keep := fun a o' h hw => by
      have hne : a ≠ p := fun y => by
        subst y
        rcases g.go.own _ List.mem_cons_self with z | z
        · exact hw z
        · have z' : F.H0 a = none := z
          rw [z'] at h; cases h
      rw [upd_ne hne]
      exact g.go.keep a o' h hw
    live := fun a h => by
      by_cases hne : a = p
      · subst hne; rw [upd_same]; simp
      · rw [upd_ne hne]; exact g.go.live a h
    hid := g.go.hid
    apart := fun w hw => by
      rcases List.mem_cons.mp hw with rfl | hw
      · exact g.go.apart (ow F.K F.mg p xs) List.mem_cons_self
      · exact g.go.apart w (List.mem_cons_of_mem _ hw)
    facts := fun z hz => z.mono er (g.go.facts z hz) }
section
variable {n : Str} {e : Expr} {pos pos1 pos2 p3 : Pos} {j : Nat} (i : Nat) {b : Bool} {m : Res Int} (hL : L[i]? = some (rf p)) (hO : List.Sublist F.O0 (ow F.K F.mg p x :: O)) (he : PE X e (tP b F L (ow F.K F.mg p x :: O) m))
    (hN : X.N[i]? = some n := by rfl) (hv : Vis X.env.scope n := by first | exact Or.inl rfl | exact Or.inr (Or.inl rfl) | exact Or.inr (Or.inr rfl)) (hd : (n == ("__debug__" : Str)) = false := by decide) (hcd : (n == ("__classdict__" : Str)) = false := by decide)
include hL hO he hN hv hd hcd
theorem s_p3a (ha : ∀ v, assign (.Subscript (.Name n pos1) (.Constant (.int 0) j p3) pos2) X.env v = (do
      let ov ← holding [v] (eval (.Name n pos1) X.env)
      let iv ← holding [v, ov] (eval (.Constant (.int 0) j p3) X.env)
      standAt pos2
      holding [v, ov, iv] (setItem ov iv v)
      release [v, ov, iv] []) := by intro _; rfl) (h1 : swapsWithSole [.Subscript (.Name n pos1) (.Constant (.int 0) j p3) pos2] e pos.line X.env = pure false := by rfl) (h2 : swappedStores [.Subscript (.Name n pos1) (.Constant (.int 0) j p3) pos2] e X.env = pure none := by rfl)
    (h3 : (assignEach [.Subscript (.Name n pos1) (.Constant (.int 0) j p3) pos2] X.env).map (·.2) = [assign (.Subscript (.Name n pos1) (.Constant (.int 0) j p3) pos2) X.env] := by rfl) :
    PS X (.Assign [.Subscript (.Name n pos1) (.Constant (.int 0) j p3) pos2] e pos) (tN F L (ow F.K F.mg p x :: O) m (fun _ => L) (fun v => ow F.K F.mg p ({ x with a := v } : P3) :: O)) := ps_imp (ps_asg he (pg_sub (pe_var hN hv hd hcd) pe_int set_list ha) h1 h2 h3) fun D σ H ⟨g, q⟩ => by
  refine ⟨g, q.mono (fun r k v H1 g1 s1 r1 => ?_) fun H' ⟨a, _⟩ => a.go.sub hO⟩
  obtain ⟨w, h4, h5⟩ := g1.slot hL
  obtain ⟨q', vs, h6, h7, h8⟩ := p3_head g1 List.mem_cons_self
  have r1' : v = V.int r := Flat.iff.mp r1
  subst r1'
  refine ⟨w, h4, p, _, 0, 0, h5, rfl, h6, rfl, ?_⟩
  exact k σ _ (g_updO g1 ⟨q', vs, rfl, h7, h8⟩)
theorem s_p3b (ha : ∀ v, assign (.Subscript (.Name n pos1) (.Constant (.int 1) j p3) pos2) X.env v = (do
      let ov ← holding [v] (eval (.Name n pos1) X.env)
      let iv ← holding [v, ov] (eval (.Constant (.int 1) j p3) X.env)
      standAt pos2
      holding [v, ov, iv] (setItem ov iv v)
      release [v, ov, iv] []) := by intro _; rfl) (h1 : swapsWithSole [.Subscript (.Name n pos1) (.Constant (.int 1) j p3) pos2] e pos.line X.env = pure false := by rfl) (h2 : swappedStores [.Subscript (.Name n pos1) (.Constant (.int 1) j p3) pos2] e X.env = pure none := by rfl)
    (h3 : (assignEach [.Subscript (.Name n pos1) (.Constant (.int 1) j p3) pos2] X.env).map (·.2) = [assign (.Subscript (.Name n pos1) (.Constant (.int 1) j p3) pos2) X.env] := by rfl) :
    PS X (.Assign [.Subscript (.Name n pos1) (.Constant (.int 1) j p3) pos2] e pos) (tN F L (ow F.K F.mg p x :: O) m (fun _ => L) (fun v => ow F.K F.mg p ({ x with b := v } : P3) :: O)) := ps_imp (ps_asg he (pg_sub (pe_var hN hv hd hcd) pe_int set_list ha) h1 h2 h3) fun D σ H ⟨g, q⟩ => by
  refine ⟨g, q.mono (fun r k v H1 g1 s1 r1 => ?_) fun H' ⟨a, _⟩ => a.go.sub hO⟩
  obtain ⟨w, h4, h5⟩ := g1.slot hL
  obtain ⟨q', vs, h6, h7, h8⟩ := p3_head g1 List.mem_cons_self
  have r1' : v = V.int r := Flat.iff.mp r1
  subst r1'
  refine ⟨w, h4, p, _, 1, 1, h5, rfl, h6, rfl, ?_⟩
  exact k σ _ (g_updO g1 ⟨q', vs, rfl, h7, h8⟩)
end
/-- x = [i, j, list], owned -/
theorem s_ownP3 {y : Str} {e0 e1 e2 : Expr} {pos pos' lp : Pos} (i : Nat) {m0 m1 : Res Int} {m2 : Res (List Int)} {b0 b1 : Bool} (hN : X.N.Nodup) (hO : List.Sublist F.O0 O) (h0 : PE X e0 (tP b0 F L O m0)) (h1 : PE X e1 (tP b1 F L O m1)) (h2 : PE X e2 (tP true F L O m2)) (hi : X.N[i]? = some y := by rfl) (hx : L2.Loc X.env.scope y := by first | exact .inl rfl | exact .inr rfl) (hs : swapsWith (.List [e0, e1, e2] lp) (some (.Name y pos')) pos.line X.env = pure false := by rfl) (hf : X.fn y = true ∨ X.env.scope.names.lookup y = some .local := by first | exact .inl rfl | exact .inr rfl)
    (hs0 : starEach [e0, e1, e2] X.env = (false, eval e0 X.env) :: starEach [e1, e2] X.env := by rfl) (hs1 : starEach [e1, e2] X.env = (false, eval e1 X.env) :: starEach [e2] X.env := by rfl) (hs2 : starEach [e2] X.env = (false, eval e2 X.env) :: starEach [] X.env := by rfl) :
    PS X (.Assign [.Name y pos'] (.List [e0, e1, e2] lp) pos) (tNp F L O (m0.bind fun a => m1.bind fun b => m2.bind fun cs => .ok (P3.mk a b cs)) (fun p _ => L.set i (rf p)) (fun p x => ow F.K F.mg p x :: O)) := ps_imp (ps_set (i := i) hN hi hx (pe_lst (pa_cons h0 (pa_cons h1 (pa_cons h2 pa_nil hs2) hs1) hs0)) hs hf) fun D σ H ⟨g, q⟩ => by
  rw [out_bind] at q
  refine ⟨g, q.mono (fun a qa v0 H1 g1 s1 r0 => ?_) fun H' ⟨a, _⟩ => a.go.sub hO⟩
  rw [out_bind] at qa
  refine ⟨g1, qa.mono (fun b qb v1 H2 g2 s2 r1 => ?_) fun H' ⟨a, _⟩ => a.go.sub hO⟩
  rw [out_bind] at qb
  refine ⟨g2, qb.mono (fun cs k v2 H3 g3 s3 r2 => ?_) fun H' ⟨a, _⟩ => a.go.sub hO⟩
  have r0' : v0 = V.int a := Flat.iff.mp r0
  have r1' : v1 = V.int b := Flat.iff.mp r1
  subst r0' r1'
  obtain ⟨q', vs, rfl, h4, h5⟩ := r2
  refine ⟨by show 3 ≤ sizeLine; decide, fun p hp => ?_⟩
  refine k p _ _ ⟨set_ok (p := rf p) rfl i (L2.Paired.mapP g3.slots fun _ _ z => z.mono (rg_new rfl (same_upd hp) hp)), ?_⟩
  have er : Same (rg F O H3) (rg F (ow F.K F.mg p (P3.mk a b cs) :: O) (upd H3 p (.lst [.int a, .int b, .ref q']))) := rg_new rfl (same_upd hp) hp
  have gg := g3.go.grow (same_upd (o := .lst [.int a, .int b, .ref q']) hp)
  exact {
    objs := fun w hw => by
      rcases List.mem_cons.mp hw with rfl | hw
      · exact ⟨_, upd_same, q', vs, rfl, er _ _ h4, h5.mono er⟩
      · obtain ⟨o, ho, hp'⟩ := g3.go.objs w hw
        exact ⟨o, same_upd hp _ _ ho, w.mono er hp'⟩
    nd := List.nodup_cons.mpr ⟨fun z => g3.go.out hp (List.mem_append_left _ z), gg.nd⟩
    own := fun w hw => by
      rcases List.mem_cons.mp hw with rfl | hw
      · refine .inr ?_
        cases q : F.H0 p with
        | none => exact q
        | some o => exact (g3.go.live p (by rw [q]; simp) hp).elim
      · exact gg.own w hw
    keep := gg.keep
    live := gg.live
    hid := gg.hid
    apart := fun w hw => by
      rcases List.mem_cons.mp hw with rfl | hw
      · exact fun z => g3.go.out hp (List.mem_append_right _ z)
      · exact gg.apart w hw
    facts := fun z hz => z.mono er (g3.go.facts z hz) }
end
end NF

set_option Elab.async false
set_option linter.all false
set_option maxRecDepth 100000
/-! Nf32: continue; ifs at a loop's end; returns of owned lists in pairs; a pair with a new list. -/
namespace NF
open PySem PySem.Spec PyProof.Rows L2
open Data (toD)
section
variable {X : Cx} {F : Fr} {L : List (Option Asr)} {O : List Own} {B B' D' : Type} {st : Stmt} {rest : List Stmt} {Ret : D' → V → Hp → Prop} {L' : B → List (Option Asr)} {O' : B → List Own} {L2' : B' → List (Option Asr)} {O2' : B' → List Own}
/-- a loop's body: goes on at its end or by continue -/
def tC {β : Type} (F : Fr) (L : List (Option Asr)) (O : List Own) (m : Res β) (L' : β → List (Option Asr)) (O' : β → List Own) : TS := fun D σ H =>
  G F L O σ H ∧ Out F m (fun b => ∀ σ' H', G F (L' b) (O' b) σ' H' → D.nx σ' H' ∧ D.ct σ' H') (XPS F)
/-- ends with continue -/
def tQ {β : Type} (F : Fr) (L : List (Option Asr)) (O : List Own) (m : Res β) (L' : β → List (Option Asr)) (O' : β → List Own) : TS := fun D σ H =>
  G F L O σ H ∧ Out F m (fun b => ∀ σ' H', G F (L' b) (O' b) σ' H' → D.ct σ' H') (XPS F)
theorem c_end (b : B) (h : wk L (L' b)) (ho : List.Sublist (O' b) O) : PSs X [] (tC F L O (.ok b) L' O') := pss_imp pss_nil fun D σ H ⟨g, q⟩ => (q σ H (g.to h ho)).1
theorem q_end {pos : Pos} (b : B) (h : wk L (L' b)) (ho : List.Sublist (O' b) O) : PSs X [.Continue pos] (tQ F L O (.ok b) L' O') := pss_one (ps_imp ps_continue fun D σ H ⟨g, q⟩ => q σ H (g.to h ho))
theorem c_N {m1 : Res B} {m2 : B → Res B'} (h1 : PS X st (tN F L O m1 L' O')) (h2 : ∀ b, PSs X rest (tC F (L' b) (O' b) (m2 b) L2' O2')) : PSs X (st :: rest) (tC F L O (m1.bind m2) L2' O2') := pss_imp (pss_cons h1 (pss_ex h2)) fun D σ H ⟨g, q⟩ => by
  rw [out_bind] at q
  exact ⟨g, q.mono (fun b k σ' H' g' => ⟨b, g', k⟩) fun _ z => z⟩
theorem q_N {m1 : Res B} {m2 : B → Res B'} (h1 : PS X st (tN F L O m1 L' O')) (h2 : ∀ b, PSs X rest (tQ F (L' b) (O' b) (m2 b) L2' O2')) : PSs X (st :: rest) (tQ F L O (m1.bind m2) L2' O2') := pss_imp (pss_cons h1 (pss_ex h2)) fun D σ H ⟨g, q⟩ => by
  rw [out_bind] at q
  exact ⟨g, q.mono (fun b k σ' H' g' => ⟨b, g', k⟩) fun _ z => z⟩
theorem c_perm {m : Res B} {O2 : List Own} (h : O.Perm O2) (hs : PSs X rest (tC F L O2 m L' O')) : PSs X rest (tC F L O m L' O') := pss_imp hs fun D σ H ⟨g, q⟩ => ⟨g.perm h, q⟩
theorem q_perm {m : Res B} {O2 : List Own} (h : O.Perm O2) (hs : PSs X rest (tQ F L O2 m L' O')) : PSs X rest (tQ F L O m L' O') := pss_imp hs fun D σ H ⟨g, q⟩ => ⟨g.perm h, q⟩
section
variable {c : Expr} {mc : Res Bool} {body orelse : List Stmt} {pos : Pos}
/-- if c: .. continue -/
theorem c_ifQ {m1 m2 : Res B} (hc : PT X c (tB' F L O mc)) (hb : PSs X body (tQ F L O m1 L' O')) (hr : PSs X rest (tC F L O m2 L' O')) (hO : List.Sublist F.O0 O) : PSs X (.If c body [] pos :: rest) (tC F L O (mc.bind fun c => if c then m1 else m2) L' O') := pss_imp (pss_cons (ps_if hc hb pss_nil) hr) fun D σ H ⟨g, q⟩ => by
  rw [out_bind] at q
  refine ⟨g, q.mono (fun c k H1 g1 s1 => ?_) fun H' ⟨a, _⟩ => a.go.sub hO⟩
  cases c with
  | true => exact ⟨g1, Out.mono k (fun b kb σ' H' g' => (kb σ' H' g').2) fun _ z => z⟩
  | false => exact ⟨g1, k⟩
/-- if c: raise .. -/
theorem c_ifE {x : Str} {fs : List (Str × PyData)} {m2 : Res B} (hc : PT X c (tB' F L O mc)) (hb : PSs X body (tT F L O (Res.err x fs : Res D') Ret)) (hr : PSs X rest (tC F L O m2 L' O')) (hO : List.Sublist F.O0 O) : PSs X (.If c body [] pos :: rest) (tC F L O (mc.bind fun c => if c then Res.err x fs else m2) L' O') := pss_imp (pss_cons (ps_if hc hb pss_nil) hr) fun D σ H ⟨g, q⟩ => by
  rw [out_bind] at q
  refine ⟨g, q.mono (fun c k H1 g1 s1 => ?_) fun H' ⟨a, _⟩ => a.go.sub hO⟩
  cases c with
  | true => exact ⟨g1, k⟩
  | false => exact ⟨g1, k⟩
/-- the last if of a block that goes on or hands back -/
theorem m_ife {m1 m2 : Res (Sum B D')} (hc : PT X c (tB' F L O mc)) (hb : PSs X body (tM F L O m1 L' O' Ret)) (hr : PSs X orelse (tM F L O m2 L' O' Ret)) (hO : List.Sublist F.O0 O) : PSs X [.If c body orelse pos] (tM F L O (mc.bind fun c => if c then m1 else m2) L' O' Ret) := pss_one (ps_imp (ps_if hc hb hr) fun D σ H ⟨g, q⟩ => by
  rw [out_bind] at q
  refine ⟨g, q.mono (fun c k H1 g1 s1 => ?_) fun H' ⟨a, _⟩ => a.go.sub hO⟩
  cases c with
  | true => exact ⟨g1, k⟩
  | false => exact ⟨g1, k⟩)
end
theorem b_bad {ss : List Stmt} : PSs X ss (tT F L O (.bad : Res D') Ret) := ⟨fun pins s σ H D I q => q.2.elim⟩
theorem s_whileC {c : Expr} {mc : B → Res Bool} {f : B → Res B} {body : List Stmt} {pos : Pos} {b0 : B} (sp : Sp3 L' O' b0)
    (hp : PassesOwn (model X.prog X.w) X.A X.env X.xe) (hc : ∀ b, PT X c (tB' F (L' b) (O' b) (mc b))) (hO : ∀ b, List.Sublist F.O0 (O' b)) (hw : wk L (L' b0)) (ho : List.Sublist (O' b0) O)
    (hb : ∀ b, PSs X body (tC F (L' b) (O' b) (f b) L' O')) : PS X (.While c body [] pos) (tN F L O (whileW mc f b0) L' O') := by
  have hc' : PT X c (fun σ H Q => ∃ b, tB' F (L' b) (O' b) (mc b) σ H Q) := ⟨fun pins s σ H Q I ⟨b, q⟩ => (hc b).run pins s σ H Q I q⟩
  have hb' : PSs X body (fun D σ H => ∃ b, tC F (L' b) (O' b) (f b) L' O' D σ H) := pss_ex hb
  refine ps_imp (ps_while hp hc' hb') fun D σ H ⟨g0, q⟩ => ?_
  obtain ⟨n, hn⟩ := whileW_n mc f b0
  rw [hn] at q
  refine ⟨fun m σ H => ∃ b, G F (L' b) (O' b) σ H ∧ Out F (whileN mc f m b) (fun b => ∀ σ' H', G F (L' b) (O' b) σ' H' → D.nx σ' H') (XPS F), ⟨n, b0, g0.to hw ho, q⟩, ?_⟩
  rintro m σ H ⟨b, g, q⟩
  cases m with
  | zero => exact q.elim
  | succ m =>
    rw [show whileN mc f (m + 1) b = (mc b).bind fun t => if t then (f b).bind fun b => whileN mc f m b else .ok b from rfl, out_bind] at q
    refine ⟨b, g, q.mono (fun t k H1 g1 s1 => ?_) fun H' ⟨a, _⟩ => a.go.sub (hO b)⟩
    cases t with
    | true =>
      rw [if_pos rfl]
      simp only [if_true] at k
      rw [out_bind] at k
      exact ⟨fun σ' H' => ∃ b', G F (L' b') (O' b') σ' H' ∧ Out F (whileN mc f m b') (fun b => ∀ σ' H', G F (L' b) (O' b) σ' H' → D.nx σ' H') (XPS F), fun σ' H' z => ⟨m, Nat.lt_succ_self m, z⟩, b, g1, k.mono (fun b' kb σ' H' g' => ⟨⟨b', g', kb⟩, ⟨b', g', kb⟩⟩) fun _ z => z⟩
    | false =>
      rw [if_neg Bool.false_ne_true]
      exact k σ H1 g1
end
/-! ### (e, name), the name an owned list, handed back -/
section
variable {X : Cx} {F : Fr} {L : List (Option Asr)} {O : List Own} {α β : Type} [Rep α] [Data α] [Rep β] {p : Addr}
theorem own_out {as : List α} {H : Hp} (g : GO F O H) (hO : ow F.K F.mg p as ∈ O) : Dp F.K (rg F [] H) (.ref p) (toD as) := by
  obtain ⟨o, h3, vs, h4, h5⟩ := g.objs _ hO
  subst h4
  have h6 : rg F [] H p = some (.lst vs) := (less_out (g.apart _ hO)).trans h3
  exact .lst (.of h6) (reps_dp (h5.mono (rg_sub (List.nil_sublist _))))
theorem b_retTO {e : Expr} {x : Str} {m : Res β} {as : List α} {k : Nat → Nat} {kk} {p2 p3 pos : Pos} (i : Nat) (hL : L[i]? = some (rf p)) (hO1 : ow F.K F.mg p as ∈ O) (he : PE X e (tP true F L O m)) (hO : List.Sublist F.O0 O) (hN : X.N[i]? = some x := by rfl) (hv : Vis X.env.scope x := by first | exact Or.inl rfl | exact Or.inr (Or.inl rfl) | exact Or.inr (Or.inr rfl)) (hd : (x == ("__debug__" : Str)) = false := by decide)
    (hcd : (x == ("__classdict__" : Str)) = false := by decide) (h1 : starEach [e, .Name x p2] X.env = (false, eval e X.env) :: starEach [.Name x p2] X.env := by rfl) (h2 : starEach [.Name x p2] X.env = (false, eval (.Name x p2) X.env) :: starEach [] X.env := by rfl) :
    PSs X [.Return (some (.Tuple [e, .Name x p2] kk p3)) pos] (tT F L O (m.bind fun a => .ok (a, toD as)) (rV F)) := pss_one (ps_imp (ps_ret (pe_tup (pa_cons he (pa_cons (pe_var hN hv hd hcd) pa_nil h2) h1))) fun D σ H ⟨g, q⟩ => by
  rw [out_bind] at q
  refine ⟨g, q.mono (fun a kk v1 H1 g1 s1 r1 => ?_) fun H' ⟨a, _⟩ => a.go.sub hO⟩
  obtain ⟨w, h3, h4⟩ := g1.slot hL
  have h4' : w = V.ref p := h4
  subst h4'
  refine ⟨_, h3, by show 2 ≤ sizeLine; decide, fun t ht => ?_⟩
  have g2 := g1.grow (same_upd (o := .tup [v1, .ref p]) ht)
  refine kk _ _ ⟨g2.go.sub (List.nil_sublist _), t, v1, .ref p, rfl, .of ?_, Rep.mono ((rg_sub (List.nil_sublist _)).trans (rg_grow (same_upd ht))) r1, own_out g2.go hO1⟩
  exact (less_out (fun z => g1.go.out ht (List.mem_append_right _ z))).trans upd_same)
end
/-! ### a pair of a text and either an int or a new list of texts -/
section
variable (s0 s1 : Str) (K : Fg) (mg : MG) {τ : Type} [RepA τ]
def spTold (mir : τ → Res (Sum Int (List Str))) : Sp := fun vs H Q _ => ∃ (a : τ) (A : List Addr), (∀ x ∈ A, H x ≠ none) ∧ RepA.rep K mg (less H A) vs a ∧
  Out (F0 K mg H A E0) (mir a) (fun r => match r with
    | .inl n => ∀ v H', Same H H' → Rep.rep K mg (less H' A) v (s0, PyData.int n) → Q v H'
    | .inr ws => ∀ t p H', Same H H' → H p = none → H' p = some (.lst (ws.map V.str)) → less (less H' A) [p] t = some (.tup [.str s1, .ref p]) → Q (.ref t) H') (fun H' => Same H H')
end
def rT (s0 s1 : Str) (F : Fr) (r : Sum Int (List Str)) (v : V) (H : Hp) : Prop := GO F [] H ∧ match r with
  | .inl n => rp F (rg F [] H) v (s0, PyData.int n)
  | .inr ws => ∃ t p, v = .ref t ∧ F.H0 p = none ∧ p ∉ F.A ∧ H p = some (.lst (ws.map V.str)) ∧ less (rg F [] H) [p] t = some (.tup [.str s1, .ref p])
section
variable {P : Program} {w : World} {K : PySem.W.Frag} {mg : Str → Option Value} {base : Heap} {τ : Type} [RepA τ] {s0 s1 : Str}
variable {x qual : Str} {st : Stmt} {f : Addr} {fd : FuncData} {N ps : List Str} {k : Nat}
theorem def_T {mir : τ → Res (Sum Int (List Str))} (Fu : Fun K x qual st f fd) (S : FnScope N ps (defScope st)) (L0 : τ → List (Option Asr)) (hl : ∀ (vs : List V) (R : Hp) (a : τ), RepA.rep K mg R vs a → vs.length = ps.length ∧ Paired (SlotOk R) (L0 a) (start N vs))
    (body : ∀ (cdv : Value) (A : Around) (outer : List Env) (s : Shared) (H : Hp) (Av : List Addr) (E : XK) (a : τ), Room k (A.deeper (envOfC qual (defScope st) s.heap.objs.size f cdv)) →
      PSs (cxOf CX0 P w K mg base N qual (defScope st) f cdv A outer s H E).nox (defBody st) (tT (F0 K mg H Av E0) (L0 a) [] (mir a) (rT s0 s1 (F0 K mg H Av E0)))) :
    FnOk P w K mg base CX0 (k + 1) f fd ps (spTold s0 s1 K mg mir) := by
  refine Fu.ok S (fun vs H Q E ⟨a, A, _, h, _⟩ => (hl vs _ a h).1) (fun cdv A outer s H vs Q E hr ⟨a, Av, hA, h, q⟩ => ⟨_, body cdv A outer s H Av E a hr, ⟨(hl vs _ a h).2, go_start hA⟩, ?_⟩)
  refine q.mono (fun r k v H' ⟨g, hr⟩ => ?_) fun H' g => go_same g
  cases r with
  | inl n => exact k v H' (go_same g) hr
  | inr ws =>
    obtain ⟨t, p, e, h1, h2, h3, h4⟩ := hr
    subst e
    exact k t p H' (go_same g) h1 h3 h4
end
section
variable {X : Cx} {F : Fr} {L : List (Option Asr)} {O : List Own} {s0 s1 : Str} {B : Type} {L' : B → List (Option Asr)} {O' : B → List Own}
/-- return 's1', a new list -/
theorem b_retTf {e : Expr} {m : Res (List Str)} {j kk} {p2 p3 pos : Pos} (he : PE X e (tF true F L O m)) (hO : List.Sublist F.O0 O) (h1 : starEach [.Constant (.str s1) j p2, e] X.env = (false, eval (.Constant (.str s1) j p2) X.env) :: starEach [e] X.env := by rfl) (h2 : starEach [e] X.env = (false, eval e X.env) :: starEach [] X.env := by rfl) :
    PSs X [.Return (some (.Tuple [.Constant (.str s1) j p2, e] kk p3)) pos] (tT F L O (m.bind fun ws => .ok (.inr ws)) (rT s0 s1 F)) := pss_one (ps_imp (ps_ret (pe_tup (pa_cons pe_str (pa_cons he pa_nil h2) h1))) fun D σ H ⟨g, q⟩ => by
  rw [out_bind] at q
  refine ⟨g, q.mono (fun ws k p vs H1 g1 ss hp hv r1 => ?_) fun H' ⟨a, _⟩ => a.go.sub hO⟩
  have e : vs = ws.map V.str := reps_flat.mp r1
  subst e
  refine ⟨by show 2 ≤ sizeLine; decide, fun t ht => ?_⟩
  have g2 := g1.grow (same_upd (o := .tup [.str s1, .ref p]) ht)
  have hpt : t ≠ p := fun z => by rw [z, hv] at ht; cases ht
  refine k _ _ ⟨g2.go.sub (List.nil_sublist _), t, p, rfl, ?_, fun z => g.go.out hp (List.mem_append_right _ z), by rw [upd_ne (fun z => hpt z.symm)]; exact hv, ?_⟩
  · cases q : F.H0 p with
    | none => rfl
    | some o => exact (g.go.live p (by rw [q]; simp) hp).elim
  · rw [less_one hpt]
    exact (less_out (fun z => g1.go.out ht (List.mem_append_right _ z))).trans upd_same)
def uninR (d : PyData) : Res (Sum Int (List Str)) := match d with
  | .int n => .ok (.inl n)
  | _ => .bad
/-- return 's0', an int -/
theorem b_retTu {e : Expr} {m : Res PyData} {j kk} {p2 p3 pos : Pos} (he : PE X e (tP true F L O m)) (hO : List.Sublist F.O0 O) (h1 : starEach [.Constant (.str s0) j p2, e] X.env = (false, eval (.Constant (.str s0) j p2) X.env) :: starEach [e] X.env := by rfl) (h2 : starEach [e] X.env = (false, eval e X.env) :: starEach [] X.env := by rfl) :
    PSs X [.Return (some (.Tuple [.Constant (.str s0) j p2, e] kk p3)) pos] (tT F L O (m.bind uninR) (rT s0 s1 F)) := pss_one (ps_imp (ps_ret (pe_tup (pa_cons pe_str (pa_cons he pa_nil h2) h1))) fun D σ H ⟨g, q⟩ => by
  rw [out_bind] at q
  refine ⟨g, q.mono (fun d k v H1 g1 ss r1 => ?_) fun H' ⟨a, _⟩ => a.go.sub hO⟩
  refine ⟨by show 2 ≤ sizeLine; decide, fun t ht => ?_⟩
  have g2 := g1.grow (same_upd (o := .tup [.str s0, v]) ht)
  cases d with
  | int n =>
    refine k _ _ ⟨g2.go.sub (List.nil_sublist _), t, .str s0, v, rfl, .of ?_, rfl, Rep.mono ((rg_sub (List.nil_sublist _)).trans (rg_grow (same_upd ht))) r1⟩
    exact (less_out (fun z => g1.go.out ht (List.mem_append_right _ z))).trans upd_same
  | _ => exact k.elim)
/-- the slot of such a pair -/
def tv (s1 : Str) (p : Addr) : Option Asr := some ⟨fun H v => ∃ t, v = .ref t ∧ H t = some (.tup [.str s1, .ref p]), fun e ⟨t, h1, h2⟩ => ⟨t, h1, e _ _ h2⟩⟩
theorem b_told {τ D' : Type} [RepA τ] {Ret : D' → V → Hp → Prop} {mir : τ → Res (Sum Int (List Str))} {m : Res τ} {m1 : Int → Res D'} {m2 : List Str → Res D'} {k : Nat} {ps : List Str} {x y : Str} {p1 pos pos2 pos3 : Pos} {e : Expr} {es : List Expr} {rest : List Stmt} (i : Nat) (D : DefAt X.prog X.w X.K X.mg X.base CX0 k x ps (spTold s0 s1 X.K X.mg mir)) (hr : Room k X.A) (hN : X.N.Nodup) (ha : PA X (e :: es) (tA true F L O m)) (hO : List.Sublist F.O0 O)
    (h1 : ∀ n, PSs X rest (tT F (L.set i (vl F.K F.mg ((s0, PyData.int n) : Str × PyData))) O (m1 n) Ret)) (h2 : ∀ ws p, PSs X rest (tT F (L.set i (tv s1 p)) (ow F.K F.mg p ws :: O) (m2 ws) Ret))
    (hg : Gl X x := by rfl) (hE : F.E = E0 := by rfl) (hK : X.K = F.K := by rfl) (hM : X.mg = F.mg := by rfl) (hd : (x == ("__debug__" : Str)) = false := by decide)
    (hs : starEach (e :: es) X.env = (false, eval e X.env) :: starEach es X.env := by rfl) (hs2 : ((backTo pos (starEach es X.env)).any fun x => x.fst) = false := by rfl)
    (hi : X.N[i]? = some y := by rfl) (hx : L2.Loc X.env.scope y := by first | exact .inl rfl | exact .inr rfl) (hsw : swapsWith (.Call (.Name x p1) (e :: es) [] pos) (some (.Name y pos2)) pos3.line X.env = pure false := by rfl) (hf : X.fn y = true ∨ X.env.scope.names.lookup y = some .local := by first | exact .inl rfl | exact .inr rfl) :
    PSs X (.Assign [.Name y pos2] (.Call (.Name x p1) (e :: es) [] pos) pos3 :: rest) (tT F L O ((m.bind mir).bind fun r => match r with | .inl n => m1 n | .inr ws => m2 ws) Ret) := by
  obtain ⟨f, fd, Gf, hm, hk, hb⟩ := D.ex
  refine pss_imp (pss_cons (ps_set (i := i) hN hi hx (pe_call Gf hr hg hm hk hb .nil pass0 ha hd hs hs2) hsw hf) (pss_or (pss_ex h1) (pss_ex fun ws => pss_ex fun p => h2 ws p))) fun D σ H ⟨g, q⟩ => ?_
  rw [Res.bind_assoc, out_bind] at q
  refine ⟨g, q.mono (fun a qa vs H1 g1 ss r1 => ?_) fun H' ⟨a, _⟩ => a.go.sub hO⟩
  show spTold s0 s1 X.K X.mg mir (vs ++ []) H1 _ E0
  rw [List.append_nil, hK, hM]
  refine ⟨a, avoid true F O, g1.go.avoided (b := true), by rw [← rgn_avoid]; exact r1, ?_⟩
  cases e : mir a with
  | bad => rw [e] at qa; exact qa.elim
  | err c fs =>
    rw [e] at qa
    intro C d H' h1 h2 h4
    have := qa C d H' h1 (h2.older g1.go.live) ((g1.grow h4).go.sub hO)
    rw [hE] at this
    exact this
  | ok r =>
    rw [e] at qa
    cases r with
    | inl n =>
      intro v H' s2 r2
      have g2 := g1.grow s2
      exact .inl ⟨n, ⟨set_ok (p := vl F.K F.mg ((s0, PyData.int n) : Str × PyData)) r2 i g2.slots, g2.go⟩, qa⟩
    | inr ws =>
      intro t p H' s2 hp hv ht
      have g2 := g1.grow s2
      refine .inr ⟨ws, p, ⟨set_ok (p := tv s1 p) ⟨t, rfl, ?_⟩ i (L2.Paired.mapP g1.slots fun _ _ z => z.mono (rg_new rfl s2 hp)), go_new g1 g2.go s2 hp hv (reps_flat.mpr rfl)⟩, qa⟩
      exact tup_out ht
where
  tup_out {p t : Addr} {ws : List Str} {H' : Hp} (ht : less (less H' (avoid true F O)) [p] t = some (.tup [.str s1, .ref p])) : rg F (ow F.K F.mg p ws :: O) H' t = some (.tup [.str s1, .ref p]) := by
    have hp : t ≠ p := fun z => by
      rw [z, less_in List.mem_cons_self] at ht
      cases ht
    rw [less_one hp] at ht
    have hb : t ∉ addrs O ++ F.A := fun z => by
      have := less_in (H := H') z
      rw [show less H' (addrs O ++ F.A) t = some (.tup [.str s1, .ref p]) from ht] at this
      cases this
    have ht2 : H' t = some (.tup [.str s1, .ref p]) := less_same _ _ ht
    refine (less_out fun z => ?_).trans ht2
    rcases List.mem_append.mp z with z | z
    · rcases List.mem_cons.mp (show t ∈ p :: addrs O from z) with z | z
      · exact hp z
      · exact hb (List.mem_append_left _ z)
    · exact hb (List.mem_append_right _ z)
/-- the name, as a value -/
theorem n_told {y : Str} {ws : List Str} {p : Addr} {pos : Pos} (i : Nat) (hL : L[i]? = some (tv s1 p)) (hO : ow F.K F.mg p ws ∈ O) (hN : X.N[i]? = some y := by rfl) (hv : Vis X.env.scope y := by first | exact Or.inl rfl | exact Or.inr (Or.inl rfl) | exact Or.inr (Or.inr rfl)) (hd : (y == ("__debug__" : Str)) = false := by decide)
    (hcd : (y == ("__classdict__" : Str)) = false := by decide) : PE X (.Name y pos) (tP false F L O (.ok ((s1, toD ws) : Str × PyData))) := pe_imp (pe_var hN hv hd hcd) fun σ H Q ⟨g, q⟩ => by
  obtain ⟨v, h1, t, h2, h3⟩ := g.slot hL
  subst h2
  exact ⟨_, h1, q _ H g (Same.refl _) ⟨t, .str s1, .ref p, rfl, .of (less_same _ _ h3), rfl, dp_mono less_same (own_out g.go hO)⟩⟩
/-- y[1].append(e) -/
theorem s_toldApp {y : Str} {e : Expr} {ws : List Str} {p : Addr} {j : Nat} {p1 p2 p3 p4 cpos pos : Pos} (i : Nat) {b : Bool} {m : Res Str} (hL : L[i]? = some (tv s1 p)) (hO : List.Sublist F.O0 (ow F.K F.mg p ws :: O)) (he : PE X e (tP b F L (ow F.K F.mg p ws :: O) m))
    (h : ∀ {to : TE} {t : TA}, PE X (.Subscript (.Name y p1) (.Constant (.int 1) j p2) p3) to → PA X [e] t → PE X (.Call (.Attribute (.Subscript (.Name y p1) (.Constant (.int 1) j p2) p3) "append" p4) [e] [] cpos) (tBM X.K "list" rAppend to t)) (hs1 : starEach [e] X.env = (false, eval e X.env) :: starEach [] X.env := by rfl)
    (hN : X.N[i]? = some y := by rfl) (hv : Vis X.env.scope y := by first | exact Or.inl rfl | exact Or.inr (Or.inl rfl) | exact Or.inr (Or.inr rfl)) (hd : (y == ("__debug__" : Str)) = false := by decide) (hcd : (y == ("__classdict__" : Str)) = false := by decide) (hp : PlainIx (.Constant (.int 1) j p2) := by exact fun _ _ => rfl)
    (hs : swapsWith (.Call (.Attribute (.Subscript (.Name y p1) (.Constant (.int 1) j p2) p3) "append" p4) [e] [] cpos) none pos.line X.env = pure false := by rfl) :
    PS X (.Expr (.Call (.Attribute (.Subscript (.Name y p1) (.Constant (.int 1) j p2) p3) "append" p4) [e] [] cpos) pos) (tN F L (ow F.K F.mg p ws :: O) (m.bind fun a => need (ws.length < sizeLine) (.ok (ws ++ [a]))) (fun _ => L) (fun ys => ow F.K F.mg p ys :: O)) := ps_imp (ps_expr (h (pe_ix ix_tup (pe_var hN hv hd hcd) pe_int hp) (pa_cons he pa_nil hs1)) hs) fun D σ H ⟨g, q⟩ => by
  obtain ⟨w, h4, t, h5, h6⟩ := g.slot hL
  subst h5
  obtain ⟨vs, h7, h8⟩ := g.head
  rw [out_bind] at q
  refine ⟨_, h4, t, _, 1, .ref p, rfl, rfl, .of (less_same _ _ h6), rfl, .inl ⟨rfl, _, .of h7⟩, g, q.mono (fun a k v H1 g1 s1 r1 => ?_) fun H' ⟨a, _⟩ => a.go.sub hO⟩
  rw [out_need] at k
  obtain ⟨vs', h9, h10⟩ := g1.head
  have r1' : v = V.str a := Flat.iff.mp r1
  subst r1'
  refine ⟨p, vs', _, rfl, rfl, h9, by rw [h10.length]; exact k.1, ?_⟩
  exact k.2 σ _ (g_upd g1 (reps_append h10 (.cons rfl .nil))).1
/-! ### x = [comprehension that changes the owned object] -/
section
variable {p : Addr} {α β ι : Type} [Rep α] [Rep β] [OwR ι] {xs : ι} {tg iter elt : Expr} {ifs : List Expr} {scope : Scope} {own : List (Str × Nat)} {y : Str} {pos p1 pos2 : Pos} {g : TG} {bd : α → List (Option Asr) → List (Option Asr)} {m : Res (List α × ι)} {P : α → ι → Res (Bool × ι)} {f : α → ι → Res (β × ι)}
theorem s_setLcE (i : Nat) (hc : X.calm = true) (hN : X.N.Nodup) (hi : PI X tg iter (tIE F L p xs O m)) (hb : BlkOk X.N X.env.scope scope own)
    (hok : TgOk F.K F.mg g (own.map (·.2)) bd) (ht : ∀ (s : Shared) (H : Hp) (C : Addr) (cl : List (Str × Addr)) (fp : List Addr), Tg (X.blk s H scope (compEnvC scope cl C X.env) fp) F.K F.mg tg g (own.map (·.2)) bd)
    (hp : ∀ (s : Shared) (H : Hp) (C : Addr) (cl : List (Str × Addr)) (fp : List Addr) (a : α) (D : Addr) (ds : List β) (xs' : ι), PTs (X.blk s H scope (compEnvC scope cl C X.env) fp) ifs (tEB F.nox (bd a (wipeL L (own.map (·.2)))) p xs' (ow F.K F.mg D ds :: O) (P a xs')))
    (he : ∀ (s : Shared) (H : Hp) (C : Addr) (cl : List (Str × Addr)) (fp : List Addr) (a : α) (D : Addr) (ds : List β) (xs' : ι), PE (X.blk s H scope (compEnvC scope cl C X.env) fp) elt (tE true F.nox (bd a (wipeL L (own.map (·.2)))) p xs' (ow F.K F.mg D ds :: O) (f a xs')))
    (hy : X.N[i]? = some y := by rfl) (hyl : X.env.scope.names.lookup y = some .local := by rfl) (hk : X.env.scope.kind = .function := by rfl) (hl : (p1.line == pos.line) = true := by rfl) (ha : (scope.names.any fun (n, k) => n == y && (k == .local || k == .cell)) = false := by rfl) (hpl : pos2.line = pos.line := by rfl)
    (hf : ∀ x, foldedSetIterable iter X.env x = pure x := by intro _; rfl) :
    PS X (.Assign [.Name y p1] (.ListComp elt [{ target := tg, iter := iter, ifs := ifs, is_async := 0 }] scope pos) pos2) (tN F L (ow F.K F.mg p xs :: O) (m.bind fun r => need (r.1.length ≤ sizeLine) (filtE (fun a x => (P a x).quiet) (fun a x => (f a x).quiet) r.1 r.2)) (fun r => L.set i (vl F.K F.mg r.1)) (fun r => ow F.K F.mg p r.2 :: O)) := by
  refine ps_imp (ps_setLc hc hN hy hyl (sw_true hk hyl hl ha) hi hb (fun s H C cl fp => (ht s H C cl fp).pg) (fun s H C cl fp => pts_ex fun a => pts_ex fun D => pts_ex fun ds => pts_ex fun xs' => hp s H C cl fp a D ds xs') (fun s H C cl fp => pe_ex fun a => pe_ex fun D => pe_ex fun ds => pe_ex fun xs' => he s H C cl fp a D ds xs') hf) fun D σ H ⟨g0, q⟩ => ?_
  refine comp_coreE _ _ rfl hok rfl rfl σ H (fun x H1 => gName i x σ H1 D.nx) ⟨g0, q.mono (fun r k v H1 g1 s1 r1 => ?_) fun _ z => z⟩
  exact k _ _ ⟨set_ok (p := vl F.K F.mg r.1) r1 i g1.slots, g1.go⟩
end
end
theorem rT_le {F F' : Fr} {s0 s1 : Str} (h : FLe F' F) : ∀ (b : Sum Int (List Str)) (v : V) (H : Hp), rT s0 s1 F b v H → rT s0 s1 F' b v H := fun b v H ⟨g, r⟩ => ⟨h.go g, by
  cases b with
  | inl n =>
    show rp F' (rg F' [] H) v _
    rw [h.rg]
    unfold rp
    rw [h.eqs.1, h.eqs.2.1]
    exact r
  | inr ws =>
    obtain ⟨t, p, e, h1, h2, h3, h4⟩ := r
    refine ⟨t, p, e, by rw [h.eqs.2.2.2]; exact h1, by rw [h.eqs.2.2.1]; exact h2, h3, ?_⟩
    rw [h.rg]
    exact h4⟩
section
variable {X : Cx} {F : Fr} {L : List (Option Asr)} {O : List Own} {b3 : Bool} {a C : Addr} {oe : PySem.Obj} {d : Option Addr} {pn : List (Addr × PySem.Obj)} {fs : List (Str × PyData)} {n y : Str} {p1 p2 p3 pos : Pos}
/-- isinstance(e, T), T a built-in type -/
theorem n_isEB {v : Bool} {nT : String} (i : Nat) (T : ExcC X.K C) (hz : L2N.Zn (.ref C) d oe) (hd : ∃ vs, oe.data = .fields vs) (hL : L[i]? = some (rf a)) (hm : X.mg y = none) (hT : bootBuiltins y = some (.type nT)) (hk : PySem.W.kitOne X.K (.ref C) (.type nT) = some v) (hib : X.mg "isinstance" = none)
    (hN : X.N[i]? = some n := by rfl) (hv : Vis X.env.scope n := by first | exact Or.inl rfl | exact Or.inr (Or.inl rfl) | exact Or.inr (Or.inr rfl)) (hd1 : (n == ("__debug__" : Str)) = false := by decide) (hcd : (n == ("__classdict__" : Str)) = false := by decide)
    (hg : Gl X "isinstance" := by rfl) (hgy : Gl X y := by rfl) (hn : y ≠ "__name__" := by decide) (hd2 : (y == ("__debug__" : Str)) = false := by decide)
    (h1 : starEach [.Name n p2, .Name y p3] (X.suite a ((a, oe) :: pn)).env = (false, eval (.Name n p2) (X.suite a ((a, oe) :: pn)).env) :: starEach [.Name y p3] (X.suite a ((a, oe) :: pn)).env := by rfl) (h2 : starEach [.Name y p3] (X.suite a ((a, oe) :: pn)).env = (false, eval (.Name y p3) (X.suite a ((a, oe) :: pn)).env) :: starEach [] (X.suite a ((a, oe) :: pn)).env := by rfl)
    (hpl : (backTo pos (starEach [.Name y p3] (X.suite a ((a, oe) :: pn)).env)).any (·.1) = false := by rfl) :
    PE (X.suite a ((a, oe) :: pn)) (.Call (.Name "isinstance" p1) [.Name n p2, .Name y p3] [] pos) (tP b3 (F.add (xdF d fs)) L O (.ok v)) :=
  pe_imp (pe_callB (X := X.suite a ((a, oe) :: pn)) (call_isD T hz hd) hg hib (by decide +kernel) (pa_cons (pe_var (X := X.suite a ((a, oe) :: pn)) (i := i) hN hv hd1 hcd) (pa_cons (pe_bltn (X := X.suite a ((a, oe) :: pn)) (v := .ty nT) hgy hm hT rfl hn hd2) pa_nil h2) h1) (by decide) (by decide) h1 hpl) fun σ H Q ⟨g, q⟩ => by
  obtain ⟨v1, h3, h4⟩ := g.slot hL
  have e1 : v1 = V.ref a := h4
  subst e1
  refine ⟨_, h3, .ty nT, .type nT, v, rfl, fun u r => r, hk, fun dd e => ?_, q _ H g (Same.refl _) rfl⟩
  subst e
  exact ⟨_, less_same _ _ g.go.fact⟩
end
end NF

set_option Elab.async false
set_option linter.all false
set_option maxRecDepth 100000
/-! Nf33: calls with no argument; returns out of a try's body. -/
namespace NF
open PySem PySem.Spec PyProof.Rows L2
open Data (toD)
section
variable {X : Cx} {F : Fr} {L : List (Option Asr)} {O : List Own} {ρ : Type} [Rep ρ]
variable {k : Nat} {ps : List Str} {x : Str} {p1 pos : Pos} {b : Bool}
theorem nd_call0 {mir : Unit → Res ρ} (D : DefAt X.prog X.w X.K X.mg X.base CX0 k x ps (spP X.K X.mg mir)) (hr : Room k X.A) (hg : Gl X x := by rfl) (hE : F.E = E0 := by rfl) (hK : X.K = F.K := by rfl) (hM : X.mg = F.mg := by rfl) (hd : (x == ("__debug__" : Str)) = false := by decide) :
    PE X (.Call (.Name x p1) [] [] pos) (tP b F L O (mir ())) := by
  obtain ⟨f, fd, h1, h2, h3, h4⟩ := D.ex
  have h := call_core (m := .ok ()) (sp := spP X.K X.mg mir) (F := F) (L := L) (O := O) (b := b) hE (fun vs H Q q => by rw [← hK, ← hM] at q; exact q) (pe_imp (pe_call0 (p := p1) (pos := pos) h1 hr hg h2 h3 h4 .nil pass0 hd) fun σ H Q ⟨g, q⟩ => q [] H g (Same.refl _) rfl)
  exact h
end
theorem rV_ft {α : Type} [Rep α] {F : Fr} {E : XK} {O : List Own} : ∀ (b : α) (v : V) (H : Hp), rV (Ft F E O) b v H → rV F b v H := fun b v H ⟨g, r⟩ => ⟨go_tf g, r⟩
theorem rT_ft {s0 s1 : Str} {F : Fr} {E : XK} {O : List Own} : ∀ (b : Sum Int (List Str)) (v : V) (H : Hp), rT s0 s1 (Ft F E O) b v H → rT s0 s1 F b v H := fun b v H ⟨g, r⟩ => ⟨go_tf g, r⟩
end NF

set_option Elab.async false
set_option linter.all false
set_option maxRecDepth 100000
/-! Nf34: operators and `in` of own classes, by their methods. -/
namespace NF
open PySem PySem.Spec PyProof.Rows L2
open Data (toD)
section
variable {X : Cx} {CX : CXT} {C g : Addr} {fd : FuncData} {ps : List Str} {k : Nat} {sp : Sp} {E : XK}
/-- two instances of the class at C, and what its method is asked -/
def rBinO (C : Addr) (sp : Sp) (E : XK) : R2 := fun x y H Q => ∃ a dx fs b dy gs, x = .ref a ∧ y = .ref b ∧ H a = some (.ins C dx fs) ∧ H b = some (.ins C dy gs) ∧ sp [x, y] H Q E
theorem op_bin {op : Operator} (hs : PySem.W.findIn X.K (.ref C) (PySem.dunder op.info.2) = some (some (.ref g))) (hf : PySem.W.isFn X.K (.ref g) = true) (hc : PySem.W.selfFirst X.K C = true) (F : FnOk X.prog X.w X.K X.mg X.base CX k g fd ps sp) (hr : Room k X.A) (hb : Binds X.K fd ps []) (hx : Passes CX X E) : OpR X (binaryOp op) (rBinO C sp E) := by
  intro pins s σ H x y v u Q I rx ry h
  obtain ⟨a, dx, fs, b, dy, gs, rfl, rfl, ha, hb', q⟩ := h
  cases (show v = Value.ref a from rx)
  cases (show u = Value.ref b from ry)
  obtain ⟨mA, J, _⟩ := ins_get I.hok ha
  obtain ⟨mB, J', _⟩ := ins_get I.hok hb'
  obtain ⟨od, J, _⟩ := J.look
  obtain ⟨od', J', _⟩ := J'.look
  obtain ⟨m, hF⟩ := I.fr
  refine PySem.W.binop_K hF I.ok.mod.kin J J'.type hc hs hf ?_
  refine wpAny_mono (run_fn (us := [.ref a, .ref b]) (vs := [V.ref a, V.ref b]) F hr hb .nil hx I (.cons rfl (.cons rfl .nil)) (by rw [List.append_nil]; exact q)) (fun w s' z => ?_) fun _ _ x => x
  obtain ⟨z', H', I', rz, qz⟩ := z
  exact SlX.cmpback rz ⟨z', H', I', rz, qz⟩
/-- y in x, x an instance of the class at C -/
def rInO (C : Addr) (sp : Sp) (E : XK) : R2 := fun y x H Q => ∃ a dx fs, x = .ref a ∧ H a = some (.ins C dx fs) ∧ sp [x, y] H (fun z H' => ∃ b, z = .bl b ∧ Q (.bl b) H') E
theorem op_inO (hs : PySem.W.findIn X.K (.ref C) "__contains__" = some (some (.ref g))) (hf : PySem.W.isFn X.K (.ref g) = true) (F : FnOk X.prog X.w X.K X.mg X.base CX k g fd ps sp) (hr : Room k X.A) (hb : Binds X.K fd ps []) (hx : Passes CX X E) : OpR X (compareOp .In) (rInO C sp E) := by
  intro pins s σ H y x u v Q I ry rx h
  obtain ⟨a, dx, fs, rfl, ha, q⟩ := h
  cases (show v = Value.ref a from rx)
  obtain ⟨mA, J, _⟩ := ins_get I.hok ha
  obtain ⟨od, J, _⟩ := J.look
  obtain ⟨m, hF⟩ := I.fr
  refine PySem.W.in_K hF I.ok.mod.kin J hs hf ?_
  refine wpAny_mono (run_fn (us := [.ref a, u]) (vs := [V.ref a, y]) F hr hb .nil hx I (.cons rfl (.cons ry .nil)) (by rw [List.append_nil]; exact q)) (fun w s' z => ?_) fun _ _ x => x
  obtain ⟨z', H', I', rz, b, e, qz⟩ := z
  subst e
  cases (show w = Value.bool b from rz)
  exact wpAny_pure ⟨V.bl b, H', I', rfl, qz⟩
def rNotInO (C : Addr) (sp : Sp) (E : XK) : R2 := fun y x H Q => ∃ a dx fs, x = .ref a ∧ H a = some (.ins C dx fs) ∧ sp [x, y] H (fun z H' => ∃ b, z = .bl b ∧ Q (.bl (!b)) H') E
theorem op_notInO (hs : PySem.W.findIn X.K (.ref C) "__contains__" = some (some (.ref g))) (hf : PySem.W.isFn X.K (.ref g) = true) (F : FnOk X.prog X.w X.K X.mg X.base CX k g fd ps sp) (hr : Room k X.A) (hb : Binds X.K fd ps []) (hx : Passes CX X E) : OpR X (compareOp .NotIn) (rNotInO C sp E) := by
  intro pins s σ H y x u v Q I ry rx h
  obtain ⟨a, dx, fs, rfl, ha, q⟩ := h
  cases (show v = Value.ref a from rx)
  obtain ⟨mA, J, _⟩ := ins_get I.hok ha
  obtain ⟨od, J, _⟩ := J.look
  obtain ⟨m, hF⟩ := I.fr
  refine PySem.W.notIn_K hF I.ok.mod.kin J hs hf ?_
  refine wpAny_mono (run_fn (us := [.ref a, u]) (vs := [V.ref a, y]) F hr hb .nil hx I (.cons rfl (.cons ry .nil)) (by rw [List.append_nil]; exact q)) (fun w s' z => ?_) fun _ _ x => x
  obtain ⟨z', H', I', rz, b, e, qz⟩ := z
  subst e
  cases (show w = Value.bool b from rz)
  exact wpAny_pure ⟨V.bl (!b), H', I', rfl, qz⟩
end
/-- the class comes first among its own bases -/
structure SelfAt (K : Fg) (mg : MG) (x : Str) : Prop where
  ex : ∀ C, mg x = some (.ref C) → PySem.W.selfFirst K C = true
section
variable {X : Cx} {F : Fr} {L : List (Option Asr)} {O : List Own} {α β τ ρ : Type} [Obj α] [Rep β] [RepA τ] [Rep ρ]
variable {k : Nat} {ps : List Str} {m : Str} {x y : Expr} {pos : Pos} {b : Bool}
theorem bin_args {sp : Sp} {C : Addr} {mx my : Res α} {E : XK} {e : Expr} (hx : X.mg (Obj.cls α) = some (.ref C)) (hM : X.mg = F.mg) (h : PE X e (tOp (rBinO C sp E) (tP b F L O mx) (tP b F L O my))) : PE X e (tCall sp [] E (tA b F L O (mx.bind fun a => my.bind fun r => .ok (Ar.mk a (Ar.mk r ()))))) := pe_imp h fun σ H Q ⟨g, q⟩ => by
  rw [out_bind] at q
  refine ⟨g, q.mono (fun a qa v1 H1 g1 s1 r1 => ?_) fun _ z => z⟩
  rw [out_bind] at qa
  refine ⟨g1, qa.mono (fun c qc v2 H2 g2 s2 r2 => ?_) fun H' ⟨u, w⟩ => ⟨u, s1.trans w⟩⟩
  have r1' := Rep.mono (rgn_grow s2) r1
  have z := qc [v1, v2] H2 g2 (s1.trans s2) ⟨v1, [v2], rfl, r1', v2, [], rfl, r2, rfl⟩
  obtain ⟨p, D, dx, vs, e1, h2, h3, h4⟩ := r1'
  obtain ⟨p', D', dx', vs', e1', h2', h3', h4'⟩ := r2
  rw [← hM, hx] at h2 h2'
  cases h2
  cases h2'
  exact ⟨p, dx, vs, p', dx', vs', e1, e1', rgn_sub _ _ h3, rgn_sub _ _ h3', z⟩
/-- x op y, two instances of one class -/
theorem n_binO {op : Operator} {mir : Ar α (Ar α Unit) → Res ρ} {mx my : Res α} (D : MethAt X.prog X.w X.K X.mg X.base k (Obj.cls α) m ps (spP X.K X.mg mir)) (sf : SelfAt X.K X.mg (Obj.cls α)) (hr : Room k X.A) (hx : PE X x (tP b F L O mx)) (hy : PE X y (tP b F L O my)) (hop : PySem.dunder op.info.2 = m := by decide +kernel) (hE : F.E = E0 := by rfl) (hK : X.K = F.K := by rfl) (hM : X.mg = F.mg := by rfl) :
    PE X (.BinOp x op y pos) (tP b F L O ((mx.bind fun a => my.bind fun r => .ok (Ar.mk a (Ar.mk r ()))).bind mir)) := by
  obtain ⟨C, f, fd, h1, h2, h3, h4, h5⟩ := D.ex
  exact call_core (sp := spP X.K X.mg mir) hE (fun vs H Q q => by rw [← hK, ← hM] at q; exact q) (bin_args h1 hM (pe_op (op_bin (by rw [hop]; exact h3.at_) h3.fn (sf.ex C h1) h4 hr h5 pass0) hx hy))
theorem in_core {C f : Addr} {fd : FuncData} {mir : Ar α (Ar β Unit) → Res Bool} {mx : Res α} {my : Res β} {e : Expr} {r : R2} (fl : Bool → Bool) (hx : X.mg (Obj.cls α) = some (.ref C)) (hE : F.E = E0) (hK : X.K = F.K) (hM : X.mg = F.mg)
    (hr : ∀ x y H Q, (∃ a dx fs, x = .ref a ∧ H a = some (.ins C dx fs) ∧ spP X.K X.mg mir [x, y] H (fun z H' => ∃ b, z = .bl b ∧ Q (.bl (fl b)) H') E0) → r y x H Q) (h : PE X e (tOp r (tP b F L O my) (tP b F L O mx))) : PE X e (tP b F L O (my.bind fun r => mx.bind fun a => (mir (Ar.mk a (Ar.mk r ()))).bind fun t => .ok (fl t))) := pe_imp h fun σ H Q ⟨g, q⟩ => by
  rw [out_bind] at q
  refine ⟨g, q.mono (fun c qc v1 H1 g1 s1 r1 => ?_) fun _ z => z⟩
  rw [out_bind] at qc
  refine ⟨g1, qc.mono (fun a qa v2 H2 g2 s2 r2 => ?_) fun H' ⟨u, w⟩ => ⟨u, s1.trans w⟩⟩
  rw [out_bind] at qa
  have r2' := r2
  obtain ⟨p', D', dx', vs', e1', h2', h3', h4'⟩ := r2
  rw [← hM, hx] at h2'
  cases h2'
  refine hr _ _ _ _ ⟨p', dx', vs', e1', rgn_sub _ _ h3', ?_⟩
  rw [hK, hM]
  refine ⟨Ar.mk a (Ar.mk c ()), avoid b F O, g2.go.avoided, by rw [← rgn_avoid]; exact ⟨v2, [v1], rfl, r2', v1, [], rfl, Rep.mono (rgn_grow s2) r1, rfl⟩, ?_⟩
  rw [← hE]
  cases e : mir (Ar.mk a (Ar.mk c ())) with
  | ok t =>
    rw [e] at qa
    exact fun v H' s3 r3 => ⟨t, r3, qa (.bl (fl t)) H' (g2.grow s3) ((s1.trans s2).trans s3) rfl⟩
  | err c fs =>
    rw [e] at qa
    exact fun C d H' h1 h2 h4 => qa C d H' h1 (h2.older g2.go.live) ⟨g2.grow h4, (s1.trans s2).trans h4⟩
  | bad =>
    rw [e] at qa
    exact qa.elim
/-- y in x, by x's own __contains__ -/
theorem n_inO {mir : Ar α (Ar β Unit) → Res Bool} {mx : Res α} {my : Res β} (D : MethAt X.prog X.w X.K X.mg X.base k (Obj.cls α) "__contains__" ps (spP X.K X.mg mir)) (hr : Room k X.A) (hy : PE X y (tP b F L O my)) (hx : PE X x (tP b F L O mx)) (hm : behindInMarks CmpOp.In x = false := by rfl) (hE : F.E = E0 := by rfl) (hK : X.K = F.K := by rfl) (hM : X.mg = F.mg := by rfl) :
    PE X (.Compare y [.In] [x] pos) (tP b F L O (my.bind fun r => mx.bind fun a => (mir (Ar.mk a (Ar.mk r ()))).bind fun t => .ok t)) := by
  obtain ⟨C, f, fd, h1, h2, h3, h4, h5⟩ := D.ex
  exact in_core (f := f) (fd := fd) id h1 hE hK hM (fun x y H Q z => z) (pe_cmpR (op_inO (CX := CX0) (E := E0) (sp := spP X.K X.mg mir) h3.at_ h3.fn h4 hr h5 pass0) hy hx hm)
theorem n_notInO {mir : Ar α (Ar β Unit) → Res Bool} {mx : Res α} {my : Res β} (D : MethAt X.prog X.w X.K X.mg X.base k (Obj.cls α) "__contains__" ps (spP X.K X.mg mir)) (hr : Room k X.A) (hy : PE X y (tP b F L O my)) (hx : PE X x (tP b F L O mx)) (hm : behindInMarks CmpOp.NotIn x = false := by rfl) (hE : F.E = E0 := by rfl) (hK : X.K = F.K := by rfl) (hM : X.mg = F.mg := by rfl) :
    PE X (.Compare y [.NotIn] [x] pos) (tP b F L O (my.bind fun r => mx.bind fun a => (mir (Ar.mk a (Ar.mk r ()))).bind fun t => .ok (!t))) := by
  obtain ⟨C, f, fd, h1, h2, h3, h4, h5⟩ := D.ex
  exact in_core (f := f) (fd := fd) (!·) h1 hE hK hM (fun x y H Q z => z) (pe_cmpR (op_notInO (CX := CX0) (E := E0) (sp := spP X.K X.mg mir) h3.at_ h3.fn h4 hr h5 pass0) hy hx hm)
end
end NF

set_option Elab.async false
set_option linter.all false
set_option maxRecDepth 100000
/-! Nf35: dicts whose keys are ints or texts. -/
namespace NF
open PySem PySem.Spec PyProof.Rows L2
open Data (toD)
class KeyR (κ : Type) [Rep κ] where
  key : κ → Key
  inj : ∀ {a b : κ}, key a = key b → a = b
  rep : ∀ {K : Fg} {mg : MG} {H : Hp} {v : V} {a : κ}, Rep.rep K mg H v a → v = kV (key a)
instance : KeyR Int := ⟨.inl, fun h => by cases h; rfl, fun h => h⟩
instance : KeyR Str := ⟨.inr, fun h => by cases h; rfl, fun h => h⟩
structure Dk (κ α : Type) where
  kvs : List (κ × α)
section
variable {κ α : Type} [Rep κ] [KeyR κ] [DecidableEq κ] [Rep α]
abbrev Ents (K : Fg) (mg : MG) (H : Hp) (kvs : List (κ × α)) (ws : List (Key × V)) : Prop := PySem.Paired (fun (p : κ × α) (w : Key × V) => w.1 = KeyR.key p.1 ∧ Rep.rep K mg H w.2 p.2) kvs ws
theorem Ents.mono {K : Fg} {mg : MG} {H H' : Hp} {kvs : List (κ × α)} {ws : List (Key × V)} (h : Ents K mg H kvs ws) (e : Same H H') : Ents K mg H' kvs ws := L2.Paired.mapP h fun _ _ q => ⟨q.1, Rep.mono e q.2⟩
instance : Rep (Dk κ α) := ⟨fun K mg H v d => ∃ p ws, v = .ref p ∧ H p = some (.dK ws) ∧ Ents K mg H d.kvs ws, fun e ⟨p, ws, h1, h2, h3⟩ => ⟨p, ws, h1, e _ _ h2, h3.mono e⟩⟩
instance : OwR (Dk κ α) := ⟨fun K mg H o d => ∃ ws, o = .dK ws ∧ Ents K mg H d.kvs ws, fun e ⟨ws, h1, h2⟩ => ⟨ws, h1, h2.mono e⟩⟩
def valD (kvs : List (κ × α)) (k : κ) : Option α := (kvs.find? fun p => decide (p.1 = k)).map (·.2)
def putD (kvs : List (κ × α)) (k : κ) (a : α) : List (κ × α) := if (kvs.any fun p => decide (p.1 = k)) = true then kvs.map (fun p => if p.1 = k then (p.1, a) else p) else kvs ++ [(k, a)]
theorem valD_cons {p : κ × α} {r : List (κ × α)} {k : κ} : valD (p :: r) k = if p.1 = k then some p.2 else valD r k := by
  unfold valD
  rw [List.find?_cons]
  by_cases h : p.1 = k
  · rw [if_pos h, decide_eq_true h]; rfl
  · rw [if_neg h, decide_eq_false h]
theorem ents_get {K : Fg} {mg : MG} {H : Hp} : ∀ {kvs : List (κ × α)} {ws : List (Key × V)}, Ents K mg H kvs ws → ∀ k : κ, (∀ a, valD kvs k = some a → ∃ w, valV ws (KeyR.key k) = some w ∧ Rep.rep K mg H w a) ∧ (valD kvs k = none → valV ws (KeyR.key k) = none)
  | [], [], _, k => ⟨fun a h => (by cases h), fun _ => rfl⟩
  | p :: kvs, w :: ws, .cons q t, k => by
    obtain ⟨ih1, ih2⟩ := ents_get t k
    rw [valD_cons]
    by_cases h : p.1 = k
    · have hw : w.1 = KeyR.key k := by rw [q.1, h]
      rw [if_pos h, valV_pos hw]
      exact ⟨fun a e => (by cases e; exact ⟨_, rfl, q.2⟩), fun e => (by cases e)⟩
    · have hw : ¬ w.1 = KeyR.key k := fun z => h (KeyR.inj (q.1.symm.trans z))
      rw [if_neg h, valV_neg hw]
      exact ⟨ih1, ih2⟩
theorem ents_any {K : Fg} {mg : MG} {H : Hp} (k : κ) : ∀ {kvs : List (κ × α)} {ws : List (Key × V)}, Ents K mg H kvs ws → (ws.any fun w => decide (w.1 = KeyR.key k)) = (kvs.any fun p => decide (p.1 = k))
  | [], [], _ => rfl
  | p :: kvs, w :: ws, .cons q t => by
    rw [List.any_cons, List.any_cons, ents_any k t]
    congr 1
    by_cases h : p.1 = k
    · rw [decide_eq_true h, decide_eq_true (by rw [q.1, h])]
    · rw [decide_eq_false h, decide_eq_false fun z => h (KeyR.inj (q.1.symm.trans z))]
theorem ents_map {K : Fg} {mg : MG} {H : Hp} {k : κ} {a : α} {v : V} (r : Rep.rep K mg H v a) : ∀ {kvs : List (κ × α)} {ws : List (Key × V)}, Ents K mg H kvs ws → Ents K mg H (kvs.map fun p => if p.1 = k then (p.1, a) else p) (ws.map fun w => if w.1 = KeyR.key k then (w.1, v) else w)
  | [], [], _ => .nil
  | p :: kvs, w :: ws, .cons q t => by
    rw [List.map_cons, List.map_cons]
    refine .cons ?_ (ents_map r t)
    by_cases h : p.1 = k
    · rw [if_pos h, if_pos (by rw [q.1, h])]; exact ⟨q.1, r⟩
    · rw [if_neg h, if_neg fun z => h (KeyR.inj (q.1.symm.trans z))]; exact q
theorem ents_snoc {K : Fg} {mg : MG} {H : Hp} {k : κ} {a : α} {v : V} (r : Rep.rep K mg H v a) : ∀ {kvs : List (κ × α)} {ws : List (Key × V)}, Ents K mg H kvs ws → Ents K mg H (kvs ++ [(k, a)]) (ws ++ [(KeyR.key k, v)])
  | [], [], _ => .cons ⟨rfl, r⟩ .nil
  | _ :: _, _ :: _, .cons q t => .cons q (ents_snoc r t)
theorem ents_put {K : Fg} {mg : MG} {H : Hp} {kvs : List (κ × α)} {ws : List (Key × V)} {k : κ} {a : α} {v : V} (h : Ents K mg H kvs ws) (r : Rep.rep K mg H v a) : Ents K mg H (putD kvs k a) (putK ws (KeyR.key k) v) := by
  unfold putD putK
  rw [ents_any k h]
  split
  · exact ents_map r h
  · exact ents_snoc r h
def gD (d : Dk κ α) (k : κ) : Res α := match valD d.kvs k with
  | some a => .ok a
  | none => .bad
end
section
variable {X : Cx} {F : Fr} {L : List (Option Asr)} {O : List Own} {κ α : Type} [Rep κ] [KeyR κ] [DecidableEq κ] [Rep α] {p : Addr}
variable {o i e f : Expr} {b b1 : Bool} {pos p1 p2 apos cpos : Pos}
/-- an owned dict as a value -/
theorem n_ownD {x : Str} {d : Dk κ α} (j : Nat) (hL : L[j]? = some (rf p)) (hO : ow F.K F.mg p d ∈ O) (hN : X.N[j]? = some x := by rfl) (hv : Vis X.env.scope x := by first | exact Or.inl rfl | exact Or.inr (Or.inl rfl) | exact Or.inr (Or.inr rfl)) (hd : (x == ("__debug__" : Str)) = false := by decide)
    (hcd : (x == ("__classdict__" : Str)) = false := by decide) : PE X (.Name x pos) (tP false F L O (.ok d)) := pe_imp (pe_var hN hv hd hcd) fun σ H Q ⟨g, q⟩ => by
  obtain ⟨v, h1, h2⟩ := g.slot hL
  obtain ⟨o, h3, ws, h4, h5⟩ := g.go.objs _ hO
  subst h4
  exact ⟨v, h1, q v H g (Same.refl _) ⟨p, ws, h2, h3, h5.mono less_same⟩⟩
/-- d[k] -/
theorem n_dget {md : Res (Dk κ α)} {mk : Res κ} (hu : X.A.units + 1 < cLine) (ho : PE X o (tP b F L O md)) (hi : PE X i (tP b1 F L O mk)) (hs : NoSl i := by intro _ _; rfl) : PE X (.Subscript o i pos) (tP b F L O (md.bind fun d => mk.bind fun k => gD d k)) := pe_imp (pe_dget hu ho hi hs) fun σ H Q ⟨g, q⟩ => by
  rw [out_bind] at q
  refine ⟨g, q.mono (fun d qd v1 H1 g1 s1 r1 => ?_) fun _ z => z⟩
  rw [out_bind] at qd
  refine ⟨g1, qd.mono (fun k qk v2 H2 g2 s2 r2 => ?_) fun H' ⟨a, b⟩ => ⟨a, s1.trans b⟩⟩
  obtain ⟨p, ws, e1, h3, h4⟩ := Rep.mono (rgn_grow s2) r1
  have e2 := KeyR.rep r2
  have hg := ents_get h4 k
  unfold gD at qk
  cases e : valD d.kvs k with
  | none => rw [e] at qk; exact qk.elim
  | some a =>
    rw [e] at qk
    obtain ⟨w, hw, rw'⟩ := hg.1 a e
    exact ⟨p, w, e1, by rw [e2]; exact .inl ⟨ws, _, .inl (rgn_sub _ _ h3), rfl, hw.symm⟩, qk w H2 g2 (s1.trans s2) rw'⟩
/-- k in d -/
theorem n_din {md : Res (Dk κ α)} {mk : Res κ} {b2 : Bool} (hu : X.A.units + 1 < cLine) (hi : PE X i (tP b1 F L O mk)) (ho : PE X o (tP b F L O md)) (hm : behindInMarks CmpOp.In o = false := by rfl) : PE X (.Compare i [.In] [o] pos) (tP b2 F L O (mk.bind fun k => md.bind fun d => .ok (valD d.kvs k).isSome)) := pe_imp (pe_cmp (pc_din hu hi ho) hm) fun σ H Q ⟨g, q⟩ => by
  rw [out_bind] at q
  refine ⟨g, q.mono (fun k qk v1 H1 g1 s1 r1 => ?_) fun _ z => z⟩
  rw [out_bind] at qk
  refine ⟨g1, qk.mono (fun d qd v2 H2 g2 s2 r2 => ?_) fun H' ⟨a, b⟩ => ⟨a, s1.trans b⟩⟩
  obtain ⟨p, ws, e1, h3, h4⟩ := r2
  have e2 := KeyR.rep r1
  have hg := ents_get h4 k
  refine ⟨p, valV ws (KeyR.key k), e1, by rw [e2]; exact .inl ⟨ws, _, .inl (rgn_sub _ _ h3), rfl, rfl⟩, ?_⟩
  refine qd _ H2 g2 (s1.trans s2) ?_
  show V.bl _ = V.bl _
  congr 1
  cases e : valD d.kvs k with
  | none => rw [hg.2 e]; rfl
  | some a =>
    obtain ⟨w, hw, _⟩ := hg.1 a e
    rw [hw]; rfl
theorem n_dnotin {md : Res (Dk κ α)} {mk : Res κ} {b2 : Bool} (hu : X.A.units + 1 < cLine) (hi : PE X i (tP b1 F L O mk)) (ho : PE X o (tP b F L O md)) (hm : behindInMarks CmpOp.NotIn o = false := by rfl) : PE X (.Compare i [.NotIn] [o] pos) (tP b2 F L O (mk.bind fun k => md.bind fun d => .ok (!(valD d.kvs k).isSome))) := pe_imp (pe_cmp (pc_dnotin hu hi ho) hm) fun σ H Q ⟨g, q⟩ => by
  rw [out_bind] at q
  refine ⟨g, q.mono (fun k qk v1 H1 g1 s1 r1 => ?_) fun _ z => z⟩
  rw [out_bind] at qk
  refine ⟨g1, qk.mono (fun d qd v2 H2 g2 s2 r2 => ?_) fun H' ⟨a, b⟩ => ⟨a, s1.trans b⟩⟩
  obtain ⟨p, ws, e1, h3, h4⟩ := r2
  have e2 := KeyR.rep r1
  have hg := ents_get h4 k
  refine ⟨p, valV ws (KeyR.key k), e1, by rw [e2]; exact .inl ⟨ws, _, .inl (rgn_sub _ _ h3), rfl, rfl⟩, ?_⟩
  refine qd _ H2 g2 (s1.trans s2) ?_
  show V.bl _ = V.bl _
  congr 1
  cases e : valD d.kvs k with
  | none => rw [hg.2 e]; rfl
  | some a =>
    obtain ⟨w, hw, _⟩ := hg.1 a e
    rw [hw]; rfl
/-- d.get(k, x) -/
theorem n_dget2 {md : Res (Dk κ α)} {mk : Res κ} {mx : Res α} (hu : X.A.units + 1 < cLine) (ho : PE X o (tP b F L O md)) (hi : PE X e (tP b1 F L O mk)) (hx : PE X f (tP b F L O mx)) (m : M2 X o "get" apos e f cpos := by exact ⟨rfl, rfl, rfl, rfl⟩) : PE X (.Call (.Attribute o "get" apos) [e, f] [] cpos) (tP b F L O (md.bind fun d => mk.bind fun k => mx.bind fun x => .ok ((valD d.kvs k).getD x))) := pe_imp (pe_dget2 hu ho hi hx m) fun σ H Q ⟨g, q⟩ => by
  rw [out_bind] at q
  refine ⟨g, q.mono (fun d qd v1 H1 g1 s1 r1 => ?_) fun _ z => z⟩
  rw [out_bind] at qd
  have r1a := r1
  obtain ⟨p, ws0, e1, h30, h40⟩ := r1a
  refine ⟨p, e1, .inl ⟨ws0, .inl (rgn_sub _ _ h30)⟩, g1, qd.mono (fun k qk v2 H2 g2 s2 r2 => ?_) fun H' ⟨a, b⟩ => ⟨a, s1.trans b⟩⟩
  rw [out_bind] at qk
  refine ⟨g2, qk.mono (fun x qx v3 H3 g3 s3 r3 => ?_) fun H' ⟨a, b⟩ => ⟨a, (s1.trans s2).trans b⟩⟩
  have h3 := (rgn_grow s3) _ _ ((rgn_grow s2) _ _ h30)
  have h4 : Ents F.K F.mg (rgn b F O H3) d.kvs ws0 := (h40.mono (rgn_grow s2)).mono (rgn_grow s3)
  have e2 := KeyR.rep r2
  have hg := ents_get h4 k
  refine ⟨valV ws0 (KeyR.key k), by rw [e2]; exact .inl ⟨ws0, _, .inl (rgn_sub _ _ h3), rfl, rfl⟩, qx _ H3 g3 ((s1.trans s2).trans s3) ?_⟩
  cases e : valD d.kvs k with
  | none => rw [hg.2 e]; exact r3
  | some a =>
    obtain ⟨w, hw, r⟩ := hg.1 a e
    rw [hw]; exact r
end
/-! ### owned dicts -/
theorem go_newO {F : Fr} {O : List Own} {ι : Type} [OwR ι] {x : ι} {o : HO} {p : Addr} {H3 : Hp} (g3 : GO F O H3) (hp : H3 p = none) (r : OwR.P F.K F.mg (rg F O H3) o x) : GO F (ow F.K F.mg p x :: O) (upd H3 p o) := by
  have er : Same (rg F O H3) (rg F (ow F.K F.mg p x :: O) (upd H3 p o)) := rg_new rfl (same_upd hp) hp
  have gg := g3.grow (same_upd (o := o) hp)
  exact {
    objs := fun w hw => by
      rcases List.mem_cons.mp hw with rfl | hw
      · exact ⟨_, upd_same, OwR.mono er r⟩
      · obtain ⟨o, ho, hp'⟩ := g3.objs w hw
        exact ⟨o, same_upd hp _ _ ho, w.mono er hp'⟩
    nd := List.nodup_cons.mpr ⟨fun z => g3.out hp (List.mem_append_left _ z), gg.nd⟩
    own := fun w hw => by
      rcases List.mem_cons.mp hw with rfl | hw
      · refine .inr ?_
        cases q : F.H0 p with
        | none => exact q
        | some o => exact (g3.live p (by rw [q]; simp) hp).elim
      · exact gg.own w hw
    keep := gg.keep
    live := gg.live
    hid := gg.hid
    apart := fun w hw => by
      rcases List.mem_cons.mp hw with rfl | hw
      · exact fun z => g3.out hp (List.mem_append_right _ z)
      · exact gg.apart w hw
    facts := fun z hz => z.mono er (g3.facts z hz) }
section
variable {X : Cx} {F : Fr} {L : List (Option Asr)} {O : List Own} {κ α : Type} [Rep κ] [KeyR κ] [DecidableEq κ] [Rep α] {p : Addr}
variable {i e : Expr} {b1 : Bool} {pos pos' dp p1 p2 : Pos} {y : Str}
/-- x = {} -/
theorem s_dnew (j : Nat) (hN : X.N.Nodup) (hO : List.Sublist F.O0 O) (hi : X.N[j]? = some y := by rfl) (hx : L2.Loc X.env.scope y := by first | exact .inl rfl | exact .inr rfl) (hs : swapsWith (.Dict [] [] dp) (some (.Name y pos')) pos.line X.env = pure false := by rfl) (hf : X.fn y = true ∨ X.env.scope.names.lookup y = some .local := by first | exact .inl rfl | exact .inr rfl) :
    PS X (.Assign [.Name y pos'] (.Dict [] [] dp) pos) (tNp F L O (.ok (Dk.mk [] : Dk κ α)) (fun p _ => L.set j (rf p)) (fun p x => ow F.K F.mg p x :: O)) := ps_imp (ps_set (i := j) hN hi hx pe_dnewK hs hf) fun D σ H ⟨g, k⟩ => by
  intro p hp
  exact k p _ _ ⟨set_ok (p := rf p) rfl j (L2.Paired.mapP g.slots fun _ _ z => z.mono (rg_new rfl (same_upd hp) hp)), go_newO g.go hp ⟨[], rfl, .nil⟩⟩
/-- d[k] = e -/
theorem s_dput {d : Dk κ α} {mk : Res κ} {m : Res α} (j : Nat) (hu : X.A.units + 1 < cLine) (hL : L[j]? = some (rf p)) (hO : ∀ d' : Dk κ α, List.Sublist F.O0 (ow F.K F.mg p d' :: O)) (hi : PE X i (tP b1 F L (ow F.K F.mg p d :: O) mk)) (he : PE X e (tP true F L (ow F.K F.mg p d :: O) m))
    (hN : X.N[j]? = some y := by rfl) (hv : Vis X.env.scope y := by first | exact Or.inl rfl | exact Or.inr (Or.inl rfl) | exact Or.inr (Or.inr rfl)) (hd : (y == ("__debug__" : Str)) = false := by decide) (hcd : (y == ("__classdict__" : Str)) = false := by decide)
    (hs : swapsWith e (some (.Subscript (.Name y p1) i p2)) pos.line X.env = pure false := by rfl) :
    PS X (.Assign [.Subscript (.Name y p1) i p2] e pos) (tN F L (ow F.K F.mg p d :: O) (m.bind fun a => mk.bind fun k => need (d.kvs.length < sizeLine) (.ok (Dk.mk (putD d.kvs k a) : Dk κ α))) (fun _ => L) (fun d' => ow F.K F.mg p d' :: O)) := ps_imp (ps_dput hu (pe_var hN hv hd hcd) hi he hs) fun D σ H ⟨g, q⟩ => by
  rw [out_bind] at q
  refine ⟨g, q.mono (fun a qa v1 H1 g1 s1 r1 => ?_) fun H' ⟨a, _⟩ => a.go.sub (hO d)⟩
  obtain ⟨w, h4, h5⟩ := g1.slot hL
  rw [out_bind] at qa
  refine ⟨w, h4, g1, qa.mono (fun k qk v2 H2 g2 s2 r2 => ?_) fun H' ⟨a, _⟩ => a.go.sub (hO d)⟩
  rw [out_need] at qk
  obtain ⟨o, h6, ws, h7, h8⟩ := g2.go.objs _ List.mem_cons_self
  subst h7
  have e2 := KeyR.rep r2
  have hl : ws.length = d.kvs.length := (PySem.Paired.length h8).symm
  refine ⟨p, _, h5, by rw [e2]; exact DPut.k h6 (by rw [hl]; exact qk.1), qk.2 σ _ (g_updO g2 ⟨_, rfl, ents_put h8 ?_⟩)⟩
  exact Rep.mono (rgn_grow (b := true) s2) r1
end
end NF

set_option Elab.async false
set_option linter.all false
set_option maxRecDepth 100000
/-! Nf36: sorted of pairs of an int or a text and an int (the firsts of one kind); an order's own sorting. -/
namespace NF
open PySem PySem.Spec PyProof.Rows L2
open Data (toD)
/-! ### the order -/
theorem str_eq {a b : Str} : a.cps.toList = b.cps.toList ↔ a = b := ⟨fun h => by
  cases a with
  | mk x =>
    cases b with
    | mk y =>
      have h' : x.toList = y.toList := h
      have : x = y := by rw [← Array.toArray_toList (xs := x), h', Array.toArray_toList]
      rw [this], fun h => by rw [h]⟩
def ltKey : Key → Key → Bool
  | .inl i, .inl j => decide (i < j)
  | .inr x, .inr y => decide (x.cps.toList < y.cps.toList)
  | .inl _, .inr _ => true
  | .inr _, .inl _ => false
theorem key_asym {a b : Key} (h : ltKey a b = true) : ltKey b a = false := by
  cases a with
  | inl i =>
    cases b with
    | inl j => have h' : i < j := of_decide_eq_true h; exact decide_eq_false (by omega)
    | inr y => rfl
  | inr x =>
    cases b with
    | inl j => cases h
    | inr y => have h' := of_decide_eq_true h; exact decide_eq_false fun c => List.lt_irrefl _ (List.lt_trans h' c)
theorem key_tr {a b c : Key} (h1 : ltKey b a = false) (h2 : ltKey c b = false) : ltKey c a = false := by
  cases a with
  | inl i =>
    cases c with
    | inl k =>
      cases b with
      | inl j => have := of_decide_eq_false h1; have := of_decide_eq_false h2; exact decide_eq_false (by omega)
      | inr y => cases h2
    | inr z => rfl
  | inr x =>
    cases b with
    | inl j => cases h1
    | inr y =>
      cases c with
      | inl k => cases h2
      | inr z =>
        have a1 := List.not_lt.mp (of_decide_eq_false h1)
        have a2 := List.not_lt.mp (of_decide_eq_false h2)
        exact decide_eq_false (List.not_lt.mpr (List.le_trans a1 a2))
theorem key_tot {a b : Key} (h1 : ltKey a b = false) (h2 : ltKey b a = false) : a = b := by
  cases a with
  | inl i =>
    cases b with
    | inl j =>
      have := of_decide_eq_false h1
      have := of_decide_eq_false h2
      have : i = j := by omega
      rw [this]
    | inr y => cases h1
  | inr x =>
    cases b with
    | inl j => cases h2
    | inr y =>
      have a1 := List.not_lt.mp (of_decide_eq_false h1)
      have a2 := List.not_lt.mp (of_decide_eq_false h2)
      rw [str_eq.mp (List.le_antisymm a2 a1)]
theorem key_irr (a : Key) : ltKey a a = false := by
  cases h : ltKey a a with
  | false => rfl
  | true => have := key_asym h; rw [h] at this; cases this
def ltKI (p q : Key × Int) : Bool := if p.1 = q.1 then decide (p.2 < q.2) else ltKey p.1 q.1
theorem ltKI_iff {p q : Key × Int} : ltKI p q = true ↔ ltKey p.1 q.1 = true ∨ (p.1 = q.1 ∧ p.2 < q.2) := by
  unfold ltKI
  by_cases e : p.1 = q.1
  · rw [if_pos e, decide_eq_true_eq]
    exact ⟨fun h => .inr ⟨e, h⟩, fun h => h.elim (fun z => by rw [e, key_irr] at z; cases z) fun z => z.2⟩
  · rw [if_neg e]
    exact ⟨.inl, fun h => h.elim id fun z => (e z.1).elim⟩
theorem ltKI_no {p q : Key × Int} : ltKI p q = false ↔ ltKey p.1 q.1 = false ∧ (p.1 = q.1 → q.2 ≤ p.2) := by
  rw [← Bool.not_eq_true, ltKI_iff]
  constructor
  · intro h
    refine ⟨?_, fun e => Int.not_lt.mp fun z => h (.inr ⟨e, z⟩)⟩
    cases q : ltKey p.1 q.1 with
    | false => rfl
    | true => exact (h (.inl q)).elim
  · rintro ⟨h1, h2⟩ (z | z)
    · rw [h1] at z; cases z
    · exact Int.not_lt.mpr (h2 z.1) z.2
theorem swoKI {β : Type} (k : β → Key × Int) : SrtO.Swo fun v u => ltKI (k v) (k u) := by
  refine ⟨fun x y h => ?_, fun x y z h1 h2 => ?_⟩
  · refine ltKI_no.mpr ?_
    rcases ltKI_iff.mp h with a | ⟨a, b⟩
    · exact ⟨key_asym a, fun e => by rw [e, key_irr] at a; cases a⟩
    · exact ⟨by rw [a]; exact key_irr _, fun _ => by omega⟩
  · obtain ⟨a1, a2⟩ := ltKI_no.mp h1
    obtain ⟨b1, b2⟩ := ltKI_no.mp h2
    refine ltKI_no.mpr ⟨key_tr a1 b1, fun e => ?_⟩
    have e2 : (k y).1 = (k x).1 := key_tot a1 (by rw [← e]; exact b1)
    have := a2 e2
    have := b2 (by rw [e, e2])
    omega
/-! ### the machine's comparisons -/
def kvl : Key → Tok → Value
  | .inl i, t => .int i t
  | .inr x, t => .str x t
def kty : Key → String
  | .inl _ => "int"
  | .inr _ => "str"
section
variable {prog : Program} {w : World} {A : Around} {s : Shared}
def IsPT (h : Heap) (v : Value) (x : Key) (y : Int) : Prop := ∃ a o t u n, v = .ref a ∧ h.get? a = some o ∧ o.cls = .type "tuple" ∧ o.data = .seq #[kvl x t, .int y u] n
theorem IsPT.keeps {h h' : Heap} {v : Value} {x : Key} {y : Int} (p : IsPT h v x y) (k : ∀ b o, h.get? b = some o → o.cls = .type "tuple" → h'.get? b = some o) : IsPT h' v x y := by
  obtain ⟨a, o, t, u, n, e, ho, hc, hd⟩ := p
  exact ⟨a, o, t, u, n, e, k _ _ ho hc, hc, hd⟩
theorem key_eqAt {a b : Key} {t t' : Tok} (h : kty a = kty b) : SeqAt.EqAt A s (kvl a t) (kvl b t') (decide (a = b)) := by
  cases a with
  | inl i =>
    cases b with
    | inl j =>
      have e : decide ((Sum.inl i : Key) = Sum.inl j) = (i == j) := by rw [Bool.eq_iff_iff]; simp
      rw [e]; exact SeqAt.EqAt.int_int i t j t'
    | inr y => exact absurd (show "int" = "str" from h) (by decide)
  | inr x =>
    cases b with
    | inl j => exact absurd (show "str" = "int" from h) (by decide)
    | inr y =>
      have e : decide ((Sum.inr x : Key) = Sum.inr y) = (x == y) := by rw [Bool.eq_iff_iff]; simp
      rw [e]; exact SeqAt.EqAt.str_str x t y t'
theorem key_oneLt {a b : Key} {t t' : Tok} {Q : Bool → Shared → Prop} {E : Value → Shared → Prop} (h : kty a = kty b) (q : Q (ltKey a b) s) : wpAny (model prog w) A (oneLt' true (kvl a t) (kvl b t')) Q E s := by
  cases a with
  | inl i =>
    cases b with
    | inl j => exact oneLt_int q
    | inr y => exact absurd (show "int" = "str" from h) (by decide)
  | inr x =>
    cases b with
    | inl j => exact absurd (show "str" = "int" from h) (by decide)
    | inr y => exact oneLt_str q
theorem cmpTI {T : String} {vs : List Value} {k : Value → Key × Int} (hp : ∀ v ∈ vs, IsPT s.heap v (k v).1 (k v).2 ∧ kty (k v).1 = T) : SrtO.Cmp prog w A s (tuples' true) (fun p => p.1 ∈ vs) (SrtO.lt2 fun v u => ltKI (k v) (k u)) := by
  intro p q hm hm'
  obtain ⟨⟨a, o, t, u, n, e, ho, _, hd⟩, hT⟩ := hp _ hm
  obtain ⟨⟨a', o', t', u', n', e', ho', _, hd'⟩, hT'⟩ := hp _ hm'
  show wpAny (model prog w) A (keyLt' (tuples' true) p.1 q.1) (fun r s' => s' = s ∧ r = ltKI (k p.1) (k q.1)) (fun _ _ => False) s
  have hk : kty (k p.1).1 = kty (k q.1).1 := hT.trans hT'.symm
  clear hT hT' hp
  generalize k p.1 = P at hd hk ⊢
  generalize k q.1 = R at hd' hk ⊢
  rw [e, e']
  refine PySem.W.kat_lt ho hd ho' hd' ?_
  show PySem.W.KatLex prog w A true (decide (2 < 2)) _ [(kvl P.1 t, kvl R.1 t'), (.int P.2 u, .int R.2 u')] 0 s
  refine PySem.W.kat_cons (key_eqAt hk prog w _ _ (PySem.W.kat_go (fun e1 => ?_) fun e1 => ?_))
  · have ex : P.1 = R.1 := of_decide_eq_true e1
    refine PySem.W.kat_yes (PySem.W.kat_cons (SeqAt.EqAt.int_int P.2 u R.2 u' prog w _ _ (PySem.W.kat_go (fun e2 => ?_) fun e2 => ?_)))
    · have ey : P.2 = R.2 := by simpa using e2
      refine PySem.W.kat_yes (PySem.W.kat_nil ⟨rfl, ?_⟩)
      unfold ltKI
      rw [if_pos ex, ey]
      simp
    · refine PySem.W.kat_no (PySem.W.kat_one _ _ (PyProof.Rows.lt_int ?_))
      refine (show s = s ∧ decide (P.2 < R.2) = ltKI P R from ⟨rfl, ?_⟩)
      unfold ltKI
      rw [if_pos ex]
  · have ex : ¬ P.1 = R.1 := of_decide_eq_false e1
    refine PySem.W.kat_no (key_oneLt hk ⟨rfl, ?_⟩)
    unfold ltKI
    rw [if_neg ex]
theorem firstsTI {h : Heap} {T : String} : ∀ {vs : List Value}, (∀ v ∈ vs, ∃ x y, IsPT h v x y ∧ kty x = T) → ∃ fs : List Value, PySem.W.KatTups h vs fs ∧ fs.length = vs.length ∧ ∀ f ∈ fs, ∃ x t, f = kvl x t ∧ kty x = T
  | [], _ => ⟨[], PySem.W.KatTups.nil, rfl, fun _ hm => (List.not_mem_nil hm).elim⟩
  | v :: vs, hp => by
    obtain ⟨fs, h1, h2, h3⟩ := firstsTI (vs := vs) fun v' hm => hp v' (List.mem_cons_of_mem _ hm)
    obtain ⟨x, y, ⟨a, o, t, u, n, e, ho, hc, hd⟩, hT⟩ := hp v List.mem_cons_self
    subst e
    exact ⟨kvl x t :: fs, PySem.W.KatTups.cons ho hc hd rfl h1, by rw [List.length_cons, List.length_cons, h2], fun f hm => (List.mem_cons.mp hm).elim (fun z => ⟨x, t, z, hT⟩) (h3 f)⟩
theorem sortableTI {T : String} {a : Addr} {vs : List Value} {k : Value → Key × Int} (h0 : 0 < vs.length) (hT : T = "int" ∨ T = "str") (hp : ∀ v ∈ vs, IsPT s.heap v (k v).1 (k v).2 ∧ kty (k v).1 = T) (ha : ∀ o, s.heap.get? a = some o → o.cls ≠ .type "tuple") : SrtO.SortableO prog w A s a vs fun v u => ltKI (k v) (k u) := by
  intro h' keep
  have hp' : ∀ v ∈ vs, IsPT h' v (k v).1 (k v).2 ∧ kty (k v).1 = T := fun v hm => ⟨(hp v hm).1.keeps fun b o e c => keep b o (fun z => by subst z; exact ha o e c) e, (hp v hm).2⟩
  obtain ⟨fs, h1, h2, h3⟩ := firstsTI (T := T) fun v hm => ⟨_, _, hp' v hm⟩
  refine ⟨tuples' true, fun Q E hq => ?_, cmpTI hp'⟩
  refine PySem.W.kat_kind (T := .type T) h1 (by omega) (fun f hm => ?_) ?_ ?_
  · obtain ⟨x, t, rfl, hx⟩ := h3 f hm
    subst hx
    cases x with
    | inl i => exact PySem.W.Looks.now
    | inr y => exact PySem.W.Looks.now
  · rcases hT with z | z <;> subst z <;> rfl
  · have e : (Value.type T != Value.type "tuple") = true := by rcases hT with z | z <;> subst z <;> first | decide +kernel | rfl | decide
    rw [e]
    exact hq
end
/-! ### over the layer -/
/-- x stands for the pair p, seen from a part of the heap -/
def PTI (K : PySem.W.Frag) (H : Hp) (x : V) (p : Key × Int) : Prop := ∃ t, x = V.ref t ∧ SqT K H t [kV p.1, .int p.2]
def rSortedTI (K : PySem.W.Frag) : List V → Hp → VK → Prop := fun vs H Q => ∃ (a : Addr) (xs : List V) (ps : List (Key × Int)) (R : V → Key × Int → Prop) (T : String), vs = [V.ref a] ∧ SqL K H a xs ∧ PySem.Paired R xs ps ∧ (∀ x p, R x p → PTI K H x p ∧ kty p.1 = T) ∧ (T = "int" ∨ T = "str") ∧
  ∀ ys qs p, PySem.Paired R ys qs → SrtO.Srtd ltKI qs → SrtO.Stb ltKI qs ps → H p = none → Q (.ref p) (upd H p (.lst ys))
/-- what the object says -/
def kTI (h : Heap) (v : Value) : Key × Int := match v with
  | .ref a => match h.get? a with
    | some o => match o.data with
      | .seq xs _ => match xs.toList with
        | [.str x _, .int y _] => (.inr x, y)
        | [.int x _, .int y _] => (.inl x, y)
        | _ => (.inl 0, 0)
      | _ => (.inl 0, 0)
    | none => (.inl 0, 0)
  | _ => (.inl 0, 0)
theorem kTI_of {h : Heap} {v : Value} {x : Key} {y : Int} (p : IsPT h v x y) : kTI h v = (x, y) := by
  obtain ⟨a, o, t, u, n, e, ho, hc, hd⟩ := p
  subst e
  unfold kTI
  cases x <;> simp only [ho, hd, kvl]
theorem paired_map {β γ : Type} {R : β → γ → Prop} {k : β → γ} : ∀ {xs : List β}, (∀ x ∈ xs, R x (k x)) → PySem.Paired R xs (xs.map k)
  | [], _ => .nil
  | x :: xs, h => .cons (h x List.mem_cons_self) (paired_map fun y hy => h y (List.mem_cons_of_mem _ hy))
theorem paired_is {β γ : Type} {R : β → γ → Prop} {k : β → γ} : ∀ {xs : List β} {ps : List γ}, PySem.Paired R xs ps → (∀ x ∈ xs, ∀ p, R x p → k x = p) → xs.map k = ps ∧ ∀ x ∈ xs, R x (k x)
  | [], [], _, _ => ⟨rfl, fun _ h => (List.not_mem_nil h).elim⟩
  | x :: xs, p :: ps, .cons q t, h => by
    obtain ⟨a, b⟩ := paired_is t fun y hy => h y (List.mem_cons_of_mem _ hy)
    have e := h x List.mem_cons_self p q
    refine ⟨by rw [List.map_cons, a, e], fun y hy => ?_⟩
    rcases List.mem_cons.mp hy with z | z
    · rw [z, e]; exact q
    · exact b y z
def frV : V → Value
  | .ref a => .ref a
  | _ => .none
theorem cr_sortedTI {X : Cx} : CallR X (.builtin "sorted") (rSortedTI X.K) := by
  intro pins s σ H vs us Q I r h
  obtain ⟨a, xs, ps, R, T, rfl, hs, hx, hR, hT, q⟩ := h
  obtain ⟨its, rv, hl, hz⟩ := I.list hs
  obtain ⟨u, rfl, ru⟩ := vals1 r
  obtain rfl : u = Value.ref a := ru
  have at_ : ∀ x p, R x p → ∃ t, x = V.ref t ∧ IsPT s.heap (.ref t) p.1 p.2 := fun x p m => by
    obtain ⟨t, e, ht⟩ := (hR x p m).1
    obtain ⟨its2, r2, hd, _⟩ := I.tuple ht
    obtain ⟨u1, u2, rfl, ri, rj⟩ := vals2 r2
    obtain ⟨t1, rfl⟩ : ∃ t1, u1 = kvl p.1 t1 := by
      cases q : p.1 with
      | inl i => rw [q] at ri; exact ri
      | inr y => rw [q] at ri; exact ri
    obtain ⟨t2, rfl⟩ := rj
    obtain ⟨o, ho, hc, n, hd⟩ := hd
    exact ⟨t, e, t, o, t1, t2, n, rfl, ho, hc, hd⟩
  let k : V → Key × Int := fun x => kTI s.heap (frV x)
  have hk : ∀ x p, R x p → k x = p := fun x p m => by
    obtain ⟨t, e, ht⟩ := at_ x p m
    subst e
    exact kTI_of ht
  obtain ⟨em, hm⟩ := paired_is (k := k) hx fun x _ p => hk x p
  obtain ⟨e1, e2⟩ := refs_back rv fun x m => (at_ x _ (hm x m)).imp fun t z => z.1
  have kb : ∀ v : Value, (∃ t, v = .ref t) → k (backV v) = kTI s.heap v := fun v ⟨t, e⟩ => by subst e; rfl
  have hp : ∀ v ∈ its, IsPT s.heap v (k (backV v)).1 (k (backV v)).2 ∧ kty (k (backV v)).1 = T := fun v hv => by
    obtain ⟨t, rfl⟩ := e2 v hv
    have hm' : V.ref t ∈ xs := by rw [e1]; exact List.mem_map.mpr ⟨_, hv, rfl⟩
    obtain ⟨t', e, ht⟩ := at_ _ _ (hm _ hm')
    cases e
    exact ⟨ht, (hR _ _ (hm _ hm')).2⟩
  refine SrtO.sorted_ord (swoKI fun u => k (backV u)) hl.isList (by rw [← rv.length]; exact hz) (fun h2 h₁ a ha kk => ?_) fun out h1 h2 => ?_
  · refine sortableTI (s := { s with heap := h₁ }) (by omega) hT (fun v hm => ⟨(hp v hm).1.keeps fun b o e _ => (kk b o e).2, (hp v hm).2⟩) fun o e => ?_
    have e' : some o = some (seqObj "list" its.toArray 0) := e.symm.trans ha
    cases e'
    intro c
    exact absurd (Value.type.inj c) (by decide)
  · have h3 : ∀ u ∈ out, ∃ a, u = Value.ref a := fun u hu => e2 u (h2.perm.mem_iff.mp hu)
    obtain ⟨n, hn⟩ := sortedAll_at s.heap its out.toArray
    have hb : SrtO.Stb (fun x y => ltKI (k x) (k y)) (out.map backV) xs := by
      rw [e1]
      exact SrtO.Stb.map (swoKI k) backV h2
    have hb2 : SrtO.Stb ltKI ((out.map backV).map k) ps := by
      rw [← em]
      exact SrtO.Stb.map (swoKI fun p => p) k hb
    refine ⟨.ref (s.heap.objs.size + 1), upd H (s.heap.objs.size + 1) (.lst (out.map backV)), I.laid (t' := s.toks) (fun b o e => sortedAll_old e) (Nat.le_succ _) ⟨?_, out, n, vals_back h3, hn⟩, rfl, q _ _ _ (paired_map fun x hx' => hm x (hb.perm.mem_iff.mp hx')) (SrtO.srtd_map (SrtO.srtd_map h1)) hb2 (I.hok.fresh (Nat.le_succ _))⟩
    rw [hb.len]
    exact hz
end NF

set_option Elab.async false
set_option linter.all false
set_option maxRecDepth 100000
/-! Nf37: values that are ints or texts (Key); sorted lists of pairs of a value and an int. -/
namespace NF
open PySem PySem.Spec PyProof.Rows L2
open Data (toD)
/-! ### sorting, purely -/
section
variable {α : Type} (lt : α → α → Bool)
def ins (x : α) : List α → List α
  | [] => [x]
  | y :: l => if lt y x then y :: ins x l else x :: y :: l
def srt : List α → List α
  | [] => []
  | x :: xs => ins lt x (srt xs)
variable {lt}
theorem ins_perm (x : α) : ∀ l : List α, (ins lt x l).Perm (x :: l)
  | [] => List.Perm.refl _
  | y :: l => by
    unfold ins
    split
    · exact ((ins_perm x l).cons y).trans (List.Perm.swap x y l)
    · exact List.Perm.refl _
theorem ins_mem {x z : α} {l : List α} : z ∈ ins lt x l ↔ z = x ∨ z ∈ l := by rw [(ins_perm x l).mem_iff, List.mem_cons]
theorem ins_srtd (O : SrtO.Swo lt) (x : α) : ∀ {l : List α}, SrtO.Srtd lt l → SrtO.Srtd lt (ins lt x l)
  | [], _ => List.pairwise_singleton _ _
  | y :: l, h => by
    have h' := List.pairwise_cons.mp h
    unfold ins
    by_cases q : lt y x = true
    · rw [if_pos q]
      refine List.pairwise_cons.mpr ⟨fun z hz => ?_, ins_srtd O x h'.2⟩
      rcases ins_mem.mp hz with e | e
      · rw [e]; exact O.asym y x q
      · exact h'.1 z e
    · rw [if_neg q]
      have q' : lt y x = false := by simpa using q
      refine List.pairwise_cons.mpr ⟨fun z hz => ?_, h⟩
      rcases List.mem_cons.mp hz with e | e
      · rw [e]; exact q'
      · exact O.tr x y z q' (h'.1 z e)
theorem ins_cls (O : SrtO.Swo lt) (x v : α) : ∀ l : List α, (ins lt x l).filter (SrtO.eqv lt v) = (x :: l).filter (SrtO.eqv lt v)
  | [] => rfl
  | y :: l => by
    unfold ins
    by_cases q : lt y x = true
    · rw [if_pos q]
      have ih := ins_cls O x v l
      by_cases hy : SrtO.eqv lt v y = true
      · have hx : ¬ SrtO.eqv lt v x = true := fun hx => by
          have a := SrtO.eqv_iff.mp hy
          have b := SrtO.eqv_iff.mp hx
          -- y < x, but v is level with both
          have := O.tr x v y b.1 a.2
          rw [q] at this
          cases this
        rw [List.filter_cons_of_pos hy, ih, List.filter_cons_of_neg hx, List.filter_cons_of_neg hx, List.filter_cons_of_pos hy]
      · rw [List.filter_cons_of_neg hy, ih]
        by_cases hx : SrtO.eqv lt v x = true
        · rw [List.filter_cons_of_pos hx, List.filter_cons_of_pos hx, List.filter_cons_of_neg hy]
        · rw [List.filter_cons_of_neg hx, List.filter_cons_of_neg hx, List.filter_cons_of_neg hy]
    · rw [if_neg q]
theorem srt_srtd (O : SrtO.Swo lt) : ∀ xs : List α, SrtO.Srtd lt (srt lt xs)
  | [] => List.Pairwise.nil
  | x :: xs => ins_srtd O x (srt_srtd O xs)
theorem srt_stb (O : SrtO.Swo lt) : ∀ xs : List α, SrtO.Stb lt (srt lt xs) xs
  | [] => SrtO.Stb.refl _
  | x :: xs => by
    have ih := srt_stb O xs
    refine ⟨(ins_perm x _).trans (ih.perm.cons x), fun v => ?_⟩
    show (ins lt x (srt lt xs)).filter _ = _
    rw [ins_cls O x v]
    by_cases h : SrtO.eqv lt v x = true
    · rw [List.filter_cons_of_pos h, List.filter_cons_of_pos h, ih.cls v]
    · rw [List.filter_cons_of_neg h, List.filter_cons_of_neg h, ih.cls v]
theorem stb_symm {l m : List α} (h : SrtO.Stb lt l m) : SrtO.Stb lt m l := ⟨h.perm.symm, fun x => (h.cls x).symm⟩
theorem srt_is (O : SrtO.Swo lt) {l xs : List α} (h1 : SrtO.Srtd lt l) (h2 : SrtO.Stb lt l xs) : l = srt lt xs :=
  SrtO.stb_uniq O h1 (srt_srtd O xs) (h2.trans (stb_symm (srt_stb O xs)))
end
/-! ### values -/
instance : Rep Key := ⟨fun _ _ _ v a => v = kV a, fun _ h => h⟩
instance : Flat Key := ⟨kV, Iff.rfl⟩
instance : KeyR Key := ⟨id, fun h => h, fun h => h⟩
def keyD : Key → PyData
  | .inl i => .int i
  | .inr x => .str x
instance : Data Key := ⟨keyD, fun {K mg H v a} h => by
  subst h
  cases a with
  | inl i => exact .int i
  | inr x => exact .str x⟩
/-- of one kind -/
def homK (ps : List (Key × Int)) : Prop := (∀ p ∈ ps, kty p.1 = "int") ∨ ∀ p ∈ ps, kty p.1 = "str"
instance (ps : List (Key × Int)) : Decidable (homK ps) := inferInstanceAs (Decidable (_ ∨ _))
section
variable {X : Cx} {F : Fr} {L : List (Option Asr)} {O : List Own} {b1 : Bool} {e : Expr}
/-- sorted(ps), a list of pairs of a value and an int -/
theorem f_sortedKI {m : Res (List (Key × Int))} {es} (h : PE X e (tCB es (tCons (tP b1 F L O m) tNil))) (er : es = rSortedTI X.K) (hK : X.K = F.K := by rfl) : PE X e (tF b1 F L O (m.bind fun ps => need (homK ps) (.ok (srt ltKI ps)))) := nc1f h fun x vx H σ Q g rx q => by
  subst er
  rw [out_need] at q
  obtain ⟨hh, q⟩ := q
  obtain ⟨p, vs, rfl, h2, h3⟩ := rx
  obtain ⟨T, hT, hm⟩ : ∃ T, (T = "int" ∨ T = "str") ∧ ∀ p ∈ x, kty p.1 = T := by
    rcases hh with z | z
    · exact ⟨"int", .inl rfl, z⟩
    · exact ⟨"str", .inr rfl, z⟩
  rw [hK]
  refine ⟨p, vs, x, fun v c => Rep.rep F.K F.mg (rgn b1 F O H) v c ∧ kty c.1 = T, T, rfl, .of (rgn_sub _ _ h2), ?_, fun v c hc => ⟨?_, hc.2⟩, hT, fun ys qs l r1 s1 s2 hl => ?_⟩
  · have aux : ∀ {vs : List V} {x : List (Key × Int)}, Reps F.K F.mg (rgn b1 F O H) vs x → (∀ p ∈ x, kty p.1 = T) → PySem.Paired (fun v c => Rep.rep F.K F.mg (rgn b1 F O H) v c ∧ kty c.1 = T) vs x := by
      intro vs x r
      induction r with
      | nil => exact fun _ => .nil
      | cons r1 _ ih => exact fun hm => .cons ⟨r1, hm _ List.mem_cons_self⟩ (ih fun p hp => hm p (List.mem_cons_of_mem _ hp))
    exact aux h3 hm
  · obtain ⟨t, a, b, e1, e2, e3, e4⟩ := hc.1
    have e3' : a = kV c.1 := e3
    have e4' : b = V.int c.2 := e4
    subst e3' e4'
    exact ⟨t, e1, same_t rgn_sub e2⟩
  · have eq := srt_is (swoKI fun p => p) s1 s2
    subst eq
    exact kf_new g q (L2.Paired.mapP r1 fun _ _ z => z.1) l hl
end
end NF

set_option Elab.async false
set_option linter.all false
set_option maxRecDepth 100000
/-! Nf38: d.setdefault(k, x) of an owned dict; tests that change several owned things. -/
namespace NF
open PySem PySem.Spec PyProof.Rows L2
open Data (toD)
section
variable {X : Cx} {F : Fr} {L : List (Option Asr)} {O : List Own} {κ α : Type} [Rep κ] [KeyR κ] [DecidableEq κ] [Rep α] {p : Addr}
variable {e f : Expr} {b1 : Bool} {p2 apos cpos : Pos} {y : Str}
def setD (d : Dk κ α) (k : κ) (a : α) : Res (α × Dk κ α) := need (d.kvs.length < sizeLine) (match valD d.kvs k with
  | some x => .ok (x, d)
  | none => .ok (a, Dk.mk (putD d.kvs k a)))
/-- d.setdefault(k, x) -/
theorem e_dsetd {d : Dk κ α} {mk : Res κ} {mx : Res α} (j : Nat) (hL : L[j]? = some (rf p)) (hO : ∀ d' : Dk κ α, List.Sublist F.O0 (ow F.K F.mg p d' :: O)) (hi : PE X e (tP b1 F L (ow F.K F.mg p d :: O) mk)) (hx : PE X f (tP true F L (ow F.K F.mg p d :: O) mx))
    (m : M2 X (.Name y p2) "setdefault" apos e f cpos := by exact ⟨rfl, rfl, rfl, rfl⟩)
    (hN : X.N[j]? = some y := by rfl) (hv : Vis X.env.scope y := by first | exact Or.inl rfl | exact Or.inr (Or.inl rfl) | exact Or.inr (Or.inr rfl)) (hd : (y == ("__debug__" : Str)) = false := by decide) (hcd : (y == ("__classdict__" : Str)) = false := by decide) :
    PE X (.Call (.Attribute (.Name y p2) "setdefault" apos) [e, f] [] cpos) (tE true F L p d O (mk.bind fun k => mx.bind fun x => setD d k x)) := pe_imp (pe_dsetd (pe_var hN hv hd hcd) hi hx m) fun σ H Q ⟨g, q⟩ => by
  rw [out_bind] at q
  obtain ⟨w, h4, h5⟩ := g.slot hL
  obtain ⟨o0, h60, ws0, h70, h80⟩ := g.go.objs _ List.mem_cons_self
  subst h70
  refine ⟨w, h4, p, h5, .inl ⟨ws0, .inl h60⟩, g, q.mono (fun k qk v1 H1 g1 s1 r1 => ?_) fun H' ⟨a, _⟩ => a.go.sub (hO d)⟩
  rw [out_bind] at qk
  refine ⟨g1, qk.mono (fun x qx v2 H2 g2 s2 r2 => ?_) fun H' ⟨a, _⟩ => a.go.sub (hO d)⟩
  unfold setD at qx
  rw [out_need] at qx
  obtain ⟨hl, qx⟩ := qx
  obtain ⟨o, h6, ws, h7, h8⟩ := g2.go.objs _ List.mem_cons_self
  subst h7
  have e2 := KeyR.rep r1
  have hl' : ws.length = d.kvs.length := (PySem.Paired.length h8).symm
  have hg := ents_get h8 k
  have kb : KeepBut p H H2 := .of (s1.trans s2)
  refine ⟨ws, KeyR.key k, h6, e2, by rw [hl']; exact hl, fun v hv => ?_, fun hn => ?_⟩
  · cases q : valD d.kvs k with
    | none => rw [hg.2 q] at hv; cases hv
    | some a =>
      rw [q] at qx
      obtain ⟨w', hw, rw'⟩ := hg.1 a q
      rw [hw] at hv
      cases hv
      exact qx _ H2 g2 kb rw'
  · cases q : valD d.kvs k with
    | some a =>
      obtain ⟨w', hw, _⟩ := hg.1 a q
      rw [hw] at hn; cases hn
    | none =>
      rw [q] at qx
      have gn := g_updO (xs' := (Dk.mk (putD d.kvs k x) : Dk κ α)) g2 ⟨_, rfl, ents_put h8 r2⟩
      have kb2 : KeepBut p H2 (upd H2 p (.dK (putK ws (KeyR.key k) v2))) := fun a o h ha => by rw [upd_ne ha]; exact h
      exact qx _ _ gn (kb.trans kb2) (Rep.mono (kb_rg kb2) r2)
end
/-! ### tests over a state of owned things -/
section
variable {X : Cx} {F : Fr} {L : List (Option Asr)} {S : Type} {Os : S → List Own} {s : S}
def tSB (F : Fr) (L : List (Option Asr)) (Os : S → List Own) (s : S) (m : Res (Bool × S)) : TT := fun σ H Q =>
  G F L (Os s) σ H ∧ Out F m (fun r => ∀ H', G F L (Os r.2) σ H' → Q r.1 H') (XPS F)
theorem sb_E {ι : Type} [OwR ι] {p : Addr} {xs : ι} {O : List Own} {c : Expr} {m : Res (Bool × ι)} (f : ι → S) (h0 : (Os s).Perm (ow F.K F.mg p xs :: O)) (hf : ∀ x, (ow F.K F.mg p x :: O).Perm (Os (f x))) (h : PT X c (tEB F L p xs O m)) : PT X c (tSB F L Os s (m.bind fun u => .ok (u.1, f u.2))) := pt_imp h fun σ H Q ⟨g, q⟩ => by
  rw [out_bind] at q
  exact ⟨g.perm h0, q.mono (fun u k H' g' _ => k H' (g'.perm (hf _))) fun _ z => z⟩
theorem sw_or {x y : Expr} {rest : List Expr} {pos : Pos} {ma : Res (Bool × S)} {mb : S → Res (Bool × S)} (hx : PT X x (tSB F L Os s ma)) (hy : ∀ s', PW X (.BoolOp .Or (y :: rest) pos) (tSB F L Os s' (mb s'))) :
    PW X (.BoolOp .Or (x :: y :: rest) pos) (tSB F L Os s (ma.bind fun u => if u.1 then .ok (true, u.2) else mb u.2)) := pw_imp (pw_or hx (pw_ex hy)) fun σ H Q ⟨g, q⟩ => by
  rw [out_bind] at q
  refine ⟨g, q.mono (fun u qc H1 g1 => ?_) fun _ z => z⟩
  cases hu : u.1 with
  | true =>
    rw [hu] at qc
    exact qc H1 g1
  | false =>
    rw [hu] at qc
    exact ⟨u.2, g1, qc⟩
theorem sw_or1 {x : Expr} {pos : Pos} {ma : Res (Bool × S)} (hx : PT X x (tSB F L Os s ma)) : PW X (.BoolOp .Or [x] pos) (tSB F L Os s ma) := pw_or1 hx
theorem ms_if {D' B : Type} {Ret : D' → V → Hp → Prop} {c : Expr} {mc : Res (Bool × S)} {body rest : List Stmt} {pos : Pos} {L' : B → List (Option Asr)} {O' : B → List Own} {m1 : S → Res D'} {m2 : S → Res (Sum B D')} (hc : PT X c (tSB F L Os s mc)) (hb : ∀ s', PSs X body (tT F L (Os s') (m1 s') Ret)) (hr : ∀ s', PSs X rest (tM F L (Os s') (m2 s') L' O' Ret)) :
    PSs X (.If c body [] pos :: rest) (tM F L (Os s) (mc.bind fun u => if u.1 then ((m1 u.2).bind fun d => .ok (.inr d)) else m2 u.2) L' O' Ret) := pss_imp (pss_cons (ps_if hc (pss_ex hb) pss_nil) (pss_ex hr)) fun D σ H ⟨g, q⟩ => by
  rw [out_bind] at q
  refine ⟨g, q.mono (fun u k H1 g1 => ?_) fun _ z => z⟩
  cases hu : u.1 with
  | true =>
    rw [hu] at k
    simp only [if_true] at k
    rw [out_bind] at k
    exact ⟨u.2, g1, k⟩
  | false => rw [hu] at k; exact ⟨u.2, g1, k⟩
end
end NF

set_option Elab.async false
set_option linter.all false
set_option maxRecDepth 100000
/-! Nf39: values that are ints or texts: casts, their types; len of a dict. -/
namespace NF
open PySem PySem.Spec PyProof.Rows L2
open Data (toD)
def keyI : Key → Res Int
  | .inl i => .ok i
  | .inr _ => .bad
def keyS : Key → Res Str
  | .inl _ => .bad
  | .inr x => .ok x
section
variable {X : Cx} {F : Fr} {L : List (Option Asr)} {O : List Own} {b1 b3 : Bool} {e : Expr}
theorem n_keyI {m : Res Key} (h : PE X e (tP b1 F L O m)) : PE X e (tP b3 F L O (m.bind keyI)) := pe_imp h fun σ H Q ⟨g, q⟩ => by
  rw [out_bind] at q
  refine ⟨g, q.mono (fun k qk v H1 g1 s1 r1 => ?_) fun _ z => z⟩
  have r1' : v = kV k := r1
  subst r1'
  cases k with
  | inl i => exact qk _ H1 g1 s1 rfl
  | inr x => exact qk.elim
theorem n_keyS {m : Res Key} (h : PE X e (tP b1 F L O m)) : PE X e (tP b3 F L O (m.bind keyS)) := pe_imp h fun σ H Q ⟨g, q⟩ => by
  rw [out_bind] at q
  refine ⟨g, q.mono (fun k qk v H1 g1 s1 r1 => ?_) fun _ z => z⟩
  have r1' : v = kV k := r1
  subst r1'
  cases k with
  | inl i => exact qk.elim
  | inr x => exact qk _ H1 g1 s1 rfl
theorem n_ofInt {m : Res Int} (h : PE X e (tP b1 F L O m)) : PE X e (tP b3 F L O (m.bind fun i => .ok (.inl i : Key))) := pe_imp h fun σ H Q ⟨g, q⟩ => by
  rw [out_bind] at q
  exact ⟨g, q.mono (fun k qk v H1 g1 s1 r1 => qk _ H1 g1 s1 r1) fun _ z => z⟩
theorem n_ofStr {m : Res Str} (h : PE X e (tP b1 F L O m)) : PE X e (tP b3 F L O (m.bind fun x => .ok (.inr x : Key))) := pe_imp h fun σ H Q ⟨g, q⟩ => by
  rw [out_bind] at q
  exact ⟨g, q.mono (fun k qk v H1 g1 s1 r1 => qk _ H1 g1 s1 r1) fun _ z => z⟩
/-- len(d) -/
theorem n_dlen {κ α : Type} [Rep κ] [KeyR κ] [DecidableEq κ] [Rep α] {m : Res (Dk κ α)} {r} (h : PE X e (tCB r (tCons (tP b1 F L O m) tNil))) (er : r = fun xs H Q => ∃ a kvs, xs = [V.ref a] ∧ H a = some (.dK kvs) ∧ Q (.int kvs.length) H) : PE X e (tP b3 F L O (m.bind fun d => .ok (d.kvs.length : Int))) := nc1 h fun x vx H σ Q g rx q => by
  subst er
  obtain ⟨p, ws, rfl, h2, h3⟩ := rx
  refine ⟨p, ws, rfl, rgn_sub _ _ h2, ?_⟩
  rw [← PySem.Paired.length h3]
  exact kp_flat (α := Int) g q
end
instance : Ty Key := ⟨fun | .inl _ => "int" | .inr _ => "str", fun {K mg H v a} h => by
  subst h
  cases a with
  | inl i => exact .base (.int i)
  | inr x => exact .base (.str x)⟩
end NF

set_option Elab.async false
set_option linter.all false
set_option maxRecDepth 100000
set_option maxHeartbeats 4000000
/-! Nf40: sets of ints made of a list; sorted of what can be collected. -/
namespace NF
open PySem PySem.Spec PyProof.Rows L2
open Data (toD)
/-! ### set(l), l a list of ints -/
abbrev eSet (w : World) : PySem.Obj := { cls := .type "set", dict := none, data := .set #[] 0 (.fresh 0 0 (!w.params.followText "set-order")) }
section
variable {P : Program} {w : World} {A : Around} {E : Value → Shared → Prop} {s : Shared}
/-- what an empty set becomes -/
def SetEnd (w : World) (s : Shared) (ns : List Int) (s2 : Shared) : Prop := ∃ h' tk c, s2 = { s with heap := h', toks := tk } ∧ SetR w h' s.heap.objs.size (fun j => decide (j ∈ ns)) c ∧ c ≤ ns.length ∧ ∀ b o, s.heap.get? b = some o → h'.get? b = some o
theorem fill_ints {l : Addr} {items : Array Value} {ns : List Int} {R : Result → Shared → Prop} (hh : A.handled = none) (hl : s.heap.IsList l items) (hi : IntsAre items.toList ns) (hb : ns.length + 1 < scanBound)
    (hR : ∀ s2, SetEnd w s ns s2 → R (.ok (.ret .none)) s2) :
    let h1 := s.heap.push (eSet w)
    let h2 := h1.push { cls := .type "list_iterator", data := .fields #[.ref l, .int 0 0] }
    codeAny (model P w) A (.builtin "set.update.loop" ⟨[.ref s.heap.objs.size, .ref h1.objs.size], []⟩) R { s with heap := h2 } := by
  intro h1 h2
  have hz : items.size = ns.length := by
    rw [← Array.length_toList]
    exact IntsAre.length hi
  obtain ⟨ol, hol, _⟩ := id hl
  have hlS : l < s.heap.objs.size := Heap.lt_size hol
  have z1 : h1.objs.size = s.heap.objs.size + 1 := Heap.size_push ..
  have ne1 : l ≠ h1.objs.size := z1 ▸ Nat.ne_of_lt (Nat.lt_succ_of_lt hlS)
  have ne2 : s.heap.objs.size ≠ h1.objs.size := z1 ▸ Nat.ne_of_lt (Nat.lt_succ_self _)
  have hS : h1.get? s.heap.objs.size = some (eSet w) := Heap.get?_push_size _ rfl
  have hS2 : h2.get? s.heap.objs.size = some (eSet w) := Heap.get?_push_of_some _ hS
  have hval : ∀ (i : Nat) (v : Value), items[i]? = some v → ∃ k t, ns[i]? = some k ∧ v = .int k t := fun i v hv => by
    obtain ⟨hlt, _⟩ := Array.getElem?_eq_some_iff.mp hv
    obtain ⟨t, e⟩ := IntsAre.int_at hi i v (by rw [Array.getElem?_toList]; exact hv)
    have hlt' : i < ns.length := by omega
    refine ⟨ns[i], t, List.getElem?_eq_getElem hlt', ?_⟩
    rw [e, List.getD_eq_getElem?_getD, List.getElem?_eq_getElem hlt'] <;> rfl
  refine set_update_ints (Walks.list (by exact hh) h1.objs.size l ne1 items).toS s.heap.objs.size (by simp only [List.mem_cons, List.not_mem_nil, or_false, not_or]; exact ⟨ne2, Nat.ne_of_gt hlS⟩) ns hz hb hval items.size 0 _ (by omega) (Nat.zero_le _)
    ⟨⟨_, Heap.get?_push_size _ rfl, rfl, rfl⟩, (hl.push _).push _⟩ ⟨0, Nat.le_refl 0, setR_new_at hS2⟩ fun s' c' hm hc hS' => ?_
  refine hR s' ⟨s'.heap, s'.toks, c', ?_, hS', by omega, fun b o e => ?_⟩
  · have e1 := hm.gens
    have e2 := hm.drawn
    have e3 := hm.os
    obtain ⟨_, _, _, _, _⟩ := s'
    cases e1; cases e2; cases e3
    rfl
  · have lt := Heap.lt_size e
    refine hm.heap b o ?_ (Heap.get?_push_of_some _ (Heap.get?_push_of_some _ e))
    simp only [List.mem_cons, List.not_mem_nil, or_false, not_or]
    exact ⟨Nat.ne_of_lt lt, z1 ▸ Nat.ne_of_lt (Nat.lt_succ_of_lt lt)⟩
theorem set_of_list {l : Addr} {items : Array Value} {ns : List Int} {Q : Value → Shared → Prop} (hh : A.handled = none) (hl : s.heap.IsList l items) (hi : IntsAre items.toList ns) (hb : ns.length + 1 < scanBound) (h : ∀ s2, SetEnd w s ns s2 → Q (.ref s.heap.objs.size) s2) : wpAny (model P w) A (call (.type "set") [.ref l]) Q E s := by
  obtain ⟨c, tl, hmro⟩ := F.called_set.mro; have hmade := F.called_set.made
  have hsub := F.called_set.sub; have h1 := F.called_set.notType
  have h2 := F.called_set.canCreate; have hct := F.typeCall_set_1 (.ref l)
  refine wpAny_call (codeAny_of_tree (?_ : wpAny _ _ (callAny (.type "set") _) _ _ _))
  refine wpAny_pure ⟨Code.quiet_builtin _ (by decide +kernel), codeAny_builtin F.entry_type_call ?_⟩; rw [Around.under_plain (weight_type_call_type "set" [.ref l] []) rfl]
  repeat (any_goals (first | assumption | wp_step))
  have new := code_set_led1 (P := P) (w := w) (A := A.in1) (s := s) (.ref l) (E := E) (Q₁ := fun obj s₁ => obj = .ref s.heap.objs.size ∧ s₁ = { s with heap := s.heap.push (eSet w) }) ⟨rfl, rfl⟩
  refine codeAny_mono new fun r s₁ hr => ?_
  clear new
  match r, hr with
  | .error e, hr => exact hr
  | .ok .next, hr => exact hr.elim
  | .ok .brk, hr => exact hr.elim
  | .ok .cont, hr => exact hr.elim
  | .ok (.ret obj), hr =>
    obtain ⟨rfl, rfl⟩ := hr
    have hS : (s.heap.push (eSet w)).get? s.heap.objs.size = some (eSet w) := Heap.get?_push_size _ rfl
    have hT : Shared.TypeIs { s with heap := s.heap.push (eSet w) } (.ref s.heap.objs.size) "set" := ⟨_, hS, rfl⟩
    have hli := F.called_set.init.lookup; have hbi := F.called_set.init.bind (.ref s.heap.objs.size)
    repeat (any_goals (first | assumption | wp_step))
    refine codeAny_mono (codeAny_call_builtin (R := wants (fun r s₂ => r = .none ∧ SetEnd w s ns s₂) E) F.called_set.init.plain F.entry_set_init (check_set_init_1 hT ?_)) fun r₂ s₂ hr₂ => ?_
    · obtain ⟨ol, hol, hcl, nl, hdl⟩ := id hl
      obtain ⟨ocls, odict, odata, oslots⟩ := ol
      simp only at hcl hdl
      subst hcl; subst hdl
      have hol' : (s.heap.push (eSet w)).get? l = some { cls := .type "list", dict := odict, data := .seq items nl, slots := oslots } := Heap.get?_push_of_some _ hol
      have hsls := F.sub_list_set; have hslf := F.sub_list_frozenset; have hne : (Value.type "list" == Value.type "dict") = false := by decide
      have hl1 : (s.heap.push (eSet w)).IsList l items := ⟨_, hol', rfl, nl, rfl⟩
      unfold Builtin.«set.__init__» noKeywords Builtin.Frozenset.updateFrom
      generalize hPI : pyIter = PI; wp_walk; subst hPI
      refine wpAny_pyIter_list hl1 (wpAny_bind (wpAny_runValue ?_))
      refine fill_ints (by exact hh) hl hi hb fun s2 h2 => ?_
      show wpAny _ _ _ _ _ _
      refine wpAny_pure (?_ : wpAny _ _ (ret Value.none) _ _ _)
      exact wpAny_pure ⟨rfl, h2⟩
    · match r₂, hr₂ with
      | .error e, hr₂ => exact hr₂
      | .ok .next, hr₂ => exact hr₂.elim
      | .ok .brk, hr₂ => exact hr₂.elim
      | .ok .cont, hr₂ => exact hr₂.elim
      | .ok (.ret r), hr₂ =>
        obtain ⟨rfl, h3⟩ := hr₂
        repeat (any_goals (first | assumption | wp_step))
        exact h _ h3
/-! ### sorted(x), x what can be collected -/
theorem sorted_after {x : Value} {Q : Value → Shared → Prop} (hc : wpAny (model P w) A.in1 (collect x) (fun vs s1 => vs.length ≤ sizeLine ∧ ∃ ltv : Value → Value → Bool, SrtO.Swo ltv ∧
      (∀ (h₁ : Heap) (a : Addr), 2 ≤ vs.length → h₁.get? a = some (seqObj "list" vs.toArray 0) → (∀ b o, s1.heap.get? b = some o → h₁.get? b = some o) → SrtO.SortableO P w A.in1.in1 { s1 with heap := h₁ } a vs ltv) ∧
      ∀ (out : List Value) (p : Addr) (h' : Heap) (n : Nat), SrtO.Srtd ltv out → SrtO.Stb ltv out vs → s1.heap.objs.size ≤ p → (∀ b o, s1.heap.get? b = some o → h'.get? b = some o) → h'.get? p = some (seqObj "list" out.toArray n) → Q (.ref p) { s1 with heap := h' }) E s) :
    wpAny (model P w) A (call (.builtin "sorted") [x]) Q E s := by
  refine Calls.call_function_entry kind_sorted plain_sorted entry_sorted (args_sorted1 _) ?_; unfold Builtin.«sorted»
  refine wpAny_bind (m := checkCount "sorted" 1 1 _) (wpAny_pure (wpAny_bind (wpAny_mono hc (fun vs s1 ⟨hz, ltv, O, hS, k⟩ => ?_) fun _ _ z => z)))
  refine wpAny_bind (wpAny_newList ?_ hz)
  have ho : (s1.heap.push (seqObj "list" vs.toArray 0)).get? s1.heap.objs.size = some (seqObj "list" vs.toArray 0) := Heap.get?_push_size _ rfl
  have kp : ∀ b o, s1.heap.get? b = some o → (s1.heap.push (seqObj "list" vs.toArray 0)).get? b = some o := fun b o e => Heap.get?_push_of_some _ e
  refine wpAny_bind (wpAny_holding (wpAny_call_entry slot_list_sort ⟨_, ho, rfl⟩ entry_list_sort
    (SrtO.list_sort_ord O ho hz (fun h2 => hS _ _ h2 ho kp) fun out h1 h2 => ⟨_, rfl, ?_⟩) (args_list_sort _)))
  obtain ⟨n, hn⟩ := sortedHeap_at (vs := vs) (out := out.toArray) ho
  refine wpAny_pure ⟨_, rfl, k out _ _ n h1 h2 (Nat.le_refl _) (fun b o e => ?_) hn⟩
  have lt := Heap.lt_size e
  show (sortedHeap _ _ vs out.toArray).get? b = some o
  rw [sortedHeap_old (Nat.ne_of_lt lt) (by rw [size_push']; exact Nat.lt_succ_of_lt lt)]
  exact kp b o e
end
end NF

set_option Elab.async false
set_option linter.all false
set_option maxRecDepth 100000
set_option maxHeartbeats 2000000
/-! Nf41: sorted lists of ints, of pairs (out of lists and tuples), of sets; `in` for flat items. -/
namespace NF
open PySem PySem.Spec PyProof.Rows L2
open Data (toD)
section
variable {P : Program} {w : World} {A : Around} {E : Value → Shared → Prop} {s : Shared}
/-- a list's or a tuple's items, the heap grown -/
theorem collect_grow {l : Addr} {T : String} {o : PySem.Obj} {items : Array Value} {n : Nat} {Q : List Value → Shared → Prop} (hT : T = "list" ∨ T = "tuple") (ho : s.heap.get? l = some o) (hc : o.cls = .type T) (hd : o.data = .seq items n) (hz : items.size ≤ sizeLine)
    (hQ : ∀ h', (∀ b o', s.heap.get? b = some o' → h'.get? b = some o') → s.heap.objs.size ≤ h'.objs.size → Q items.toList { s with heap := h' }) : wpAny (model P w) A (collect (.ref l)) Q E s := by
  generalize hh1 : s.heap.push (seqObj "list" #[] 0) = h1
  have z1 : h1.objs.size = s.heap.objs.size + 1 := by rw [← hh1]; exact Heap.size_push ..
  have hS : h1.get? s.heap.objs.size = some (seqObj "list" #[] 0) := by rw [← hh1]; exact Heap.get?_push_size _ rfl
  have ho1 : h1.get? l = some o := by rw [← hh1]; exact Heap.get?_push_of_some _ ho
  have hS2 := Heap.get?_update_self (Obj.mapSeq (· ++ items)) hS rfl
  have fin : wpAny (model P w) A (match Value.ref s.heap.objs.size with
      | Value.ref a => do
        match (← load a).data with
          | Data.seq xs _ => pure xs.toList
          | _ => unsupported "internal:collect"
      | _ => unsupported "internal:collect") Q E { s with heap := h1.update s.heap.objs.size (Obj.mapSeq (· ++ items)) } := by
    refine (?_ : wpAny (model P w) A (load s.heap.objs.size >>= _) _ _ _)
    refine wpAny_bind (wpAny_load hS2 (wpAny_pure ?_))
    have e : ((#[] : Array Value) ++ items).toList = items.toList := by simp
    refine (?_ : Q ((#[] : Array Value) ++ items).toList _)
    rw [e]
    refine hQ _ (fun b o' hb => ?_) (by rw [Heap.size_update, z1]; exact Nat.le_succ _)
    rw [Heap.get?_update_ne _ _ _ _ (Nat.ne_of_lt (Heap.lt_size hb)), ← hh1]
    exact Heap.get?_push_of_some _ hb
  unfold collect; refine wpAny_bind (wpAny_runValue (codeAny_builtin F.entry_proto_collect ?_)); rw [Around.under_plainId F.plain_proto_collect _]
  refine (?_ : wpAny _ A.in1 (newList [] >>= fun l' => again (.builtin "list.__iadd__" ⟨[l', .ref l], []⟩)) _ _ s)
  refine wpAny_bind (wpAny_newObj_type (wpAny_pure ⟨plainId_quiet F.plain_list_iadd _, codeAny_builtin F.entry_list_iadd ?_⟩)); rw [Around.under_plainId F.plain_list_iadd _]
  have hh1' : s.heap.push { cls := .type "list", data := .seq ([] : List Value).toArray } = h1 := hh1
  rw [hh1']
  refine (?_ : wpAny _ A.in1 (Builtin.List.listExtendWith (.ref s.heap.objs.size) (.ref l) (.ref s.heap.objs.size)) _ _ _)
  refine wpAny_mono (wpAny_extend_seq (hsz := hz) (A := A) (R := fun r s' => r = .ok (.ret (.ref s.heap.objs.size)) ∧ s' = { s with heap := h1.update s.heap.objs.size (Obj.mapSeq (· ++ items)) })
    (s := { s with heap := h1 }) s.heap.objs.size l (.ref s.heap.objs.size) 0 hT hS ho1 hc hd ⟨rfl, rfl⟩) (fun x s' h => ?_) fun e s' h => ?_
  · match x, h with
    | .done f, ⟨e, e'⟩ =>
      cases e
      subst e'
      exact fin
    | .again c', h =>
      refine ⟨h.1, codeAny_mono h.2 fun r s'' hr => ?_⟩
      obtain ⟨rfl, rfl⟩ := hr
      exact fin
  · exact absurd h.1 (by simp)
end

/-! ### over the layer -/
/-- sorted(xs): a list or a tuple of pairs of a value and an int -/
def rSortedTQ (K : PySem.W.Frag) : List V → Hp → VK → Prop := fun vs H Q => ∃ (a : Addr) (xs : List V) (ps : List (Key × Int)) (R : V → Key × Int → Prop) (T : String), vs = [V.ref a] ∧ (SqL K H a xs ∨ SqT K H a xs) ∧ PySem.Paired R xs ps ∧ (∀ x p, R x p → PTI K H x p ∧ kty p.1 = T) ∧ (T = "int" ∨ T = "str") ∧
  ∀ ys qs p, PySem.Paired R ys qs → SrtO.Srtd ltKI qs → SrtO.Stb ltKI qs ps → H p = none → Q (.ref p) (upd H p (.lst ys))
theorem seq_at {X : Cx} {pins : List (Addr × PySem.Obj)} {σ : L2.St} {H : Hp} {s : Shared} {a : Addr} {xs : List V} (I : Inv X pins σ H s) (h : SqL X.K H a xs ∨ SqT X.K H a xs) :
    ∃ (its : List Value) (T : String) (o : PySem.Obj) (n : Nat), Vals xs its ∧ (T = "list" ∨ T = "tuple") ∧ s.heap.get? a = some o ∧ o.cls = .type T ∧ o.data = .seq its.toArray n ∧ xs.length ≤ sizeLine := by
  rcases h with h | h
  · obtain ⟨its, rv, hl, hz⟩ := I.list h
    obtain ⟨o, ho, hc, n, hd⟩ := hl.isList
    exact ⟨its, "list", o, n, rv, .inl rfl, ho, hc, hd, hz⟩
  · obtain ⟨its, rv, hl, hz⟩ := I.tuple h
    obtain ⟨o, ho, hc, n, hd⟩ := hl
    exact ⟨its, "tuple", o, n, rv, .inr rfl, ho, hc, hd, hz⟩
theorem cr_sortedTQ {X : Cx} : CallR X (.builtin "sorted") (rSortedTQ X.K) := by
  intro pins s σ H vs us Q I r h
  obtain ⟨a, xs, ps, R, T, rfl, hs, hx, hR, hT, q⟩ := h
  obtain ⟨its, TT, o0, n0, rv, hTT, ho0, hc0, hd0, hz⟩ := seq_at I hs
  rw [Vals.ref1 r]
  have at_ : ∀ x p, R x p → ∃ t, x = V.ref t ∧ IsPT s.heap (.ref t) p.1 p.2 := fun x p m => by
    obtain ⟨t, e, ht⟩ := (hR x p m).1
    obtain ⟨its2, r2, hd, _⟩ := I.tuple ht
    obtain ⟨u1, u2, rfl, ri, rj⟩ := vals2 r2
    obtain ⟨t1, rfl⟩ : ∃ t1, u1 = kvl p.1 t1 := by
      cases q : p.1 with
      | inl i => rw [q] at ri; exact ri
      | inr y => rw [q] at ri; exact ri
    obtain ⟨t2, rfl⟩ := rj
    obtain ⟨o, ho, hc, n, hd⟩ := hd
    exact ⟨t, e, t, o, t1, t2, n, rfl, ho, hc, hd⟩
  let k : V → Key × Int := fun x => kTI s.heap (frV x)
  have hk : ∀ x p, R x p → k x = p := fun x p m => by
    obtain ⟨t, e, ht⟩ := at_ x p m
    subst e
    exact kTI_of ht
  obtain ⟨em, hm⟩ := paired_is (k := k) hx fun x _ p => hk x p
  obtain ⟨e1, e2⟩ := refs_back rv fun x m => (at_ x _ (hm x m)).imp fun t z => z.1
  have hp : ∀ v ∈ its, IsPT s.heap v (k (backV v)).1 (k (backV v)).2 ∧ kty (k (backV v)).1 = T := fun v hv => by
    obtain ⟨t, rfl⟩ := e2 v hv
    have hm' : V.ref t ∈ xs := by rw [e1]; exact List.mem_map.mpr ⟨_, hv, rfl⟩
    obtain ⟨t', e, ht⟩ := at_ _ _ (hm _ hm')
    cases e
    exact ⟨ht, (hR _ _ (hm _ hm')).2⟩
  refine sorted_after (collect_grow hTT ho0 hc0 hd0 (by rw [List.size_toArray, ← rv.length]; exact hz) fun h1 k1 z1 => ?_)
  show its.toArray.toList.length ≤ sizeLine ∧ _
  rw [List.toList_toArray]
  refine ⟨by rw [← rv.length]; exact hz, _, swoKI fun u => k (backV u), fun h2 a' h2l ha kk => ?_, fun out p h' n h1' h2' hle kp hp' => ?_⟩
  · refine sortableTI (s := { s with heap := h2 }) (by omega) hT (fun v hm => ⟨(hp v hm).1.keeps fun b o e _ => kk b o (k1 b o e), (hp v hm).2⟩) fun o e => ?_
    have e' : some o = some (seqObj "list" its.toArray 0) := e.symm.trans ha
    cases e'
    intro c
    exact absurd (Value.type.inj c) (by decide)
  · have h3 : ∀ u ∈ out, ∃ a, u = Value.ref a := fun u hu => e2 u (h2'.perm.mem_iff.mp hu)
    have hb : SrtO.Stb (fun x y => ltKI (k x) (k y)) (out.map backV) xs := by
      rw [e1]
      exact SrtO.Stb.map (swoKI k) backV h2'
    have hb2 : SrtO.Stb ltKI ((out.map backV).map k) ps := by
      rw [← em]
      exact SrtO.Stb.map (swoKI fun p => p) k hb
    have hle' : s.heap.objs.size ≤ p := Nat.le_trans z1 hle
    refine ⟨.ref p, upd H p (.lst (out.map backV)), I.laid (t' := s.toks) (fun b o e => kp b o (k1 b o e)) hle' ⟨?_, out, n, vals_back h3, hp'⟩, rfl, q _ _ _ (paired_map fun x hx' => hm x (hb.perm.mem_iff.mp hx')) (SrtO.srtd_map (SrtO.srtd_map h1')) hb2 (I.hok.fresh hle')⟩
    rw [hb.len]
    exact hz
/-- set(xs), xs a list of ints -/
def rSetL (K : PySem.W.Frag) (w : World) : List V → Hp → VK → Prop := fun vs H Q => ∃ (a : Addr) (ns : List Int), vs = [V.ref a] ∧ SqL K H a (ns.map V.int) ∧ ns.length + 1 < scanBound ∧
  ∀ p c, c ≤ ns.length → H p = none → Q (.ref p) (upd H p (SetO w p (fun j => decide (j ∈ ns)) c))
theorem cr_setL {X : Cx} (hc : X.calm = true) : CallR X (.type "set") (rSetL X.K X.w) := by
  intro pins s σ H vs us Q I r h
  obtain ⟨a, ns, rfl, hs, hb, q⟩ := h
  obtain ⟨its, rv, hl, hz⟩ := I.list hs
  rw [Vals.ref1 r]
  refine set_of_list (I.ok.hd hc) hl.isList (by rw [List.toList_toArray]; exact rv.ints) hb fun s2 ⟨h', tk, c, e, R, hcn, kp⟩ => ?_
  subst e
  exact ⟨.ref _, upd H s.heap.objs.size (SetO X.w s.heap.objs.size (fun j => decide (j ∈ ns)) c), I.laid (t' := tk) kp (Nat.le_refl _) (setO_new R), rfl, q _ _ hcn (I.hok.fresh (Nat.le_refl _))⟩
/-- sorted(s), s a set of ints -/
def rSortedS (w : World) : List V → Hp → VK → Prop := fun vs H Q => ∃ (a : Addr) (S : Int → Bool) (n : Nat), vs = [V.ref a] ∧ H a = some (SetO w a S n) ∧
  ∀ (ns : List Int) (p : Addr), ns.Pairwise (· < ·) → (∀ k : Int, k ∈ ns ↔ S k = true) → H p = none → Q (.ref p) (upd H p (.lst (ns.map V.int)))
theorem cr_sortedS {X : Cx} (hc : X.calm = true) : CallR X (.builtin "sorted") (rSortedS X.w) := by
  intro pins s σ H vs us Q I r h
  obtain ⟨a, S, n, rfl, ha, q⟩ := h
  obtain ⟨o, es, ep, t, ho, hex, hd, gd, nd, hm, hb, hf, hn, hr, hl⟩ := setO_get I ha
  rw [Vals.ref1 r]
  refine sorted_after (collect_set (A := X.A.in1) (I.ok.hd hc) ⟨o, ho, hex.1, hd⟩ hf hb hr hl fun s1 vs k1 z1 g1 o1 pm => ?_)
  have hI : IntsAre vs (vs.map SrtO.iv) := SrtO.ints_iv fun v hv => by
    obtain ⟨e, he, q⟩ := List.mem_map.mp (pm.mem_iff.mp hv)
    obtain ⟨k, tk, h1, _⟩ := gd e he
    exact ⟨k, tk, by rw [← q]; exact h1⟩
  have pk : (vs.map SrtO.iv).Perm (es.toList.map keyOf) := by
    have q := pm.map SrtO.iv
    rw [List.map_map] at q
    refine q.trans (List.Perm.of_eq (List.map_congr_left fun e he => ?_))
    obtain ⟨k, tk, h1, _⟩ := gd e he
    show SrtO.iv e.2 = keyOf e
    unfold keyOf
    rw [h1]
    rfl
  have hvl : vs.length ≤ sizeLine := by
    rw [pm.length_eq, List.length_map, Array.length_toList, sizeLine_eq]
    have : es.size < 4096 := hb
    omega
  refine ⟨hvl, _, SrtO.swo_int, fun h2 a' h2l ha kk => SrtO.ints_sortable hI h2l, fun out p h' n h1' h2' hle kp hp' => ?_⟩
  obtain ⟨i1, i2, i3⟩ := SrtO.ints_out hI h1' h2'
  have pn : (out.map SrtO.iv).Perm (es.toList.map keyOf) := i2.trans pk
  have hle' : s.heap.objs.size ≤ p := Nat.le_trans z1 hle
  have hfr : H p = none := I.hok.fresh hle'
  have hlen : ((out.map SrtO.iv).map V.int).length ≤ sizeLine := by rw [List.length_map, i2.length_eq, List.length_map]; exact hvl
  have kq : ∀ b u, s.heap.get? b = some u → h'.get? b = some u := fun b u e => kp b u (k1 b u e)
  have J : Inv X pins σ (upd H p (.lst ((out.map SrtO.iv).map V.int))) { s with heap := h', gens := s1.gens, drawn := s1.drawn, toks := s1.toks } :=
    I.call (ch := []) (Un.laid kq hle' hfr) (I.hok.laid kq hle' ⟨hlen, out, n, vals_of_ints i1, hp'⟩) (by rw [g1]; exact I.bare) (fun _ z => nomatch z)
  have e : ({ s1 with heap := h' } : Shared) = { s with heap := h', gens := s1.gens, drawn := s1.drawn, toks := s1.toks } := by
    cases s1
    cases o1
    rfl
  rw [e]
  exact ⟨.ref p, _, J, rfl, q _ p (lt_of_le_nodup _ i3 (pn.nodup_iff.mpr nd)) (fun k => by rw [pn.mem_iff, ← hm k]) hfr⟩

/-! ### normal forms -/
def insS (x : Int) : List Int → List Int
  | [] => [x]
  | y :: l => if x < y then x :: y :: l else if x = y then y :: l else y :: insS x l
/-- the items ascending, each once -/
def sset : List Int → List Int
  | [] => []
  | x :: xs => insS x (sset xs)
theorem mem_insS {x z : Int} : ∀ {l : List Int}, z ∈ insS x l ↔ z = x ∨ z ∈ l
  | [] => by simp [insS]
  | y :: l => by
    unfold insS
    split
    · simp
    · split
      · rename_i h; subst h; simp
      · rw [List.mem_cons, mem_insS (l := l), List.mem_cons]
        exact ⟨fun h => h.elim (fun z => .inr (.inl z)) fun z => z.elim .inl fun z => .inr (.inr z), fun h => h.elim (fun z => .inr (.inl z)) fun z => z.elim .inl fun z => .inr (.inr z)⟩
theorem mem_sset {z : Int} : ∀ {l : List Int}, z ∈ sset l ↔ z ∈ l
  | [] => Iff.rfl
  | x :: l => by
    show z ∈ insS x (sset l) ↔ _
    rw [mem_insS, mem_sset, List.mem_cons]
theorem insS_lt (x : Int) : ∀ {l : List Int}, l.Pairwise (· < ·) → (insS x l).Pairwise (· < ·)
  | [], _ => List.pairwise_singleton _ _
  | y :: l, h => by
    obtain ⟨h1, h2⟩ := List.pairwise_cons.mp h
    unfold insS
    split
    · rename_i q
      refine List.pairwise_cons.mpr ⟨fun z hz => ?_, h⟩
      rcases List.mem_cons.mp hz with e | e
      · omega
      · have := h1 z e; omega
    · split
      · exact h
      · refine List.pairwise_cons.mpr ⟨fun z hz => ?_, insS_lt x h2⟩
        rcases mem_insS.mp hz with e | e
        · omega
        · exact h1 z e
theorem sset_lt : ∀ l : List Int, (sset l).Pairwise (· < ·)
  | [] => List.Pairwise.nil
  | x :: l => insS_lt x (sset_lt l)
/-- two strictly ascending lists of the same numbers are one -/
theorem asc_uniq : ∀ {l m : List Int}, l.Pairwise (· < ·) → m.Pairwise (· < ·) → (∀ k, k ∈ l ↔ k ∈ m) → l = m
  | [], [], _, _, _ => rfl
  | [], y :: m, _, _, h => absurd ((h y).mpr List.mem_cons_self) (by simp)
  | x :: l, [], _, _, h => absurd ((h x).mp List.mem_cons_self) (by simp)
  | x :: l, y :: m, h1, h2, h => by
    obtain ⟨a1, a2⟩ := List.pairwise_cons.mp h1
    obtain ⟨b1, b2⟩ := List.pairwise_cons.mp h2
    have e : x = y := by
      rcases List.mem_cons.mp ((h x).mp List.mem_cons_self) with e | e
      · exact e
      · rcases List.mem_cons.mp ((h y).mpr List.mem_cons_self) with e' | e'
        · exact e'.symm
        · have := b1 x e; have := a1 y e'; omega
    subst e
    rw [asc_uniq a2 b2 fun k => ⟨fun hk => ?_, fun hk => ?_⟩]
    · rcases List.mem_cons.mp ((h k).mp (List.mem_cons_of_mem _ hk)) with e | e
      · have := a1 k hk; omega
      · exact e
    · rcases List.mem_cons.mp ((h k).mpr (List.mem_cons_of_mem _ hk)) with e | e
      · have := b1 k hk; omega
      · exact e
theorem sset_is {ns xs : List Int} (h1 : ns.Pairwise (· < ·)) (h2 : ∀ k, k ∈ ns ↔ k ∈ xs) : ns = sset xs := asc_uniq h1 (sset_lt xs) fun k => (h2 k).trans mem_sset.symm
def ltI (a b : Int) : Bool := decide (a < b)
theorem swoI : SrtO.Swo ltI := ⟨fun x y h => decide_eq_false (by have := of_decide_eq_true h; omega), fun x y z h1 h2 => decide_eq_false (by have := of_decide_eq_false h1; have := of_decide_eq_false h2; omega)⟩
abbrev srtI : List Int → List Int := srt ltI
theorem srt_perm {α : Type} {lt : α → α → Bool} : ∀ xs : List α, (srt lt xs).Perm xs
  | [] => .refl _
  | x :: xs => (ins_perm x _).trans ((srt_perm xs).cons x)
theorem srtI_le (xs : List Int) : (srtI xs).Pairwise (· ≤ ·) := (srt_srtd swoI xs).imp fun {a b} h => Int.not_lt.mp (of_decide_eq_false h)
theorem srtI_is {ns xs : List Int} (h1 : ns.Perm xs) (h2 : ns.Pairwise (· ≤ ·)) : ns = srtI xs := List.Perm.eq_of_pairwise (le := (· ≤ ·)) (fun _ _ _ _ h1 h2 => Int.le_antisymm h1 h2) h2 (srtI_le xs) (h1.trans (srt_perm xs).symm)
theorem ins_map {α β : Type} {lt : β → β → Bool} (f : α → β) (x : α) : ∀ l : List α, ins lt (f x) (l.map f) = (ins (fun a b => lt (f a) (f b)) x l).map f
  | [] => rfl
  | y :: l => by
    rw [List.map_cons]
    unfold ins
    split
    · rw [List.map_cons, ins_map f x l]
    · rfl
theorem srt_map {α β : Type} {lt : β → β → Bool} (f : α → β) : ∀ l : List α, srt lt (l.map f) = (srt (fun a b => lt (f a) (f b)) l).map f
  | [] => rfl
  | x :: l => by
    show ins lt (f x) (srt lt (l.map f)) = _
    rw [srt_map f l, ins_map]
    rfl
def emb (p : Int × Int) : Key × Int := (.inl p.1, p.2)
theorem emb_inj {p q : Int × Int} (h : emb p = emb q) : p = q := by
  obtain ⟨a, b⟩ := p
  obtain ⟨c, d⟩ := q
  have h1 : (Sum.inl a : Key) = Sum.inl c := congrArg Prod.fst h
  have h2 : b = d := congrArg (fun x : Key × Int => x.2) h
  cases h1
  cases h2
  rfl
def ltII (p q : Int × Int) : Bool := ltKI (emb p) (emb q)
theorem swoII : SrtO.Swo ltII := swoKI emb
theorem ltII_iff {p q : Int × Int} : ltII p q = true ↔ p.1 < q.1 ∨ (p.1 = q.1 ∧ p.2 < q.2) := by
  unfold ltII
  rw [ltKI_iff]
  constructor
  · rintro (h | ⟨h1, h2⟩)
    · exact .inl (of_decide_eq_true h)
    · exact .inr ⟨Sum.inl.inj h1, h2⟩
  · rintro (h | ⟨h1, h2⟩)
    · exact .inl (decide_eq_true h)
    · exact .inr ⟨by show (Sum.inl p.1 : Key) = Sum.inl q.1; rw [h1], h2⟩
section
variable {X : Cx} {F : Fr} {L : List (Option Asr)} {O : List Own} {b1 b2 b3 b : Bool} {e : Expr}
/-- sorted(xs) of ints -/
theorem f_sortedI {m : Res (List Int)} {es} (h : PE X e (tCB es (tCons (tP b1 F L O m) tNil))) (er : es = rSortedI X.K) (hK : X.K = F.K := by rfl) : PE X e (tF b F L O (m.bind fun xs => .ok (srtI xs))) := nc1f h fun x vx H σ Q g rx q => by
  subst er
  obtain ⟨p, vs, rfl, h2, h3⟩ := rx
  have e := reps_flat.mp h3
  subst e
  refine ⟨p, x, rfl, .of (rgn_sub _ _ h2), fun ns q' h1 h2 hq => ?_⟩
  have e := srtI_is h1 h2
  subst e
  exact kf_new g q (reps_flat.mpr rfl) q' hq
/-- sorted(set(xs)) of ints -/
theorem f_sortedSet {m : Res (List Int)} {es es2} (h : PE X e (tCB es (tCons (tCB es2 (tCons (tP b1 F L O m) tNil)) tNil))) (er : es = rSortedS X.w) (er2 : es2 = rSetL X.K X.w) (hK : X.K = F.K := by rfl) : PE X e (tF b F L O (m.bind fun xs => need (xs.length + 1 < 4096) (.ok (sset xs)))) := pe_imp h fun σ H Q ⟨g, q⟩ => by
  subst er
  subst er2
  rw [out_bind] at q
  refine ⟨g, q.mono (fun xs k v H1 g1 s1 r1 => ?_) fun _ z => z⟩
  rw [out_need] at k
  obtain ⟨p, vs, rfl, h2, h3⟩ := r1
  have e := reps_flat.mp h3
  subst e
  refine ⟨p, xs, rfl, .of (rgn_sub _ _ h2), k.1, fun p' c hc hp' => ?_⟩
  refine ⟨p', _, c, rfl, upd_same, fun ns q' hs hm hq => ?_⟩
  have e := sset_is hs fun j => (hm j).trans decide_eq_true_iff
  subst e
  have kk : KF Int b F L O σ H Q (sset xs) := k.2
  exact kf_new (b := b) (g1.grow (same_upd hp')) (KF.mono (s1.trans (same_upd hp')) kk) (reps_flat.mpr rfl) q' hq
variable {s : Type} [Rep s] [Lk s (Int × Int)]
theorem pair_back {K : Fg} {mg : MG} {H : Hp} : ∀ {vs : List V} {zs : List (Int × Int)}, PySem.Paired (fun v c => ∃ p : Int × Int, c = emb p ∧ Rep.rep K mg H v p) vs (zs.map emb) → Reps K mg H vs zs
  | [], [], _ => .nil
  | v :: vs, z :: zs, .cons h t => by
    obtain ⟨p, h1, h2⟩ := h
    have e := emb_inj h1
    subst e
    exact .cons h2 (pair_back t)
theorem pair_on {K : Fg} {mg : MG} {H : Hp} : ∀ {vs : List V} {zs : List (Int × Int)}, Reps K mg H vs zs → PySem.Paired (fun v c => ∃ p : Int × Int, c = emb p ∧ Rep.rep K mg H v p) vs (zs.map emb)
  | _, _, .nil => .nil
  | _, _, .cons h t => .cons ⟨_, rfl, h⟩ (pair_on t)
/-- sorted(ps), a list or a tuple of pairs of ints -/
theorem f_sortedII {m : Res s} {es} (h : PE X e (tCB es (tCons (tP b1 F L O m) tNil))) (er : es = rSortedTQ X.K) (hK : X.K = F.K := by rfl) : PE X e (tF b1 F L O (m.bind fun ps => .ok (srt ltII (Lk.its ps)))) := nc1f h fun x vx H σ Q g rx q => by
  subst er
  obtain ⟨p, vs, rfl, h2, h3⟩ := Lk.get rx
  rw [hK]
  refine ⟨p, vs, (Lk.its x).map emb, fun v c => ∃ p : Int × Int, c = emb p ∧ Rep.rep F.K F.mg (rgn b1 F O H) v p, "int", rfl, h2.imp (fun z => rgn_sub.seq z) (fun z => same_t rgn_sub z), pair_on h3, fun v c hc => ?_, .inl rfl, fun ys qs l r1 s1 s2 hl => ?_⟩
  · obtain ⟨p, rfl, t, a, b, e1, e2, e3, e4⟩ := hc
    have e3' : a = V.int p.1 := e3
    have e4' : b = V.int p.2 := e4
    subst e3' e4'
    exact ⟨⟨t, e1, same_t rgn_sub e2⟩, rfl⟩
  · have eq := srt_is (swoKI fun p => p) s1 s2
    rw [srt_map] at eq
    subst eq
    exact kf_new g q (pair_back r1) l hl
end
/-! ### in -/
class Scl (α : Type) [Rep α] [Flat α] [DecidableEq α] : Prop where
  flat : ∀ a : α, flatV (Flat.enc a) = true
  eq : ∀ a b : α, eqV (Flat.enc a) (Flat.enc b) = decide (a = b)
theorem inV_scl {α : Type} [Rep α] [Flat α] [DecidableEq α] [Scl α] (x : α) : ∀ ys : List α, inV (Flat.enc x) (ys.map Flat.enc) = decide (x ∈ ys)
  | [] => by simp [inV]
  | y :: ys => by
    have ih := inV_scl x ys
    unfold inV at ih ⊢
    rw [List.map_cons, List.any_cons, ih, Scl.eq]
    by_cases h : x = y
    · subst h; simp
    · have h' : ¬ y = x := fun e => h e.symm
      simp [h, h']
theorem flat_scl {α : Type} [Rep α] [Flat α] [DecidableEq α] [Scl α] : ∀ ys : List α, (ys.map Flat.enc).all flatV = true
  | [] => rfl
  | y :: ys => by rw [List.map_cons, List.all_cons, flat_scl ys, Scl.flat]; rfl
instance : Scl Int := ⟨fun _ => rfl, fun a b => by
  show eqV (V.int a) (V.int b) = _
  by_cases h : a = b
  · subst h; simp [eqV, valV, scal]
  · simp [eqV, valV, scal, h]⟩
instance : Scl Str := ⟨fun _ => rfl, fun a b => by
  show eqV (V.str a) (V.str b) = _
  by_cases h : a = b
  · subst h; simp [eqV, valV, scal]
  · simp [eqV, h]⟩
instance : Scl Key := ⟨fun a => by cases a <;> rfl, fun a b => by
  show eqV (kV a) (kV b) = _
  cases a with
  | inl i =>
    cases b with
    | inl j => rw [show eqV (kV (.inl i)) (kV (.inl j)) = decide (i = j) from Scl.eq (α := Int) i j]; simp
    | inr y => simp [eqV, kV, valV, scal]
  | inr x =>
    cases b with
    | inl j => simp [eqV, kV, valV, scal]
    | inr y => rw [show eqV (kV (.inr x)) (kV (.inr y)) = decide (x = y) from Scl.eq (α := Str) x y]; simp⟩
section
variable {X : Cx} {F : Fr} {L : List (Option Asr)} {O : List Own} {b1 b2 b3 : Bool} {x y : Expr} {pos : Pos} {α s : Type} [Rep α] [Flat α] [DecidableEq α] [Scl α] [Rep s] [Lk s α] {ma : Res α} {mb : Res s}
theorem rr_inQ (hK : X.K = F.K) : RR F L O b1 b2 b3 (rIn X.K false) fun (x : α) (ys : s) => .ok (decide (x ∈ Lk.its ys)) := fun x y vx vy H σ Q g rx ry q => by
  have ex := Flat.iff.mp rx
  subst ex
  obtain ⟨p, vs, rfl, h2, h3⟩ := Lk.get ry
  have e := reps_flat.mp h3
  subst e
  rw [hK]
  refine ⟨p, _, rfl, h2.imp (fun z => rgn_sub.seq z) (fun z => same_t rgn_sub z), Scl.flat _, flat_scl _, ?_⟩
  rw [if_neg Bool.false_ne_true, inV_scl]
  exact kp_flat (α := Bool) g q
theorem rr_ninQ (hK : X.K = F.K) : RR F L O b1 b2 b3 (rIn X.K true) fun (x : α) (ys : s) => .ok (!decide (x ∈ Lk.its ys)) := fun x y vx vy H σ Q g rx ry q => by
  have ex := Flat.iff.mp rx
  subst ex
  obtain ⟨p, vs, rfl, h2, h3⟩ := Lk.get ry
  have e := reps_flat.mp h3
  subst e
  rw [hK]
  refine ⟨p, _, rfl, h2.imp (fun z => rgn_sub.seq z) (fun z => same_t rgn_sub z), Scl.flat _, flat_scl _, ?_⟩
  rw [if_pos rfl, inV_scl]
  exact kp_flat (α := Bool) g q
theorem n_inQ (hx : PE X x (tP b1 F L O ma)) (hy : PE X y (tP b2 F L O mb)) (hm : behindInMarks CmpOp.In y = false := by rfl) (hK : X.K = F.K := by rfl) : PE X (.Compare x [.In] [y] pos) (tP b3 F L O (ma.bind fun x => mb.bind fun y => .ok (decide (x ∈ Lk.its y)))) := nf2 (pe_cmpR op_in_seq hx hy hm) (rr_inQ hK)
theorem t_inQ (hx : PE X x (tP b1 F L O ma)) (hy : PE X y (tP b2 F L O mb)) (hm : behindInMarks CmpOp.In y = false := by rfl) (hK : X.K = F.K := by rfl) : PT X (.Compare x [.In] [y] pos) (tB' F L O (ma.bind fun x => mb.bind fun y => .ok (decide (x ∈ Lk.its y)))) := nf2t (pt_cmpR op_in_seq hx hy hm) (rr_inQ hK)
theorem n_ninQ (hx : PE X x (tP b1 F L O ma)) (hy : PE X y (tP b2 F L O mb)) (hm : behindInMarks CmpOp.NotIn y = false := by rfl) (hK : X.K = F.K := by rfl) : PE X (.Compare x [.NotIn] [y] pos) (tP b3 F L O (ma.bind fun x => mb.bind fun y => .ok (!decide (x ∈ Lk.its y)))) := nf2 (pe_cmpR op_notIn_seq hx hy hm) (rr_ninQ hK)
theorem t_ninQ (hx : PE X x (tP b1 F L O ma)) (hy : PE X y (tP b2 F L O mb)) (hm : behindInMarks CmpOp.NotIn y = false := by rfl) (hK : X.K = F.K := by rfl) : PT X (.Compare x [.NotIn] [y] pos) (tB' F L O (ma.bind fun x => mb.bind fun y => .ok (!decide (x ∈ Lk.its y)))) := nf2t (pt_cmpR op_notIn_seq hx hy hm) (rr_ninQ hK)
end
end NF

set_option Elab.async false
set_option linter.all false
set_option maxRecDepth 100000
set_option maxHeartbeats 2000000
/-! Nf42: defs that are called where no repr is under way; repr of lists and tuples. -/
namespace NF
open PySem PySem.Spec PyProof.Rows L2
open Data (toD)
/-- a def's promise, for calls where no repr is under way -/
structure FnG (P : Program) (w : World) (K : Fg) (mg : MG) (base : Heap) (k : Nat) (f : Addr) (fd : FuncData) (ps : List Str) (sp : Sp) : Prop where
  len : ∀ vs H Q E, sp vs H Q E → vs.length = ps.length
  run : ∀ (A : Around) (outer : List Env) (s : Shared) (H : Hp) (args : Args) (us : List Value) (vs : List V) (Q : VK) (E : XK), A.guards = some [] → Room k A → Env0 P w K mg base A outer s H → BindsTo s fd args (ps.zip us) → Vals vs us → sp vs H Q E →
    codeAny (model P w) A (.call (.ref f) args) (CR CX0 outer P w H s Q E) s
section
variable {X : Cx} {k : Nat} {f : Addr} {fd : FuncData} {ps : List Str} {sp : Sp} {x : Str} {p1 pos : Pos} {e : Expr} {es : List Expr} {t : TA}
theorem run_g {pins : List (Addr × PySem.Obj)} {σ : L2.St} {H : Hp} {s : Shared} {Q : VK} {us : List Value} {vs : List V} (G : FnG X.prog X.w X.K X.mg X.base k f fd ps sp) (hg : X.A.guards = some []) (hr : Room k X.A) (hb : Binds X.K fd ps []) (I : Inv X pins σ H s) (r : Vals vs us) (h : sp vs H Q E0) :
    wpAny (model X.prog X.w) X.A (call (.ref f) us) (EP X pins σ Q) X.xe s := by
  have hl : us.length = ps.length := r.length ▸ G.len _ _ _ _ h
  have bt := hb s us I.kIn (by rw [List.append_nil]; exact hl)
  rw [List.append_nil] at bt
  refine wpAny_call (codeAny_mono (G.run X.A X.stack s H ⟨us, []⟩ us vs Q E0 hg hr I.env0 bt r h) fun r s' hq => ?_)
  match r, hq with
  | .ok (.ret u), hq => exact I.after hq
  | .ok .next, hq => exact hq.elim
  | .ok .brk, hq => exact hq.elim
  | .ok .cont, hq => exact hq.elim
  | .error e, hq => exact hq.elim
theorem pe_callg (G : FnG X.prog X.w X.K X.mg X.base k f fd ps sp) (hgd : X.A.guards = some []) (hr : Room k X.A) (hg : Gl X x) (hm : X.mg x = some (.ref f)) (hk : PySem.W.keepIn X.K (.ref f) = true) (hb : Binds X.K fd ps [])
    (ha : PA X (e :: es) t) (hdb : (x == ("__debug__" : Str)) = false := by decide) (he : starEach (e :: es) X.env = (false, eval e X.env) :: starEach es X.env := by rfl) (hpl : (backTo pos (starEach es X.env)).any (·.1) = false := by rfl) :
    PE X (.Call (.Name x p1) (e :: es) [] pos) (tCall sp [] E0 t) := ⟨fun pins s σ H Q I h => wpAny_Call_Name_kw (ld_glob I hg hm (PySem.W.callWith_K (h₀ := X.base) I.ok.mod.kin hk (thn (ha.run pos pins s σ H _ I h) fun us s1 ⟨vs, H1, I1, r, q⟩ => ⟨I1.kIn, by
  have q' : sp (vs ++ []) H1 Q E0 := q
  rw [List.append_nil] at q'
  exact run_g G hgd hr hb I1 r q'⟩) he hpl) hdb)⟩
end
structure DefG (P : Program) (w : World) (K : Fg) (mg : MG) (base : Heap) (k : Nat) (x : Str) (ps : List Str) (sp : Sp) : Prop where
  ex : ∃ (f : Addr) (fd : FuncData), FnG P w K mg base k f fd ps sp ∧ mg x = some (.ref f) ∧ PySem.W.keepIn K (.ref f) = true ∧ Binds K fd ps []
section
variable {X : Cx} {F : Fr} {L : List (Option Asr)} {O : List Own} {τ ρ : Type} [RepA τ] [Rep ρ] {k : Nat} {ps : List Str} {x : Str} {p1 pos : Pos} {e : Expr} {es : List Expr} {b : Bool}
theorem ng_call {mir : τ → Res ρ} {m : Res τ} (D : DefG X.prog X.w X.K X.mg X.base k x ps (spP X.K X.mg mir)) (hgd : X.A.guards = some []) (hr : Room k X.A) (ha : PA X (e :: es) (tA b F L O m)) (hg : Gl X x := by rfl) (hE : F.E = E0 := by rfl) (hK : X.K = F.K := by rfl) (hM : X.mg = F.mg := by rfl) (hd : (x == ("__debug__" : Str)) = false := by decide)
    (hs : starEach (e :: es) X.env = (false, eval e X.env) :: starEach es X.env := by rfl) (hs2 : ((backTo pos (starEach es X.env)).any fun x => x.fst) = false := by rfl) : PE X (.Call (.Name x p1) (e :: es) [] pos) (tP b F L O (m.bind mir)) := by
  obtain ⟨f, fd, h1, h2, h3, h4⟩ := D.ex
  exact call_core (sp := spP X.K X.mg mir) hE (fun vs H Q q => by rw [← hK, ← hM] at q; exact q) (pe_callg h1 hgd hr hg h2 h3 h4 ha hd hs hs2)
end
/-! ### such a def's own rule -/
section
variable {P : Program} {w : World} {K : Fg} {mg : MG} {base : Heap} {τ ρ : Type} [RepA τ] [Rep ρ] {x qual : Str} {st : Stmt} {f : Addr} {fd : FuncData} {N ps : List Str} {k : Nat}
theorem fun_g {sp : Sp} (Fu : Fun K x qual st f fd) (S : FnScope N ps (defScope st)) (len : ∀ vs H Q E, sp vs H Q E → vs.length = ps.length)
    (body : ∀ (cdv : Value) (A : Around) (outer : List Env) (s : Shared) (H : Hp) (vs : List V) (Q : VK) (E : XK), A.guards = some [] → Room k (A.deeper (envOfC qual (defScope st) s.heap.objs.size f cdv)) → sp vs H Q E →
      ∃ t, PSs (cxOf CX0 P w K mg base N qual (defScope st) f cdv A outer s H E).nox (defBody st) t ∧ t { nx := fun _ H' => Q .non H', rt := Q } (start N vs) H) : FnG P w K mg base (k + 1) f fd ps sp := by
  obtain ⟨oc, od, kV, doc, pm, an, cdv, ct, osl, rfl, lk, hcd⟩ := Fu.ex
  refine ⟨len, fun A outer s H args us vs Q E hgd hr e0 hb r hsp => ?_⟩
  have KX : K.In s.heap := e0.mod.kin.keeps fun b o e => (e0.bs b o e).1
  have hkind : ∀ y ∈ ps.zip us, (defScope st).names.lookup y.1 = some .local ∨ ((defScope st).names.lookup y.1 = some .cell ∧ ((cellsFrom (s.heap.objs.size + 1) (defScope st).names []).lookup y.1).isSome = true) := fun y hy =>
    (S.par y.1 (List.of_mem_zip (a := y.1) (b := y.2) hy).1).imp id fun q => ⟨q, PySem.W.cellsFrom_some _ _ _ (.inl q)⟩
  refine codeAny_call_function hr.depth (KX _ _ lk) rfl S.co S.gen rfl (PySem.W.codeRec_of KX hcd) (hb _ _ _ _ (wpAny_newFunctionEnv_cells S.kind hkind fun env he s1 x => ?_))
  subst he
  refine ⟨(e0.mod.nolimit.keeps fun b o e => (e0.bs b o e).1).keeps x.toInCall.keep, codeAny_func ?_⟩
  obtain ⟨t, ht, hq⟩ := body cdv A outer s H vs Q E hgd (hr.deeper _) hsp
  refine wpAny_mono (ht.nox.run [] s1 (start N vs) H _ (inv_start S hr.hd e0 (len _ _ _ _ hsp) r x) hq) (fun fl s' hs => ?_) fun e s' hs => hs
  match fl, hs with
  | .ret u, ⟨v, σ', H', J, rv, q⟩ => exact ⟨v, H', J.os, J.bare, J.base, J.hok, rv, q⟩
  | .next, ⟨σ', H', J, q⟩ => exact ⟨V.non, H', J.os, J.bare, J.base, J.hok, (rfl : Value.none = Value.none), q⟩
  | .brk, ⟨_, _, _, q⟩ => exact q.elim
  | .cont, ⟨_, _, _, q⟩ => exact q.elim
theorem def_PG {mir : τ → Res ρ} (Fu : Fun K x qual st f fd) (S : FnScope N ps (defScope st)) (L0 : τ → List (Option Asr)) (hl : ∀ (vs : List V) (R : Hp) (a : τ), RepA.rep K mg R vs a → vs.length = ps.length ∧ Paired (SlotOk R) (L0 a) (start N vs))
    (body : ∀ (cdv : Value) (A : Around) (outer : List Env) (s : Shared) (H : Hp) (Av : List Addr) (E : XK) (a : τ), (A.deeper (envOfC qual (defScope st) s.heap.objs.size f cdv)).guards = some [] → Room k (A.deeper (envOfC qual (defScope st) s.heap.objs.size f cdv)) →
      PSs (cxOf CX0 P w K mg base N qual (defScope st) f cdv A outer s H E).nox (defBody st) (tT (F0 K mg H Av E0) (L0 a) [] (mir a) (rV (F0 K mg H Av E0)))) :
    FnG P w K mg base (k + 1) f fd ps (spP K mg mir) :=
  fun_g Fu S (fun vs H Q E ⟨a, A, _, h, _⟩ => (hl vs _ a h).1) fun cdv A outer s H vs Q E hgd hr ⟨a, Av, hA, h, q⟩ => ⟨_, body cdv A outer s H Av E a hgd hr, ⟨(hl vs _ a h).2, go_start hA⟩, q.mono (fun r k v H' ⟨g, r'⟩ => k v H' (go_same g) r') fun H' g => go_same g⟩
theorem FnG.weaker {sp sp' : Sp} (G : FnG P w K mg base k f fd ps sp) (i : ∀ vs H Q E, sp' vs H Q E → sp vs H Q E) : FnG P w K mg base k f fd ps sp' :=
  ⟨fun vs H Q E h => G.len _ _ _ _ (i _ _ _ _ h), fun A outer s H args us vs Q E h0 h1 h2 h3 h4 h => G.run A outer s H args us vs Q E h0 h1 h2 h3 h4 (i _ _ _ _ h)⟩
theorem law_ofG {n : Nat} {mir : Ar Scr Unit → Res Bool} (G : FnG P w K mg base k f fd ps (spP K mg mir)) (math : ∀ ns : List Int, ns.length ≤ n → mir ⟨⟨ns⟩, ()⟩ = .ok true) : FnG P w K mg base k f fd ps (spLaw K n) := G.weaker fun vs H Q E ⟨a, ns, e, h, hl, q⟩ => by
  subst e
  refine ⟨⟨⟨ns⟩, ()⟩, [], fun _ z => (List.not_mem_nil z).elim, ⟨_, _, rfl, ⟨a, rfl, ?_⟩, rfl⟩, ?_⟩
  · have sm : Same H (less H []) := fun b o z => by rw [less_out List.not_mem_nil]; exact z
    exact sm.seq h
  · rw [math ns hl]
    intro v H' _ r
    rw [(show v = .bl true from r)]
    exact q H'
end
/-! ### the end -/
section
variable {P : Program} {w : World} {K : Fg} {mg mb : MG} {k n : Nat} {fa a : Addr} {fd : FuncData} {x : Str} {s₁ : Shared} {vs : List Value} {ns : List Int}
abbrev LawEnd (s₁ : Shared) : Result → Shared → Prop := fun r s' => r = .ok (.ret (.bool true)) ∧ OldK s₁.heap s'.heap ∧ s'.os = s₁.os ∧ AllBare s'.gens
/-- from a heap in which nothing but the script may be tracked -/
theorem law_core {H : Hp} (KX : K.In s₁.heap) (hns : s₁.heap.Ns mainGlobals mg) (hb : s₁.heap.Ns builtinsNs mb) (hbb : ∀ x : Str, x ≠ "__name__" → mb x = bootBuiltins x) (hlim : s₁.heap.NoLimit) (hg : s₁.gens = #[])
    (ha : s₁.heap.get? a = some { cls := .type "list", data := .seq vs.toArray }) (hl : ns.length ≤ n) (hr : Room k callerA) (G : ∀ base : Heap, K.In base → base.Ns mainGlobals mg → FnG P w K mg base k fa fd [x] (spLaw K n)) (hbind : ∀ (s : Shared) (u : Value), BindsTo s fd ⟨[u], []⟩ [(x, u)])
    (hO : Only H) (hS : SqL K H a (ns.map V.int)) (hok : HOk P w H s₁.heap) (hA : ∀ b, H b ≠ none → b = a) (hK : H a ≠ none → K.lookup a = none) : codeAny (model P w) callerA (.call (.ref fa) ⟨[.ref a], []⟩) (LawEnd s₁) s₁ := by
  have nd : ∀ {b : Addr} {o : PySem.Obj}, s₁.heap.get? b = some o → (H b ≠ none → False) → (hidT s₁.heap H).get? b = some o := fun {b o} e z => hidT_get e (by
    cases q : H b with
    | none => rfl
    | some u => exact (z (by rw [q]; exact nofun)).elim)
  have nsK : ∀ {b : Addr} {m : MG}, s₁.heap.Ns b m → (hidT s₁.heap H).Ns b m := fun {b m} ⟨o, es, ep, e, d, r⟩ => ⟨o, es, ep, nd e (fun z => by
    have eb := hA b z
    subst eb
    rw [ha] at e
    cases e
    exact nomatch d), d, r⟩
  have hKb : K.In (hidT s₁.heap H) := fun b o e => nd (KX b o e) fun z => by
    have eb := hA b z
    subst eb
    rw [hK z] at e
    cases e
  have hM : Mod K mg (hidT s₁.heap H) := ⟨hKb, nsK hns, ⟨mb, nsK hb, hbb⟩, let ⟨mc, h1, h2⟩ := hlim; ⟨mc, nsK h1, h2⟩⟩
  have e0 : Env0 P w K mg (hidT s₁.heap H) callerA [] s₁ H := ⟨rfl, hM, fun b o e => of_hidT e, Nat.le_of_eq (hidT_size _ _), trivial, fun b hb => (List.not_mem_nil (show b ∈ ([] : List Addr) from hb)).elim, hok, .of_eq hg⟩
  have run := (G _ hKb (nsK hns)).run callerA [] s₁ H ⟨[.ref a], []⟩ [.ref a] [.ref a] (fun v _ => v = .bl true) E0 rfl hr e0 (hbind s₁ (.ref a)) (.cons rfl .nil) ⟨a, ns, rfl, hS, hl, fun _ => rfl⟩
  refine codeAny_mono run fun r s' h => ?_
  match r, h with
  | .error e, h => exact h.elim
  | .ok .next, h => exact h.elim
  | .ok .brk, h => exact h.elim
  | .ok .cont, h => exact h.elim
  | .ok (.ret u), ⟨v, H', os, bare, un, hok', r', q⟩ =>
    obtain rfl : v = .bl true := q
    obtain rfl : u = Value.bool true := r'
    refine ⟨rfl, OldK.of_keep fun b o e => ?_, os, bare⟩
    rcases hO b with z | ⟨ob, xs, z⟩
    · exact un.keep b o e z (fun z => (List.not_mem_nil (show b ∈ ([] : List Addr) from z)).elim) List.not_mem_nil
    · obtain ⟨e1, _⟩ := hok b _ z
      obtain ⟨e2, _⟩ := hok' b _ (un.frzs b ob _ z)
      rw [e] at e1
      cases e1
      exact e2
theorem law_callG (KX : K.In s₁.heap) (hns : s₁.heap.Ns mainGlobals mg) (hb : s₁.heap.Ns builtinsNs mb) (hbb : ∀ x : Str, x ≠ "__name__" → mb x = bootBuiltins x) (hlim : s₁.heap.NoLimit) (hg : s₁.gens = #[])
    (ha : s₁.heap.get? a = some { cls := .type "list", data := .seq vs.toArray }) (hi : IntsAre vs ns) (hl : ns.length ≤ n) (hz : n ≤ sizeLine) (hr : Room k callerA) (G : ∀ base : Heap, K.In base → base.Ns mainGlobals mg → FnG P w K mg base k fa fd [x] (spLaw K n)) (hbind : ∀ (s : Shared) (u : Value), BindsTo s fd ⟨[u], []⟩ [(x, u)]) :
    codeAny (model P w) callerA (.call (.ref fa) ⟨[.ref a], []⟩) (LawEnd s₁) s₁ := by
  have rv := vals_ints hi
  have hl' := Nat.le_trans hl hz
  cases hk : K.lookup a with
  | some o =>
    have e := KX a o hk
    rw [ha] at e
    cases e
    exact law_core (H := fun _ => none) KX hns hb hbb hlim hg ha hl hr G hbind (fun _ => .inl rfl) (.inr ⟨_, vs.toArray, _, hk, rfl, rfl, rfl, by rw [List.size_toArray, hi.length]; exact hl', by simpa using rv⟩) (fun b u z => nomatch (show (none : Option HO) = some u from z)) (fun b z => (z rfl).elim) fun z => (z rfl).elim
  | none =>
    let ob : PySem.Obj := { cls := .type "list", data := .seq vs.toArray }
    have at_ : upd (fun _ => none) a (.frz ob (.lst (ns.map V.int))) a = some (.frz ob (.lst (ns.map V.int))) := upd_same
    refine law_core (H := upd (fun _ => none) a (.frz ob (.lst (ns.map V.int)))) KX hns hb hbb hlim hg ha hl hr G hbind (fun b => ?_) (.inl (.inr ⟨ob, at_⟩)) (fun b u z => ?_) (fun b z => ?_) fun _ => hk
    · by_cases hb : b = a
      · subst hb; exact .inr ⟨_, _, at_⟩
      · exact .inl (upd_ne hb)
    · by_cases hb : b = a
      · subst hb
        rw [at_] at z
        cases z
        exact ⟨ha, by rw [List.length_map]; exact hl', vs, _, rv, ha⟩
      · rw [upd_ne hb] at z
        cases z
    · by_cases hb : b = a
      · exact hb
      · exact (z (upd_ne hb)).elim
theorem walk_ofG {l : PySem.W.OpenLaw} {q : Program} {loose : List Str} {XP : MG → Heap → Prop} {YP : World → Heap → Prop} {d : DefRec} {K : Params → Fg} (hn : l.most = some n) (hn2 : n ≤ sizeLine) (hdf : d.params.defaults = []) (hr : Room k callerA) (hY : ∀ (w : World) (h : Heap), YP w h → (K w.params).In h)
    (F : ∀ (w : World) (mg : MG) (fa : Addr) (h : Heap), (K w.params).In h → h.Ns mainGlobals mg → mg d.name = some (.ref fa) → ∃ fd : FuncData, (∀ (s : Shared) (u : Value), BindsTo s fd ⟨[u], []⟩ [(x, u)]) ∧ ∀ base : Heap, (K w.params).In base → base.Ns mainGlobals mg → FnG l.prog w (K w.params) mg base k fa fd [x] (spLaw (K w.params) n)) :
    PySem.W.WalkO q loose XP YP l.row.toRowW d [] (fun f vs => PySem.call f vs) := Att.attach_call hn hdf fun w s₀ s₁ mg mb fa o pm cd doc a vs ns G Y ho hd hcd hmg hobj hints hlen hg => by
  have KX := hY w _ Y
  obtain ⟨fd, hb, hF⟩ := F w mg fa _ KX G.T.g hmg
  exact law_callG KX G.T.g G.T.b G.T.builtins G.T.nolimit hg hobj hints hlen hn2 hr hF hb
end
end NF

set_option Elab.async false
set_option linter.all false
set_option maxRecDepth 100000
set_option maxHeartbeats 2000000
/-! Nf43: rows of two, repr of lists, extend, owned lists out of effects, default arguments of __init__. -/
namespace NF
open PySem PySem.Spec PyProof.Rows L2
open Data (toD)
/-! ### [a, b] of two kinds -/
structure Rw (α β : Type) where
  a : α
  b : β
instance {α β : Type} [Rep α] [Rep β] : Rep (Rw α β) := ⟨fun K mg H v r => ∃ p x y, v = .ref p ∧ H p = some (.lst [x, y]) ∧ Rep.rep K mg H x r.a ∧ Rep.rep K mg H y r.b, fun e ⟨p, x, y, h1, h2, h3, h4⟩ => ⟨p, x, y, h1, e _ _ h2, Rep.mono e h3, Rep.mono e h4⟩⟩
instance {α β : Type} [Rep α] [Rep β] [Data α] [Data β] : Data (Rw α β) := ⟨fun r => .list [toD r.a, toD r.b], fun ⟨p, x, y, h1, h2, h3, h4⟩ => by subst h1; exact .lst (.of h2) (.cons (Data.dp h3) (.cons (Data.dp h4) .nil))⟩
instance {α β : Type} [Rep α] [Rep β] : Ty (Rw α β) := ⟨fun _ => "list", fun ⟨p, x, y, h1, h2, _⟩ => by subst h1; exact tyx_lst (.of h2)⟩
section
variable {X : Cx} {F : Fr} {L : List (Option Asr)} {O : List Own} {α β s : Type} [Rep α] [Rep β] [Rep s] {b b1 b3 : Bool} {e x y : Expr} {pos : Pos}
theorem n_rw {ma : Res α} {mb : Res β} (hx : PE X x (tP b F L O ma)) (hy : PE X y (tP b F L O mb)) (h1 : starEach [x, y] X.env = (false, eval x X.env) :: starEach [y] X.env := by rfl) (h2 : starEach [y] X.env = (false, eval y X.env) :: starEach [] X.env := by rfl) :
    PE X (.List [x, y] pos) (tP b F L O (ma.bind fun x => mb.bind fun y => .ok (Rw.mk x y))) := pe_imp (pe_lst (pa_cons hx (pa_cons hy pa_nil h2) h1)) fun σ H Q ⟨g, q⟩ => by
  rw [out_bind] at q
  refine ⟨g, q.mono (fun x qx v1 H1 g1 s1 r1 => ?_) fun _ z => z⟩
  rw [out_bind] at qx
  refine ⟨g1, qx.mono (fun y qy v2 H2 g2 s2 r2 => ?_) fun H' ⟨a, b⟩ => ⟨a, s1.trans b⟩⟩
  exact ⟨by show 2 ≤ sizeLine; decide, fun p hp => qy _ _ (g2.grow (same_upd hp)) ((s1.trans s2).trans (same_upd hp)) ⟨p, v1, v2, rfl, rgn_new g2 (same_upd hp) hp upd_same, Rep.mono (rgn_grow (s2.trans (same_upd hp))) r1, Rep.mono (rgn_grow (same_upd hp)) r2⟩⟩
theorem n_rw0 {ma : Res (Rw α β)} {j p'} (hx : PE X x (tP b1 F L O ma)) (hp : PlainIx (.Constant (.int 0) j p') := by exact fun _ _ => rfl) (hK : X.K = F.K := by rfl) : PE X (.Subscript x (.Constant (.int 0) j p') pos) (tP b1 F L O (ma.bind fun x => .ok x.a)) := pe_imp (pe_ix ix_list hx pe_int hp) fun σ H Q ⟨g, q⟩ => by
  rw [out_bind] at q
  refine ⟨g, q.mono (fun x qx v1 H1 g1 s1 r1 => ?_) fun _ z => z⟩
  obtain ⟨p, a, b, rfl, h2, h3, h4⟩ := r1
  exact ⟨p, _, 0, a, rfl, rfl, .of (rgn_sub _ _ h2), rfl, qx _ H1 g1 s1 h3⟩
theorem n_rw1 {ma : Res (Rw α β)} {j p'} (hx : PE X x (tP b1 F L O ma)) (hp : PlainIx (.Constant (.int 1) j p') := by exact fun _ _ => rfl) (hK : X.K = F.K := by rfl) : PE X (.Subscript x (.Constant (.int 1) j p') pos) (tP b1 F L O (ma.bind fun x => .ok x.b)) := pe_imp (pe_ix ix_list hx pe_int hp) fun σ H Q ⟨g, q⟩ => by
  rw [out_bind] at q
  refine ⟨g, q.mono (fun x qx v1 H1 g1 s1 r1 => ?_) fun _ z => z⟩
  obtain ⟨p, a, b, rfl, h2, h3, h4⟩ := r1
  exact ⟨p, _, 1, b, rfl, rfl, .of (rgn_sub _ _ h2), rfl, qx _ H1 g1 s1 h4⟩
/-! ### repr -/
def reprOk (d : PyData) : Bool := d.showable && !d.hasDict && decide (d.depth ≤ 60) && decide (d.shown.length ≤ sizeLine)
def rRepr (K : Fg) : List V → Hp → VK → Prop := fun vs H Q => ∃ a d, vs = [V.ref a] ∧ Dp K H (.ref a) d ∧ reprOk d = true ∧ Q (.str d.shown) H
theorem cr_repr (hg : X.A.guards = some []) (hu : X.A.units + 64 < cLine) : CallR X (.builtin "repr") (rRepr X.K) := by
  intro pins s σ H vs us Q I r h
  obtain ⟨a, d, rfl, hd, ok, q⟩ := h
  unfold reprOk at ok
  rw [Bool.and_eq_true, Bool.and_eq_true, Bool.and_eq_true, Bool.not_eq_true', decide_eq_true_eq, decide_eq_true_eq] at ok
  obtain ⟨⟨⟨o1, o2⟩, o3⟩, o4⟩ := ok
  obtain ⟨as, rd⟩ := Dp.reads I d (.ref a) (.ref a) hd rfl
  rw [Vals.ref1 r]
  exact repr_of_reads' rd o1 (PyData.noDict_hsm o2) hg (by omega) (fun _ _ e => e) (fun h' u tk hk => ⟨.str d.shown, H, I.kept (t' := tk) hk, ⟨u, rfl⟩, q⟩) o4
theorem n_reprD [Data s] [Lk s α] {m : Res s} {r} (h : PE X e (tCB r (tCons (tP b1 F L O m) tNil))) (er : r = rRepr X.K) (hK : X.K = F.K := by rfl) : PE X e (tP b3 F L O (m.bind fun x => need (reprOk (toD x) = true) (.ok (toD x).shown))) := nc1 h fun x vx H σ Q g rx q => by
  subst er
  rw [out_need] at q
  obtain ⟨p, vs, rfl, _, _⟩ := Lk.get rx
  rw [hK]
  exact ⟨p, toD x, rfl, Data.dp (Rep.mono rgn_sub rx), q.1, kp_flat (α := Str) g q.2⟩
/-! ### a if t else b, both new lists -/
theorem f_if {c a e2 : Expr} {mc : Res Bool} {ma mb : Res (List α)} (hc : PT X c (tB' F L O mc)) (ha : PE X a (tF b F L O ma)) (hb : PE X e2 (tF b F L O mb)) : PE X (.IfExp c a e2 pos) (tF b F L O (mc.bind fun c => if c then ma else mb)) := pe_imp (pe_ifExp hc ha hb) fun σ H Q ⟨g, q⟩ => by
  rw [out_bind] at q
  refine ⟨g, q.mono (fun c qc H1 g1 s1 => ?_) fun _ z => z⟩
  cases c with
  | true => exact ⟨g1, qc.mono (fun d kd p vs H' g' s' h1 h2 r' => kd p vs H' g' (s1.trans s') (s1.free h1) h2 r') fun H' ⟨a, b⟩ => ⟨a, s1.trans b⟩⟩
  | false => exact ⟨g1, qc.mono (fun d kd p vs H' g' s' h1 h2 r' => kd p vs H' g' (s1.trans s') (s1.free h1) h2 r') fun H' ⟨a, b⟩ => ⟨a, s1.trans b⟩⟩
end
/-! ### x.extend(new list) -/
section
variable {X : Cx} {F : Fr} {L : List (Option Asr)} {O : List Own} {ε : Type} [Rep ε] {p : Addr} {xs : List ε}
theorem s_extF {x : Str} {e : Expr} {pos pos1 pos2 cpos : Pos} (i : Nat) (hL : L[i]? = some (rf p)) {m : Res (List ε)} (hO : ∀ xs' : List ε, List.Sublist F.O0 (ow F.K F.mg p xs' :: O)) (he : PE X e (tF true F L (ow F.K F.mg p xs :: O) m))
    (h : ∀ {to : TE} {t : TA}, PE X (.Name x pos1) to → PA X [e] t → PE X (.Call (.Attribute (.Name x pos1) "extend" pos2) [e] [] cpos) (tBM X.K "list" rExtend to t)) (hs1 : starEach [e] X.env = (false, eval e X.env) :: starEach [] X.env := by rfl)
    (hN : X.N[i]? = some x := by rfl) (hv : Vis X.env.scope x := by first | exact Or.inl rfl | exact Or.inr (Or.inl rfl) | exact Or.inr (Or.inr rfl)) (hd : (x == ("__debug__" : Str)) = false := by decide) (hcd : (x == ("__classdict__" : Str)) = false := by decide)
    (hs : swapsWith (.Call (.Attribute (.Name x pos1) "extend" pos2) [e] [] cpos) none pos.line X.env = pure false := by rfl) :
    PS X (.Expr (.Call (.Attribute (.Name x pos1) "extend" pos2) [e] [] cpos) pos) (tN F L (ow F.K F.mg p xs :: O) (m.bind fun as => need (xs.length + as.length ≤ sizeLine) (.ok (xs ++ as))) (fun _ => L) (fun ys => ow F.K F.mg p ys :: O)) := ps_imp (ps_expr (h (pe_var hN hv hd hcd) (pa_cons he pa_nil hs1)) hs) fun D σ H ⟨g, q⟩ => by
  obtain ⟨w, h4, h5⟩ := g.slot hL
  obtain ⟨vs, h6, h7⟩ := g.head
  rw [out_bind] at q
  refine ⟨w, h4, ?_, g, q.mono (fun as k p' vs1 H1 g1 s1 n1 n2 r1 => ?_) fun H' ⟨a, _⟩ => a.go.sub (hO _)⟩
  · rw [show w = V.ref p from h5]
    exact .inl ⟨rfl, _, .of h6⟩
  · rw [out_need] at k
    obtain ⟨vs', h8, h9⟩ := g1.head
    refine ⟨p, p', vs', vs1, h5, rfl, h8, n2, by rw [h9.length, r1.length]; exact k.1, ?_⟩
    exact k.2 σ _ (g_upd g1 (reps_append h9 (r1.mono less_same))).1
end
/-! ### owned lists out of effects -/
section
variable {X : Cx} {F : Fr} {L : List (Option Asr)} {O : List Own} {α β ι : Type} [Rep α] [Rep β] [OwR ι] {p : Addr} {xs : ι}
/-- a new list, owned at once -/
def tEN (F : Fr) (L : List (Option Asr)) (p : Addr) (xs : ι) (O : List Own) (m : Res (List α × ι)) : TE := fun σ H Q =>
  G F L (ow F.K F.mg p xs :: O) σ H ∧ Out F m (fun r => ∀ D H', G F L (ow F.K F.mg D r.1 :: ow F.K F.mg p r.2 :: O) σ H' → Q (.ref D) H') (XPS F)
theorem en_lst {es : List Expr} {m : Res (List α × ι)} {pos : Pos} (h : PA X es (tEL F L p xs O m)) : PE X (.List es pos) (tEN F L p xs O (m.bind fun r => need (r.1.length ≤ sizeLine) (.ok (r.1, r.2)))) := pe_imp (pe_lst h) fun σ H Q ⟨g, q⟩ => by
  rw [out_bind] at q
  refine ⟨g, q.mono (fun r qx vs H1 g1 s1 r1 => ?_) fun _ z => z⟩
  rw [out_need] at qx
  refine ⟨by rw [r1.length]; exact qx.1, fun p' hp => qx.2 _ _ ?_⟩
  have sm : Same H1 (upd H1 p' (.lst vs)) := same_upd hp
  refine ⟨L2.Paired.mapP g1.slots fun _ _ z => z.mono (rg_new rfl sm hp), go_new g1 (g1.go.grow sm) sm hp upd_same (r1.mono (less_new (rg_grow sm) (less_none hp)))⟩
where
  less_none {H1 : Hp} {p' : Addr} {A : List Addr} (h : H1 p' = none) : less H1 A p' = none := by
    unfold less
    split
    · rfl
    · exact h
theorem s_ownN {x : Str} {e : Expr} {pos pos' : Pos} {m : Res (List α × ι)} (i : Nat) (hN : X.N.Nodup) (he : PE X e (tEN F L p xs O m)) (hi : X.N[i]? = some x := by rfl) (hx : L2.Loc X.env.scope x := by first | exact .inl rfl | exact .inr rfl) (hs : swapsWith e (some (.Name x pos')) pos.line X.env = pure false := by rfl) (hf : X.fn x = true ∨ X.env.scope.names.lookup x = some .local := by first | exact .inl rfl | exact .inr rfl) :
    PS X (.Assign [.Name x pos'] e pos) (tNp F L (ow F.K F.mg p xs :: O) m (fun q _ => L.set i (rf q)) (fun q r => ow F.K F.mg q r.1 :: ow F.K F.mg p r.2 :: O)) := ps_imp (ps_set (i := i) hN hi hx he hs hf) fun D σ H ⟨g, q⟩ =>
  ⟨g, q.mono (fun r k q' H1 g1 => k q' _ _ ⟨set_ok (p := rf q') rfl i g1.slots, g1.go⟩) fun _ z => z⟩
end
/-! ### an own __init__ with defaults -/
section
variable {P : Program} {w : World} {K : PySem.W.Frag} {mg : Str → Option Value} {base : Heap} {τ α : Type} [RepA τ] [Obj α]
variable {x qual : Str} {st : Stmt} {f : Addr} {fd : FuncData} {N ps : List Str} {k : Nat} {dvs : List V}
theorem def_CD {mir : τ → Res α} (Fu : FunD K x qual (defArgs st) (defBody st) (defScope st) dvs [] f fd) (S : FnScope N ps (defScope st)) (L0 : Addr → τ → List (Option Asr)) (Le : Addr → List (Option Asr)) (hl : ∀ (vs : List V) (R : Hp) (p : Addr) (a : τ), RepA.rep K mg R vs a → (V.ref p :: vs).length = ps.length ∧ Paired (SlotOk R) (L0 p a) (start N (V.ref p :: vs)))
    (body : ∀ (cdv : Value) (A : Around) (outer : List Env) (s : Shared) (H : Hp) (Av : List Addr) (E : XK) (p : Addr) (a : τ), Room k (A.deeper (envOfC qual (defScope st) s.heap.objs.size f cdv)) →
      PSs (cxOf CX0 P w K mg base N qual (defScope st) f cdv A outer s H E).nox (defBody st) (tN (F2 K mg H Av E0 p) (L0 p a) [owF mg (Obj.cls α) p []] (mir a) (fun _ => Le p) (fun r => [owF mg (Obj.cls α) p (Obj.fa K mg r)]))) :
    FnOk P w K mg base CX0 (k + 1) f fd ps (spC K mg mir) := by
  refine Fu.ok S (fun vs H Q E ⟨p, us, a, A, C, dx, _, _, e, _, _, h, _⟩ => by rw [e]; exact (hl us _ p a h).1) (fun cdv A outer s H vs Q E hr ⟨p, us, a, Av, C, dx, hA, hp, e, hm, h1, h, q⟩ => ⟨_, (body cdv A outer s H Av E p a hr).nox, ⟨?_, go_startW (w := owF mg (Obj.cls α) p []) hA hp h1 ⟨C, dx, [], rfl, hm, .nil⟩⟩, ?_⟩)
  · rw [e]
    exact (hl us _ p a h).2
  · refine q.mono (fun r k σ' H' g => ?_) fun H' g => g
    obtain ⟨o, h5, C', dx', vs', h6, h7, h8⟩ := g.go.objs _ List.mem_cons_self
    subst h6
    exact k H' C' dx' vs' (fun x o h hx => g.go.keep x o h (fun z => hx (List.mem_singleton.mp z))) h5 h7 h8
/-- .. its defaults stand for d -/
structure MkDf {τ α : Type} [RepA τ] [Obj α] (P : Program) (w : World) (K : Fg) (mg : MG) (base : Heap) (k : Nat) (x : Str) (ps : List Str) (mir : τ → Res α) (d : τ) : Prop where
  nm : x = Obj.cls α
  ex : ∃ (C f : Addr) (fd : FuncData) (ds : List Value) (dvs : List V), mg x = some (.ref C) ∧ Mk K C f ∧ FnOk P w K mg base CX0 k f fd ps (spC K mg mir) ∧ Binds K fd ps ds ∧ Vals dvs ds ∧ ∀ H, RepA.rep K mg H dvs d
end
section
variable {X : Cx} {F : Fr} {L : List (Option Asr)} {O : List Own} {α τ : Type} [Obj α] [RepA τ] {k : Nat} {ps : List Str} {x : Str} {p1 pos : Pos} {b : Bool}
theorem fo_makeD {mir : τ → Res α} {d : τ} (D : MkDf X.prog X.w X.K X.mg X.base k x ps mir d) (hr : Room (k + 1) X.A) (hg : Gl X x := by rfl) (hE : F.E = E0 := by rfl) (hK : X.K = F.K := by rfl) (hM : X.mg = F.mg := by rfl) (hd : (x == ("__debug__" : Str)) = false := by decide) : PE X (.Call (.Name x p1) [] [] pos) (tFO b F L O (mir d)) := by
  obtain ⟨C, f, fd, ds, dvs, h1, h2, h3, h4, h5, h6⟩ := D.ex
  refine make_core (ma := .ok d) (C := C) (by rw [← D.nm]; exact h1) hE (.inr trivial) hK hM (pe_imp (pe_make0 h2 h3 hr hg h1 h4 h5 pass0 hd) fun σ H Q ⟨g, q⟩ => ?_)
  have z := q dvs H g (Same.refl _) (by rw [← hK, ← hM]; exact h6 _)
  intro y dx hy hdx hne
  have z' := z y dx hy hdx hne
  rw [List.append_nil] at z'
  exact z'
end
end NF

set_option Elab.async false
set_option linter.all false
set_option maxRecDepth 100000
set_option maxHeartbeats 2000000
/-! Nf44: owned comprehensions with effects; list(reversed(xs)). -/
namespace NF
open PySem PySem.Spec PyProof.Rows L2
open Data (toD)
section
variable {X : Cx} {F : Fr} {L : List (Option Asr)} {p : Addr} {O : List Own} {α β γ s ι : Type} [Rep α] [Rep β] [Rep γ] [Rep s] [OwR ι] {xs : ι}
theorem comp_coreEN {g : TG} {vs : List Nat} {bd : α → List (Option Asr) → List (Option Asr)} {m : Res (List α × ι)} {P : α → ι → Res (Bool × ι)} {f : α → ι → Res (β × ι)} {wi : TI} (tt : TT) (te : TE)
    (hi : wi = tIE F L p xs O m) (ht : TgOk F.K F.mg g vs bd) (htt : tt = fun σ H Q => ∃ a D ds xs', tEB F.nox (bd a (wipeL L vs)) p xs' (ow (s := List β) F.K F.mg D ds :: O) (P a xs') σ H Q) (hte : te = fun σ H Q => ∃ a D ds xs', tE true F.nox (bd a (wipeL L vs)) p xs' (ow (s := List β) F.K F.mg D ds :: O) (f a xs') σ H Q) (σ : L2.St) (H : Hp) (Q : VK)
    (h : tEN F L p xs O (m.bind fun r => need (r.1.length ≤ sizeLine) (filtE (fun a x => (P a x).quiet) (fun a x => (f a x).quiet) r.1 r.2)) σ H Q) : tLc wi g tt te vs σ H Q := by
  subst hi
  obtain ⟨g0, q⟩ := h
  rw [out_bind] at q
  refine ⟨g0, q.mono (fun r k J H1 S g1 s1 hS => ?_) fun _ z => z⟩
  obtain ⟨as, xs1⟩ := r
  rw [out_need] at k
  obtain ⟨hsz, k⟩ := k
  have hsz : as.length ≤ sizeLine := hsz
  intro D hD
  have hD0 : F.H0 D = none := by
    cases z : F.H0 D with
    | none => rfl
    | some o => exact (g1.go.live D (by rw [z]; simp) hD).elim
  refine lc_it S.walk (g := g) (tt := tt) (te := te) (vs := vs) (σ := σ) (H1 := H1) (D := D) (Qd := fun H => Q (.ref D) H)
    (fun i H => ∃ (ds : List β) (vd : List V) (xs' : ι), H D = some (.lst vd) ∧ ds.length + (as.length - i) ≤ sizeLine ∧ G F L (ow F.K F.mg p xs' :: O) σ (less H [D]) ∧ Reps F.K F.mg (rg F (ow F.K F.mg p xs' :: O) (less H [D])) vd ds ∧ KeepBut p H1 (less H [D]) ∧ S.src (rg F (ow F.K F.mg p xs' :: O) (less H [D])) ∧
      Out F (filtE (fun a x => (P a x).quiet) (fun a x => (f a x).quiet) (as.drop i) xs') (fun r => ∀ D' H', G F L (ow F.K F.mg D' (ds ++ r.1) :: ow F.K F.mg p r.2 :: O) σ H' → Q (.ref D') H') (fun _ => False))
    ⟨[], [], xs1, upd_same, ?_, ?_, .nil, ?_, ?_, ?_⟩ ?_ ?_ ?_
  · show 0 + (as.length - 0) ≤ sizeLine
    omega
  · rw [show less (upd H1 D (.lst [])) [D] = H1 from less_upd1 hD]; exact g1
  · rw [show less (upd H1 D (.lst [])) [D] = H1 from less_upd1 hD]; exact .of (Same.refl _)
  · rw [show less (upd H1 D (.lst [])) [D] = H1 from less_upd1 hD]; exact hS
  · rw [List.drop_zero]
    have hk : Out F (filtE (fun a x => (P a x).quiet) (fun a x => (f a x).quiet) as xs1) _ _ := k
    have hnb := filtE_noerr P f as xs1
    cases e : filtE (fun a x => (P a x).quiet) (fun a x => (f a x).quiet) as xs1 with
    | ok r => rw [e] at hk; exact fun D' H' g' => hk D' H' g'
    | err c fs => exact (hnb c fs e).elim
    | bad => rw [e] at hk; exact hk.elim
  · rintro i H _ ⟨ds, vd, xs', h1, _, _, _, _, h6, _⟩
    exact S.mono (less_same.trans less_same) h6
  · rintro i x H H' hi ⟨ds, vd, xs', h1, hl, gi, hr, hkb, hsrc, q2⟩ y
    have hi : i < as.length := hi
    have ha : as[i]? = some as[i] := List.getElem?_eq_getElem hi
    have eHD : Same (less H [D]) H := less_same
    have hDn : less H [D] D = none := less_in List.mem_cons_self
    have go2 : GO F (ow F.K F.mg D ds :: ow F.K F.mg p xs' :: O) H := go_new gi (gi.go.grow eHD) eHD hDn h1 (hr.mono fun a o z => by
      have hz : a ≠ D := fun e => by
        subst e
        have := less_same a o z
        rw [hDn] at this; cases this
      rw [less_one hz]
      exact rg_grow eHD a o z)
    have go3 : GO F (ow F.K F.mg p xs' :: ow F.K F.mg D ds :: O) H := go2.perm (List.Perm.swap _ _ _)
    have sReg : Same (rg F (ow F.K F.mg p xs' :: O) (less H [D])) (rg F (ow F.K F.mg p xs' :: ow F.K F.mg D ds :: O) H) := fun a o z => by
      have hz : a ≠ D := fun e => by
        subst e
        have := less_same a o z
        rw [hDn] at this; cases this
      unfold rg at z ⊢
      by_cases hb : a ∈ addrs (ow F.K F.mg p xs' :: O) ++ F.A
      · rw [less_in hb] at z; cases z
      · rw [less_out hb, less_one hz] at z
        rw [less_out]
        · exact z
        · intro w
          rcases List.mem_append.mp w with w | w
          · rcases List.mem_cons.mp (show a ∈ p :: D :: addrs O from w) with e | w
            · exact hb (List.mem_append_left _ (by rw [e]; exact List.mem_cons_self))
            · rcases List.mem_cons.mp w with e | w
              · exact hz e
              · exact hb (List.mem_append_left _ (List.mem_cons_of_mem _ w))
          · exact hb (List.mem_append_right _ w)
    obtain ⟨s2, yy⟩ := S.ylds i H x H' y
    have g2 : G F L (ow F.K F.mg p xs' :: ow F.K F.mg D ds :: O) σ H := ⟨L2.Paired.mapP gi.slots fun _ _ z => z.mono sReg, go3⟩
    have g3 := g2.grow s2
    have rx : rp F (rg F (ow F.K F.mg p xs' :: ow F.K F.mg D ds :: O) H') x as[i] := yy _ (fun a ha z => go3.out z ha) (S.mono sReg hsrc) _ ha
    have gn : G F.nox (wipeL L vs) (ow F.K F.mg p xs' :: ow F.K F.mg D ds :: O) (wipe σ vs) H' := ⟨wipe_ok g3.slots vs, g3.go.nox⟩
    refine ht x as[i] (wipe σ vs) H' (rg F (ow F.K F.mg p xs' :: ow F.K F.mg D ds :: O) H') (wipeL L vs) _ less_same rx gn.slots fun σ2 e2 hs2 => ?_
    refine ⟨e2.trans (wipe_wipe σ vs), ?_⟩
    rw [List.drop_eq_getElem_cons hi] at q2
    rw [show filtE (fun a x => (P a x).quiet) (fun a x => (f a x).quiet) (as[i] :: List.drop (i + 1) as) xs' = ((P as[i] xs').quiet).bind fun c => if c.1 then ((f as[i] c.2).quiet).bind fun y => (filtE (fun a x => (P a x).quiet) (fun a x => (f a x).quiet) (List.drop (i + 1) as) y.2).bind fun ys => .ok (y.1 :: ys.1, ys.2) else filtE (fun a x => (P a x).quiet) (fun a x => (f a x).quiet) (List.drop (i + 1) as) c.2 from rfl, out_bind] at q2
    have gb : G F.nox (bd as[i] (wipeL L vs)) (ow F.K F.mg p xs' :: ow F.K F.mg D ds :: O) σ2 H' := ⟨hs2, gn.go⟩
    -- what stood at the turn's start stands at its end
    have onw : ∀ {H'' : Hp} {xs'' : ι}, KeepBut p H' H'' → GO F.nox (ow F.K F.mg p xs'' :: ow F.K F.mg D ds :: O) H'' → (H'' D = some (.lst vd) ∧ G F L (ow F.K F.mg p xs'' :: O) σ (less H'' [D]) ∧ Reps F.K F.mg (rg F (ow F.K F.mg p xs'' :: O) (less H'' [D])) vd ds ∧ KeepBut p H1 (less H'' [D]) ∧ S.src (rg F (ow F.K F.mg p xs'' :: O) (less H'' [D]))) := fun {H'' xs''} kb gg => by
      have nd := List.nodup_cons.mp (show (p :: D :: addrs O).Nodup from gg.nd)
      have hpD : D ≠ p := fun e => nd.1 (by rw [← e]; exact List.mem_cons_self)
      have gg' : GO F (ow F.K F.mg p xs'' :: ow F.K F.mg D ds :: O) H'' := ⟨gg.objs, gg.nd, gg.own, gg.keep, gg.live, gg.hid, gg.apart, gg.facts⟩
      have sR : Same (rg F (ow F.K F.mg p xs' :: O) (less H [D])) (rg F (ow F.K F.mg p xs'' :: O) (less H'' [D])) := fun a o z => by
        have hz : a ≠ D := fun e => by
          subst e
          have := less_same a o z
          rw [hDn] at this; cases this
        unfold rg at z ⊢
        by_cases hb : a ∈ addrs (ow F.K F.mg p xs' :: O) ++ F.A
        · rw [less_in hb] at z; cases z
        · rw [less_out hb, less_one hz] at z
          rw [less_out (show a ∉ addrs (ow F.K F.mg p xs'' :: O) ++ F.A from hb), less_one hz]
          exact kb a o (s2 a o z) fun e => hb (List.mem_append_left _ (by rw [e]; exact List.mem_cons_self))
      refine ⟨kb D _ (s2 D _ h1) hpD, ⟨L2.Paired.mapP gi.slots fun _ _ z => z.mono sR, gg'.without hD0⟩, hr.mono sR, fun a o z hp => ?_, S.mono sR hsrc⟩
      have z1 := hkb a o z hp
      have hz : a ≠ D := fun e => by subst e; rw [hDn] at z1; cases z1
      rw [less_one hz] at z1 ⊢
      exact kb a o (s2 a o z1) hp
    subst htt hte
    refine ⟨as[i], D, ds, xs', gb, out_quiet (q2.mono (fun c qc H3 g4 s3 => ?_) fun _ z => z)⟩
    dsimp only at qc g4 ⊢
    cases hc : c.1 with
    | false =>
      rw [hc] at qc
      obtain ⟨o1, o2, o3, o4, o5⟩ := onw s3 g4.go
      exact ⟨ds, vd, c.2, o1, by omega, o2, o3, o4, o5, qc⟩
    | true =>
      rw [hc] at qc
      simp only [if_true] at qc
      rw [out_bind] at qc
      refine ⟨as[i], D, ds, c.2, g4, out_quiet (qc.mono (fun y qy v H4 g5 s4 r5 => ?_) fun _ z => z)⟩
      obtain ⟨o1, o2, o3, o4, o5⟩ := onw (s3.trans s4) g5.go
      have lenv : vd.length = ds.length := hr.length
      have e5 : less (upd H4 D (.lst (vd ++ [v]))) [D] = less H4 [D] := by
        funext a
        by_cases hz : a = D
        · subst hz; rw [less_in List.mem_cons_self, less_in List.mem_cons_self]
        · rw [less_one hz, less_one hz, upd_ne hz]
      refine ⟨vd, o1, by rw [lenv]; omega, ds ++ [y.1], vd ++ [v], y.2, upd_same, by rw [List.length_append, List.length_singleton]; omega, ?_, ?_, ?_, ?_, ?_⟩
      · rw [e5]; exact o2
      · rw [e5]
        exact reps_append o3 (.cons (Rep.mono rg_without r5) .nil)
      · rw [e5]; exact o4
      · rw [e5]; exact o5
      · rw [out_bind] at qy
        exact qy.mono (fun ys kk D' H' g' => kk D' H' (by rw [List.append_assoc] at g'; exact g')) fun _ z => z
  · rintro H ⟨ds, vd, xs', h1, _, gi, hr, hkb, _, q2⟩
    rw [List.drop_length] at q2
    have hDn : less H [D] D = none := less_in List.mem_cons_self
    have eHD : Same (less H [D]) H := less_same
    refine q2 D H ?_
    rw [List.append_nil]
    refine ⟨L2.Paired.mapP gi.slots fun _ _ z => z.mono (rg_new rfl eHD hDn), go_new gi (gi.go.grow eHD) eHD hDn h1 (hr.mono fun a o z => ?_)⟩
    have hz : a ≠ D := fun e => by
      subst e
      have := less_same a o z
      rw [hDn] at this; cases this
    rw [less_one hz]
    exact rg_grow eHD a o z
where
  less_upd1 {H : Hp} {D : Addr} {o : HO} (h : H D = none) : less (upd H D o) [D] = H := by
    funext a
    by_cases hz : a = D
    · subst hz; rw [less_in List.mem_cons_self, h]
    · rw [less_one hz, upd_ne hz]
  filtE_noerr (P : α → ι → Res (Bool × ι)) (f : α → ι → Res (β × ι)) : ∀ (as : List α) (x : ι) (c : Str) (fs : List (Str × PyData)), filtE (fun a x => (P a x).quiet) (fun a x => (f a x).quiet) as x ≠ .err c fs
    | [], _, _, _, z => nomatch z
    | a :: as, x, c, fs, z => by
      rw [show filtE (fun a x => (P a x).quiet) (fun a x => (f a x).quiet) (a :: as) x = ((P a x).quiet).bind fun c => if c.1 then ((f a c.2).quiet).bind fun y => (filtE (fun a x => (P a x).quiet) (fun a x => (f a x).quiet) as y.2).bind fun ys => .ok (y.1 :: ys.1, ys.2) else filtE (fun a x => (P a x).quiet) (fun a x => (f a x).quiet) as c.2 from rfl] at z
      cases e : P a x with
      | err _ _ => rw [e] at z; cases z
      | bad => rw [e] at z; cases z
      | ok r =>
        rw [e] at z
        change (if r.1 = true then ((f a r.2).quiet).bind (fun y => (filtE (fun a x => (P a x).quiet) (fun a x => (f a x).quiet) as y.2).bind fun ys => .ok (y.1 :: ys.1, ys.2)) else filtE (fun a x => (P a x).quiet) (fun a x => (f a x).quiet) as r.2) = _ at z
        cases hc : r.1 with
        | false =>
          rw [hc, if_neg Bool.false_ne_true] at z
          exact filtE_noerr P f as r.2 c fs z
        | true =>
          rw [hc, if_pos rfl] at z
          cases e2 : f a r.2 with
          | err _ _ => rw [e2] at z; cases z
          | bad => rw [e2] at z; cases z
          | ok y =>
            rw [e2] at z
            change ((filtE (fun a x => (P a x).quiet) (fun a x => (f a x).quiet) as y.2).bind fun ys => .ok (y.1 :: ys.1, ys.2)) = _ at z
            cases e3 : filtE (fun a x => (P a x).quiet) (fun a x => (f a x).quiet) as y.2 with
            | ok ys => rw [e3] at z; cases z
            | err c' fs' => exact filtE_noerr P f as y.2 c' fs' e3
            | bad => rw [e3] at z; cases z
end
section
variable {X : Cx} {F : Fr} {L : List (Option Asr)} {O : List Own}
variable {p : Addr} {α β ι : Type} [Rep α] [Rep β] [OwR ι] {xs : ι} {tg iter elt : Expr} {ifs : List Expr} {scope : Scope} {own : List (Str × Nat)} {y : Str} {pos p1 pos2 : Pos} {g : TG} {bd : α → List (Option Asr) → List (Option Asr)} {m : Res (List α × ι)} {P : α → ι → Res (Bool × ι)} {f : α → ι → Res (β × ι)}
theorem s_ownLcE (i : Nat) (hc : X.calm = true) (hN : X.N.Nodup) (hi : PI X tg iter (tIE F L p xs O m)) (hb : BlkOk X.N X.env.scope scope own)
    (hok : TgOk F.K F.mg g (own.map (·.2)) bd) (ht : ∀ (s : Shared) (H : Hp) (C : Addr) (cl : List (Str × Addr)) (fp : List Addr), Tg (X.blk s H scope (compEnvC scope cl C X.env) fp) F.K F.mg tg g (own.map (·.2)) bd)
    (hp : ∀ (s : Shared) (H : Hp) (C : Addr) (cl : List (Str × Addr)) (fp : List Addr) (a : α) (D : Addr) (ds : List β) (xs' : ι), PTs (X.blk s H scope (compEnvC scope cl C X.env) fp) ifs (tEB F.nox (bd a (wipeL L (own.map (·.2)))) p xs' (ow F.K F.mg D ds :: O) (P a xs')))
    (he : ∀ (s : Shared) (H : Hp) (C : Addr) (cl : List (Str × Addr)) (fp : List Addr) (a : α) (D : Addr) (ds : List β) (xs' : ι), PE (X.blk s H scope (compEnvC scope cl C X.env) fp) elt (tE true F.nox (bd a (wipeL L (own.map (·.2)))) p xs' (ow F.K F.mg D ds :: O) (f a xs')))
    (hy : X.N[i]? = some y := by rfl) (hyl : X.env.scope.names.lookup y = some .local := by rfl) (hk : X.env.scope.kind = .function := by rfl) (hl : (p1.line == pos.line) = true := by rfl) (ha : (scope.names.any fun (n, k) => n == y && (k == .local || k == .cell)) = false := by rfl) (hpl : pos2.line = pos.line := by rfl)
    (hf : ∀ x, foldedSetIterable iter X.env x = pure x := by intro _; rfl) :
    PS X (.Assign [.Name y p1] (.ListComp elt [{ target := tg, iter := iter, ifs := ifs, is_async := 0 }] scope pos) pos2) (tNp F L (ow F.K F.mg p xs :: O) (m.bind fun r => need (r.1.length ≤ sizeLine) (filtE (fun a x => (P a x).quiet) (fun a x => (f a x).quiet) r.1 r.2)) (fun q _ => L.set i (rf q)) (fun q r => ow F.K F.mg q r.1 :: ow F.K F.mg p r.2 :: O)) := by
  refine ps_imp (ps_setLc hc hN hy hyl (sw_true hk hyl hl ha) hi hb (fun s H C cl fp => (ht s H C cl fp).pg) (fun s H C cl fp => pts_ex fun a => pts_ex fun D => pts_ex fun ds => pts_ex fun xs' => hp s H C cl fp a D ds xs') (fun s H C cl fp => pe_ex fun a => pe_ex fun D => pe_ex fun ds => pe_ex fun xs' => he s H C cl fp a D ds xs') hf) fun D σ H ⟨g0, q⟩ => ?_
  refine comp_coreEN _ _ rfl hok rfl rfl σ H (fun x H1 => gName i x σ H1 D.nx) ⟨g0, q.mono (fun r k q' H1 g1 => ?_) fun _ z => z⟩
  exact k q' _ _ ⟨set_ok (p := rf q') rfl i g1.slots, g1.go⟩
end
/-! ### list(reversed(xs)) -/
section
variable {prog : Program} {w : World} {A : Around} {E : Value → Shared → Prop} {s : Shared}
theorem extend_rev {S it l : Addr} {items : Array Value} {c0 : Nat} {res : Value} {R : Result → Shared → Prop} (hh : A.handled = none) (hS : s.heap.get? S = some { cls := .type "list", data := .seq #[] c0 }) (hit : s.heap.IsRevIter it l ((items.size : Int) - 1)) (hl : s.heap.IsList l items) (hSi : S ≠ it) (hSl : S ≠ l) (hne : l ≠ it) (hn : items.size ≤ sizeLine)
    (hR : ∀ (h' : Heap) (tk : Nat) (acc : Array Value) (c' : Nat), (∀ b o, b ≠ it → b ≠ S → s.heap.get? b = some o → h'.get? b = some o) → h'.get? S = some { cls := .type "list", dict := none, data := .seq acc c', slots := #[] } → ItemsOf (fun i v => items[items.size - 1 - i]? = some v) acc items.size → R (.ok (.ret res)) { s with heap := h', toks := tk }) :
    wpAny (model prog w) A.in1 (Builtin.List.listExtendWith (.ref S) (.ref it) res)
      (fun fin s' => match fin with | .done f => R (.ok f) s' | .again c' => c'.quiet = true ∧ codeAny (model prog w) A c' R s') (fun e s' => R (.error e) s') s := by
  have W := (Walks.listRev (prog := prog) (w := w) (A := A.in1) hh it l hne items).toS
  have hSf : S ∉ [it, l] := by simp only [List.mem_cons, List.not_mem_nil, or_false, not_or]; exact ⟨hSi, hSl⟩
  have hT : s.TypeIs (.ref it) "list_reverseiterator" := hit.typeIs
  have h1 : Builtin.List.listSameRef (.ref S) (.ref it) = false := by simp [Builtin.List.listSameRef, hSi]
  unfold Builtin.List.listExtendWith; refine wpAny_bind (wpAny_typeOf hT ?_)
  rw [if_neg (by rw [h1]; decide)]; refine wpAny_bind (wpAny_pyIter_revIter hit (wpAny_bind (wpAny_holding ?_)))
  unfold Builtin.List.listLengthHint; refine wpAny_bind (wpAny_specialOf hT RT.nolen_lri ?_)
  refine (?_ : wpAny _ A.in1 (specialOf (Value.ref it) (Str.ofString "__length_hint__") >>= _) _ _ _); refine wpAny_bind (wpAny_specialOf hT RT.hint_lri ?_)
  generalize hid : ("list_reverseiterator.__length_hint__" : String) = id0; wp_delta
  rw [show splitId id0 = some ("list_reverseiterator", "__length_hint__") from by subst hid; decide +kernel]; subst hid
  refine wpAny_bind (wpAny_isInstance (b := true) hT (by rw [isSubtype_type]; kernel_rfl) (wpAny_pure ?_))
  rw [if_neg (by decide)]
  have e0 : ((items.size : Nat) : Int) - 1 - ((0 : Nat) : Int) = (items.size : Int) - 1 := by omega
  refine wpAny_pure ⟨plainId_quiet F.plain_extend_loop _, codeAny_extend_loopS W hn _ hSf res items.size 0 s _ _ rfl (Nat.zero_le _) ⟨Nat.zero_le _, by rw [e0]; exact hit, hl⟩ hS (ItemsOf.nil _) fun s' acc' c' hm hS' hacc => ?_⟩
  rw [Moved.eq_with hm]
  refine hR s'.heap s'.toks acc' c' (fun b o hb hbS e => hm.heap b o (fun hmem => ?_) e) hS' hacc
  rcases List.mem_cons.mp hmem with e' | hmem
  · exact hbS e'
  · exact hb (List.mem_singleton.mp hmem)
theorem call_list_rev {it l : Addr} {items : Array Value} {Q : Value → Shared → Prop} (hh : A.handled = none) (hit : s.heap.IsRevIter it l ((items.size : Int) - 1)) (hl : s.heap.IsList l items) (hne : l ≠ it) (hn : items.size ≤ sizeLine)
    (hQ : ∀ (h' : Heap) (tk : Nat) (acc : Array Value) (c' : Nat), (∀ b o, b ≠ it → s.heap.get? b = some o → h'.get? b = some o) → h'.get? s.heap.objs.size = some { cls := .type "list", dict := none, data := .seq acc c', slots := #[] } → ItemsOf (fun i v => items[items.size - 1 - i]? = some v) acc items.size → Q (.ref s.heap.objs.size) { s with heap := h', toks := tk }) :
    wpAny (model prog w) A (call (.type "list") [.ref it]) Q E s := by
  obtain ⟨oi, hoi, _⟩ := id hit
  obtain ⟨ol, hol, hol2⟩ := id hl
  have hSi : s.heap.objs.size ≠ it := Nat.ne_of_gt (Heap.lt_size hoi)
  have hSl : s.heap.objs.size ≠ l := Nat.ne_of_gt (Heap.lt_size hol)
  refine callType_codes (Q₁ := fun obj s₁ => obj = .ref s.heap.objs.size ∧ s₁ = { s with heap := s.heap.push { cls := .type "list", data := .seq #[] } }) F.called_list (F.typeCall_list_1 _) F.entry_list_init (code_list_new _ ⟨rfl, rfl⟩) fun obj s₁ h₁ => ?_
  obtain ⟨rfl, rfl⟩ := h₁
  have hS : (s.heap.push { cls := .type "list", data := .seq #[] }).get? s.heap.objs.size = some { cls := .type "list", data := .seq #[] } := Heap.get?_push_size _ rfl
  refine ⟨⟨_, hS, rfl⟩, F.args_list_init_2 _ _, ?_⟩
  refine (?_ : wpAny _ _ (do let old ← Builtin.List.listItems (.ref s.heap.objs.size); Builtin.List.listUpdate (.ref s.heap.objs.size) (fun _ => #[]); letGo old.toList.reverse; Builtin.List.listExtendWith (.ref s.heap.objs.size) (.ref it) .none) _ _ _)
  refine wpAny_bind ?_; unfold Builtin.List.listItems; refine wpAny_bind (wpAny_seqItems hS rfl (wpAny_pure ?_))
  refine (?_ : wpAny _ _ (updateSeq s.heap.objs.size (fun _ => #[]) >>= fun _ => letGo (#[] : Array Value).toList.reverse >>= fun _ => Builtin.List.listExtendWith (.ref s.heap.objs.size) (.ref it) .none) _ _ _)
  refine wpAny_bind (wpAny_updateSeq hS rfl ?_)
  have hS2 := Heap.get?_update_self (Obj.mapSeq (fun _ => (#[] : Array Value))) hS rfl
  have oth : ∀ b o, b ≠ s.heap.objs.size → s.heap.get? b = some o → ((s.heap.push { cls := .type "list", data := .seq #[] }).update s.heap.objs.size (Obj.mapSeq (fun _ => (#[] : Array Value)))).get? b = some o := fun b o hb e => by
    rw [Heap.get?_update_ne _ _ _ _ hb]
    exact Heap.get?_push_of_some _ e
  have hl2 : ((s.heap.push { cls := .type "list", data := .seq #[] }).update s.heap.objs.size (Obj.mapSeq (fun _ => (#[] : Array Value)))).IsList l items := ⟨ol, oth _ _ (Ne.symm hSl) hol, hol2⟩
  have hit2 : ((s.heap.push { cls := .type "list", data := .seq #[] }).update s.heap.objs.size (Obj.mapSeq (fun _ => (#[] : Array Value)))).IsRevIter it l ((items.size : Int) - 1) := hit.at fun o e => oth _ _ (Ne.symm hSi) e
  refine wpAny_bind (wpAny_letGo ?_)
  refine extend_rev (s := { s with heap := ((s.heap.push { cls := .type "list", data := .seq #[] }).update s.heap.objs.size (Obj.mapSeq (fun _ => (#[] : Array Value)))) }) (items := items) hh hS2 hit2 hl2 hSi hSl hne hn fun h' tk acc c' k1 hS' hacc => ?_
  exact ⟨rfl, hQ h' tk acc c' (fun b o hb e => k1 b o hb (Nat.ne_of_lt (Heap.lt_size e)) (oth b o (Nat.ne_of_lt (Heap.lt_size e)) e)) hS' hacc⟩
end
section
variable {X : Cx}
def tLstRev (K : Fg) (te : TE) : TE := fun σ H Q => te σ H fun v H1 => ∃ (a : Addr) (xs : List V), v = .ref a ∧ SqL K H1 a xs ∧ ∀ q, H1 q = none → Q (.ref q) (upd H1 q (.lst xs.reverse))
theorem pe_lstRev {e : Expr} {te : TE} {p p2 pos pos2 : Pos} (hc : X.calm = true) (hm : X.mg "list" = none) (hm2 : X.mg "reversed" = none) (he : PE X e te) (hg : Gl X "list" := by rfl) (hg2 : Gl X "reversed" := by rfl)
    (hs : starEach [e] X.env = (false, eval e X.env) :: starEach [] X.env := by rfl) (hs2 : starEach [.Call (.Name "reversed" p2) [e] [] pos2] X.env = (false, eval (.Call (.Name "reversed" p2) [e] [] pos2) X.env) :: starEach [] X.env := by rfl) :
    PE X (.Call (.Name "list" p) [.Call (.Name "reversed" p2) [e] [] pos2] [] pos) (tLstRev X.K te) := ⟨fun pins s σ H Q I h => by
  refine Call_ (ld_blt I hg hm boot_list (PyProof.Rows.callWith_type1 (args_cons (Call_ (ld_blt I hg2 hm2 PyProof.Rows.boot_reversed (PyProof.Rows.callWith_type1 (args_cons (thn (he.run pins s σ H _ I h) fun u s1 ⟨v, H1, I1, r1, a, xs, ev, hq, q⟩ => args_nil ?_) hs) hs rfl))) hs2) hs2 rfl))
  subst ev
  obtain rfl : u = Value.ref a := r1
  obtain ⟨its, rv, pl, hz⟩ := I1.list hq
  refine call_reversed_list pl.isList (args_nil ?_)
  have hl := pl.isList
  obtain ⟨ol, hol, _⟩ := id hl
  have hne : a ≠ s1.heap.objs.size := Nat.ne_of_lt (Heap.lt_size hol)
  have hn : its.toArray.size ≤ sizeLine := by rw [List.size_toArray, ← rv.length]; exact hz
  have k0 : ∀ b o, s1.heap.get? b = some o → (s1.heap.push (revObj a ((its.toArray.size : Int) - 1))).get? b = some o := fun b o e => Heap.get?_push_of_some _ e
  refine call_list_rev (s := { s1 with heap := s1.heap.push (revObj a ((its.toArray.size : Int) - 1)) }) (I1.ok.hd hc) ⟨_, Heap.get?_push_size _ rfl, rfl, rfl⟩ (hl.push _) hne hn fun h' tk acc c' hk hS hi => ?_
  have z : (s1.heap.push (revObj a ((its.toArray.size : Int) - 1))).objs.size = s1.heap.objs.size + 1 := Heap.size_push ..
  have kk : ∀ b o, s1.heap.get? b = some o → h'.get? b = some o := fun b o e => hk b o (Nat.ne_of_lt (Heap.lt_size e)) (k0 b o e)
  have le : s1.heap.objs.size ≤ (s1.heap.push (revObj a ((its.toArray.size : Int) - 1))).objs.size := by rw [z]; exact Nat.le_succ _
  refine ⟨.ref _, upd H1 (s1.heap.push (revObj a ((its.toArray.size : Int) - 1))).objs.size (.lst xs.reverse), I1.laid (t' := tk) kk le (show ObjOk X.prog X.w _ _ _ (.lst xs.reverse) from ⟨by rw [List.length_reverse]; exact hz, acc.toList, c', RT.vals_rev rv hi, ?_⟩), rfl, q _ (I1.hok.fresh le)⟩
  rw [Array.toArray_toList]
  exact hS⟩
variable {F : Fr} {L : List (Option Asr)} {O : List Own} {α : Type} [Rep α] {b : Bool}
theorem f_listRev {e : Expr} {p p2 pos pos2 : Pos} {m : Res (List α)} (hc : X.calm = true) (hm : X.mg "list" = none) (hm2 : X.mg "reversed" = none) (he : PE X e (tP b F L O m)) (hg : Gl X "list" := by rfl) (hg2 : Gl X "reversed" := by rfl) (hK : X.K = F.K := by rfl)
    (hs : starEach [e] X.env = (false, eval e X.env) :: starEach [] X.env := by rfl) (hs2 : starEach [.Call (.Name "reversed" p2) [e] [] pos2] X.env = (false, eval (.Call (.Name "reversed" p2) [e] [] pos2) X.env) :: starEach [] X.env := by rfl) :
    PE X (.Call (.Name "list" p) [.Call (.Name "reversed" p2) [e] [] pos2] [] pos) (tF b F L O (m.bind fun xs => .ok xs.reverse)) := pe_imp (pe_lstRev hc hm hm2 he hg hg2 hs hs2) fun σ H Q ⟨g, q⟩ => by
  rw [out_bind] at q
  refine ⟨g, q.mono (fun xs k v H1 g1 s1 r1 => ?_) fun _ z => z⟩
  obtain ⟨p, vs, rfl, h2, h3⟩ := r1
  have kk : KF α b F L O σ H Q xs.reverse := k
  refine ⟨p, vs, rfl, .of (rgn_sub _ _ h2), kf_new g1 (KF.mono s1 kk) ?_⟩
  exact reps_rev h3
where
  reps_rev {K : Fg} {mg : MG} {H : Hp} : ∀ {vs : List V} {as : List α}, Reps K mg H vs as → Reps K mg H vs.reverse as.reverse
    | _, _, .nil => .nil
    | v :: vs, a :: as, .cons r t => by
      rw [List.reverse_cons, List.reverse_cons]
      exact reps_append (reps_rev t) (.cons r .nil)
end
/-! ### tuple(x), list(x) of an owned list -/
section
variable {X : Cx} {F : Fr} {L : List (Option Asr)} {O : List Own} {α : Type} [Rep α] {e : Expr}
def tOV (F : Fr) (L : List (Option Asr)) (O : List Own) (as : List α) : TE := fun σ H Q => G F L O σ H ∧ ∀ p vs, H p = some (.lst vs) → Reps F.K F.mg (rg F O H) vs as → Q (.ref p) H
theorem n_ownV (i : Nat) {x : Str} {pos : Pos} {p : Addr} {as : List α} (hL : L[i]? = some (rf p)) (hO : ow F.K F.mg p as ∈ O) (hN : X.N[i]? = some x := by rfl) (hv : Vis X.env.scope x := by first | exact Or.inl rfl | exact Or.inr (Or.inl rfl) | exact Or.inr (Or.inr rfl)) (hd : (x == ("__debug__" : Str)) = false := by decide)
    (hcd : (x == ("__classdict__" : Str)) = false := by decide) : PE X (.Name x pos) (tOV F L O as) := pe_imp (pe_var hN hv hd hcd) fun σ H Q ⟨g, q⟩ => by
  obtain ⟨v, h1, h2⟩ := g.slot hL
  obtain ⟨o, h3, vs, h4, h5⟩ := g.go.objs _ hO
  subst h4
  have h2' : v = V.ref p := h2
  subst h2'
  exact ⟨_, h1, q p vs h3 h5⟩
theorem f_listOv {as : List α} {es} (h : PE X e (tCB es (tCons (tOV F L O as) tNil))) (er : es = fun xs H Q => ∃ p ys, xs = [V.ref p] ∧ (SqL F.K H p ys ∨ SqT F.K H p ys) ∧ ∀ l, H l = none → Q (.ref l) (upd H l (.lst ys))) : PE X e (tF true F L O (.ok as)) := pe_imp h fun σ H Q ⟨g, q⟩ => by
  subst er
  refine ⟨g, fun p vs h1 h2 => ⟨p, vs, rfl, .inl (.of h1), ?_⟩⟩
  have kk : KF α true F L O σ H Q as := q
  exact kf_new (b := true) g kk h2
theorem n_tupleOv {as : List α} {es} (h : PE X e (tCB es (tCons (tOV F L O as) tNil))) (er : es = fun xs H Q => ∃ p ys, xs = [V.ref p] ∧ ((SqL F.K H p ys ∧ ∀ l, H l = none → Q (.ref l) (upd H l (.tup ys))) ∨ SqT F.K H p ys ∧ Q (.ref p) H)) : PE X e (tP true F L O (.ok (Tp.mk as))) := pe_imp h fun σ H Q ⟨g, q⟩ => by
  subst er
  exact ⟨g, fun p vs h1 h2 => ⟨p, vs, rfl, .inl ⟨.of h1, fun l hl => q _ _ (g.grow (same_upd hl)) (same_upd hl) ⟨l, vs, rfl, .of (rgn_new (b := true) g (same_upd hl) hl upd_same), h2.mono (rgn_grow (b := true) (same_upd hl))⟩⟩⟩⟩
end
end NF

set_option Elab.async false
set_option linter.all false
set_option maxRecDepth 100000
set_option maxHeartbeats 2000000
/-! Nf45: a generator's body when its consumer does other things in between: what lies at cp changes while it sleeps; loops, yield. -/
namespace NG
open PySem PySem.Spec PyProof.Rows L2 GenW
/-- while it sleeps only what lies in cp changes -/
structure Slp (cp : List Addr) (s s' : Shared) : Prop where
  os : s'.os = s.os
  bare : AllBare s'.gens
  keep : ∀ b o, b ∉ cp → s.heap.get? b = some o → s'.heap.get? b = some o
  have_ : ∀ b ∈ cp, ∃ o, s'.heap.get? b = some o ∧ ∀ v, o.data ≠ .cell v
/-- the consumer's things as they were when it was woken -/
def Cv (cp : List Addr) (s₀ : Shared) (cv : List (Addr × Obj)) : Prop := cv.map (·.1) = cp ∧ ∀ p ∈ cv, s₀.heap.get? p.1 = some p.2
theorem cv_mem {cp : List Addr} {s₀ : Shared} {cv : List (Addr × Obj)} (h : Cv cp s₀ cv) {b : Addr} : b ∈ cp ↔ ∃ p ∈ cv, p.1 = b := by
  rw [← h.1, List.mem_map]
theorem cv_of {cp : List Addr} {s : Shared} (h : ∀ b ∈ cp, ∃ o, s.heap.get? b = some o ∧ ∀ v, o.data ≠ .cell v) : Cv cp s (pinsAt cp s.heap) := by
  refine ⟨?_, fun p hp => (of_pinsAt hp).2⟩
  unfold pinsAt
  induction cp with
  | nil => rfl
  | cons b r ih =>
    obtain ⟨o, e, _⟩ := h b List.mem_cons_self
    rw [List.filterMap_cons, e]
    show b :: List.map _ (List.filterMap _ r) = b :: r
    rw [ih fun c hc => h c (List.mem_cons_of_mem _ hc)]
/-- the consumer's things are younger than the generator's call, none of its frame's -/
def Off (X : Cx) (cp : List Addr) : Prop := ∀ b ∈ cp, X.s_0.heap.objs.size ≤ b ∧ b ≠ X.env.locals ∧ ∀ x c, X.env.cells.lookup x = some c → c ≠ b
theorem woken {X : Cx} {cp : List Addr} {cv ip : List (Addr × Obj)} {σ : L2.St} {H : Hp} {s₀ s s' : Shared} (hv : Cv cp s₀ cv) (hA : Off X cp) (hpn : ∀ p ∈ X.pn, p.1 ∉ cp) (hip : ∀ p ∈ ip, p.1 ∉ cp) (I : Inv X (cv ++ ip) σ H s) (z : Slp cp s s') : Inv X (pinsAt cp s'.heap ++ ip) σ H s' := by
  have at_ : ∀ b ∈ cp, H b = none ∧ b ≠ X.env.locals ∧ b ∉ X.fs := fun b hb => by
    obtain ⟨p, hp, rfl⟩ := (cv_mem hv).mp hb
    have q := I.pin p (List.mem_append_right _ (List.mem_append_left _ hp))
    exact ⟨q.2.1, q.2.2.1, q.2.2.2.1⟩
  have I0 : Inv X ip σ H s := I.pins_of fun p hp => I.pin p (List.mem_append_right _ (List.mem_append_right _ hp))
  have nt : ∀ b u, H b = some u → b ∉ cp := fun b u q hb => by
    have := (at_ b hb).1
    rw [q] at this; cases this
  obtain ⟨z1, z2, z3, z4⟩ := z
  obtain ⟨hh, g, d, t, o⟩ := s'
  have ho : o = s.os := z1
  subst ho
  have J : Inv X ip σ H { s with heap := hh, gens := g, drawn := d, toks := t } := by
    refine I0.step (g' := g) (t' := t) (d' := d) (ch := cp) (fun b hb => ?_)
      (fun b ob _ _ hc q _ => z3 b ob hc q) (fun b ob _ _ hc q _ => ⟨ob.slots, z3 b ob hc q⟩) (fun _ _ _ _ n => n) (fun b ob hc q => ⟨ob, z3 b ob hc q⟩)
      (fun _ _ q => q) (fun _ _ _ q => q) (fun b ps q => ⟨#[], by rw [q]; simp⟩) (fun m hm => ?_) (fun b u q => ?_) z2
    · obtain ⟨a1, a2, a3⟩ := hA b hb
      refine ⟨.inr a1, a2, a3, fun p hp e => ?_⟩
      rcases List.mem_append.mp hp with hp | hp
      · exact hpn p hp (e ▸ hb)
      · exact hip p hp (e ▸ hb)
    · obtain ⟨ob, es, ep, ho, r⟩ := hm
      exact ⟨ob, es, ep, z3 _ ob (fun hb => (at_ _ hb).2.1 rfl) ho, r⟩
    · refine (I0.hok b u q).stay (fun c v hc y => z3 c v ?_ y) (fun _ y => y) fun _ _ y => y
      rcases hc with y | y
      · rw [y]; exact nt b u q
      · exact nt c _ y
  refine J.pins_of fun p hp => ?_
  rcases List.mem_append.mp hp with hp | hp
  · obtain ⟨hb, e⟩ := of_pinsAt hp
    obtain ⟨a1, a2, a3⟩ := at_ p.1 hb
    refine ⟨e, a1, a2, a3, ?_⟩
    obtain ⟨o, e2, d2⟩ := z4 p.1 hb
    rw [show ({ s with heap := hh, gens := g, drawn := d, toks := t } : Shared).heap.get? p.1 = hh.get? p.1 from rfl] at e
    rw [show (({ heap := hh, gens := g, drawn := d, toks := t, os := s.os } : Shared)).heap.get? p.1 = hh.get? p.1 from rfl] at e2
    rw [e] at e2
    cases e2
    exact d2
  · exact J.pin p (List.mem_append_right _ hp)
/-! ### the protocol -/
/-- all that comes out, and what holds of the heap whenever something does -/
structure Outs where
  xs : List V
  yd : Hp → Prop
def GY (X : Cx) (cp : List Addr) (tot : Outs) : Protocol := fun n s₀ v s kap =>
  ∃ j x cv ip σ H, tot.xs[j]? = some x ∧ tot.yd H ∧ n + 1 + j = tot.xs.length ∧ RelV x v ∧ Cv cp s₀ cv ∧ Inv X (cv ++ ip) σ H s ∧ ∀ s', Slp cp s s' → kap (.send .none) s'
/-- what a statement of the body tells: the items out so far by number; tot: all that are to come out -/
abbrev TGn := Outs → (Nat → L2.St → Hp → Prop) → Nat → L2.St → Hp → Prop
structure GC (X : Cx) (cp : List Addr) (ip : List (Addr × Obj)) (A : Around) (c : Code) (fs : List Frame) (gd : Bool → Bool) : Prop where
  pn : ∀ p ∈ X.pn, p.1 ∉ cp
  ip : ∀ p ∈ ip, p.1 ∉ cp
  off : Off X cp
  over : A.over c fs = X.A
  split : splitAtGen fs = none
  guard : fs.any Frame.guarded = false
  gd : gd false = false
structure GK (X : Cx) (cp : List Addr) (tot : Outs) (ip : List (Addr × Obj)) (A : Around) (R : GenEnd) (c : Code) (fs : List Frame) (K : Flow → Sem PySem.Fin) (J : Value → Sem PySem.Fin) (nx : Nat → L2.St → Hp → Prop) : Prop where
  ok : ∀ (n j : Nat) (s₀ s : Shared) (cv : List (Addr × Obj)) (σ : L2.St) (H : Hp), n + j = tot.xs.length → Cv cp s₀ cv → Inv X (cv ++ ip) σ H s → nx j σ H → Seg (model X.prog X.w) A R (GY X cp tot) n s₀ c (K .next) fs s
  exc : ∀ (n : Nat) (s₀ : Shared) (e : Value) (s : Shared), X.xe e s → Seg (model X.prog X.w) A R (GY X cp tot) n s₀ c (J e) fs s
structure GS (X : Cx) (st : Stmt) (t : TGn) : Prop where
  run : ∀ (A : Around) (R : GenEnd) (cp : List Addr) (tot : Outs) (ip : List (Addr × Obj)) (n j : Nat) (s₀ : Shared) (c : Code) (fs : List Frame) (K : Flow → Sem PySem.Fin) (J : Value → Sem PySem.Fin) (gd : Bool → Bool) (lv : List Value → List Value) (s : Shared) (cv : List (Addr × Obj)) (σ : L2.St) (H : Hp) (nx : Nat → L2.St → Hp → Prop),
    GC X cp ip A c fs gd → GK X cp tot ip A R c fs K J nx → n + j = tot.xs.length → Cv cp s₀ cv → Inv X (cv ++ ip) σ H s → t tot nx j σ H → Seg (model X.prog X.w) A R (GY X cp tot) n s₀ c ((exec st X.env).wrap K J gd lv) fs s
structure GSs (X : Cx) (st : List Stmt) (t : TGn) : Prop where
  run : ∀ (A : Around) (R : GenEnd) (cp : List Addr) (tot : Outs) (ip : List (Addr × Obj)) (n j : Nat) (s₀ : Shared) (c : Code) (fs : List Frame) (K : Flow → Sem PySem.Fin) (J : Value → Sem PySem.Fin) (gd : Bool → Bool) (lv : List Value → List Value) (s : Shared) (cv : List (Addr × Obj)) (σ : L2.St) (H : Hp) (nx : Nat → L2.St → Hp → Prop),
    GC X cp ip A c fs gd → GK X cp tot ip A R c fs K J nx → n + j = tot.xs.length → Cv cp s₀ cv → Inv X (cv ++ ip) σ H s → t tot nx j σ H → Seg (model X.prog X.w) A R (GY X cp tot) n s₀ c ((execs st X.env).wrap K J gd lv) fs s
section
variable {X : Cx} {st : Stmt} {rest : List Stmt}
theorem gss_nil : GSs X [] (fun _ nx j σ H => nx j σ H) :=
  ⟨fun A R cp tot ip n j s₀ c fs K J gd lv s cv σ H nx g k hn hv I ht => seg_execs_nil (k.ok n j s₀ s cv σ H hn hv I ht)⟩
theorem gss_one {t : TGn} (a : GS X st t) : GSs X [st] t :=
  ⟨fun A R cp tot ip n j s₀ c fs K J gd lv s cv σ H nx g k hn hv I ht => seg_execs_cons (a.run A R cp tot ip n j s₀ c fs _ J gd lv s cv σ H nx g ⟨fun n' j' s₀' s' cv' σ' H' hn' hv' I' q => seg_execs_nil (k.ok n' j' s₀' s' cv' σ' H' hn' hv' I' q), k.exc⟩ hn hv I ht)⟩
/-! ### yield -/
theorem gs_yield {e : Expr} {yp pos : Pos} {te : TE} (he : PE X e te) (hco : X.env.scope.isCoroutine = false := by rfl) (hi : interactive X.env = false := by rfl) :
    GS X (.Expr (.Yield (some e) yp) pos) (fun tot nx j σ H => j < tot.xs.length ∧ te σ H fun x H1 => tot.xs[j]? = some x ∧ tot.yd H1 ∧ nx (j + 1) σ H1) := by
  refine ⟨fun A R cp tot ip n j s₀ c fs K J gd lv s cv σ H nx g k hn hv I ht => ?_⟩
  obtain ⟨hlt, ht⟩ := ht
  obtain ⟨n, rfl⟩ : ∃ m, n = m + 1 := ⟨n - 1, by omega⟩
  refine seg_Expr_Yield g.split g.gd g.guard ?_ hco hi
  rw [g.over]
  refine wpAny_mono (he.run _ s σ H _ I ht) (fun v s' ⟨x, H1, I1, rv, hx, hy, q⟩ => ?_) fun x s' hx => k.exc _ s₀ x s' hx
  intro kap hk
  refine ⟨j, x, cv, ip, σ, H1, hx, hy, hn, rv, hv, I1, fun s'' z => hk .none s'' ?_⟩
  exact k.ok n (j + 1) s'' s'' _ σ H1 (by omega) (cv_of z.have_) (woken hv g.off g.pn g.ip I1 z) q
/-! ### for -/
def tGFor (wi : TI) (g : TG) (tb : TGn) : TGn := fun tot nx j σ H => wi σ H fun J H1 => ∃ W : Nat → Nat → Nat → L2.St → Hp → Prop, (∃ m, W 0 m j σ H1) ∧ ∀ i m j σ H, W i m j σ H →
  (J.stop i H ∧ nx j σ H) ∨ (J.go i H ∧ ∃ N : Nat → L2.St → Hp → Prop, (∀ j' σ' H', N j' σ' H' → ∃ m', m' < m ∧ W (i + 1) m' j' σ' H') ∧ ∀ x H', J.yld i H x H' → g x σ H' fun σ2 H2 => tb tot N j σ2 H2)
theorem gc_deep {cp : List Addr} {ip ip' : List (Addr × Obj)} {A : Around} {c c' : Code} {fs : List Frame} {gd : Bool → Bool} {k : Result → Sem PySem.Fin} {l kp : List Value} {p : Pos} (g : GC X cp ip A c fs gd) (hw : c'.weight = 0) (hu : c'.cUnits = 0) (hip : ∀ p ∈ ip', p.1 ∉ cp) :
    GC X cp ip' A c' (.ret k none (gd false) l c p kp :: fs) id where
  pn := g.pn
  ip := hip
  off := g.off
  over := (over_loop hw hu).trans g.over
  split := by
    show (splitAtGen fs).map _ = none
    rw [g.split]; rfl
  guard := by
    show (gd false || fs.any Frame.guarded) = false
    rw [g.gd, g.guard]; rfl
  gd := rfl
theorem pins_ne {cp : List Addr} {cv cv' pins : List (Addr × Obj)} {s₀ s₀' : Shared} (h : Cv cp s₀ cv) (h' : Cv cp s₀' cv') {b : Addr} (q : ∀ p ∈ cv ++ pins, p.1 ≠ b) : ∀ p ∈ cv' ++ pins, p.1 ≠ b := fun p hp => by
  rcases List.mem_append.mp hp with hp | hp
  · obtain ⟨p', hp', e⟩ := (cv_mem h).mp ((cv_mem h').mpr ⟨p, hp, rfl⟩)
    rw [← e]
    exact q p' (List.mem_append_left _ hp')
  · exact q p (List.mem_append_right _ hp)
theorem gs_for {tg iter : Expr} {body : List Stmt} {wi : TI} {gt : TG} {tb : TGn} {pos : Pos} (hp : PassesOwn (model X.prog X.w) X.A X.env X.xe) (hc : X.calm = true) (hi : PI X tg iter wi) (hg : PG X tg gt) (hb : GSs X body tb)
    (hs : ∀ x, foldedSetIterable iter X.env x = pure x := by intro _; rfl) : GS X (.For tg iter body [] pos) (tGFor wi gt tb) := by
  refine ⟨fun A R cp tot ip n j s₀ c fs K J gd lv s cv σ H nx g k hn hv I ht => ?_⟩
  rw [exec_For]
  refine seg_bind_wrap (wpAny_standAt ?_)
  refine seg_bind_wrap ?_
  rw [g.over]
  refine wpAny_mono (hi.run _ s σ H _ I ht) (fun v s1 h1 => ?_) fun x s' hx => k.exc n s₀ x s' hx
  refine seg_bind_wrap (wpAny_of_eq (hs v) ?_)
  refine seg_bind_wrap (wpAny_standAt ?_)
  refine seg_bind_wrap (wpAny_holding ?_)
  rw [g.over]
  refine wpAny_mono h1 (fun itv s2 h2 => ?_) fun x s' hx => k.exc n s₀ x s' hx
  obtain ⟨it, fp, tn, J', H2, e, I2, T, st2, f2, W, ⟨m0, w0⟩, turn⟩ := h2
  subst e
  have stat : ∀ {cv' : List (Addr × Obj)} {s₀' : Shared} {H' : Hp}, Cv cp s₀' cv' → (∀ b ∈ fp, H' b = none) → ∀ b ∈ fp, FpOk X (cv' ++ ip) H' b := fun {cv' s₀' H'} hv' hn' b hb => by
    obtain ⟨_, q1, q2, q3, q4, q5⟩ := f2 b hb
    refine ⟨hn' b hb, q1, q2, q3, q4, fun p hp => ?_⟩
    rcases List.mem_append.mp hp with hp | hp
    · exact q5 p (List.mem_append_left _ hp)
    · exact pins_ne hv hv' (fun p hp => q5 p (List.mem_append_right _ hp)) p hp
  have fcp : ∀ b ∈ fp, b ∉ cp := fun b hb hm => by
    obtain ⟨p, hp, e⟩ := (cv_mem hv).mp hm
    exact (f2 b hb).2.2.2.2.2 p (List.mem_append_right _ (List.mem_append_left _ hp)) e
  refine seg_call fun p => ?_
  have gl : ∀ {ip' : List (Addr × Obj)} (kk : Result → Sem PySem.Fin), (∀ p ∈ ip', p.1 ∉ cp) → GC X cp ip' A (.forLoop tg (.ref it) body [] X.env) (.ret kk none (gd false) (lv []) c p [] :: fs) id := fun kk h => gc_deep g rfl rfl h
  have loop : ∀ (m n j : Nat) (s₀ s : Shared) (cv : List (Addr × Obj)) (σ : L2.St) (H : Hp) (i : Nat), n + j = tot.xs.length → Cv cp s₀ cv → Inv X (cv ++ ip) σ H s → tn i s.heap → (∀ b ∈ fp, H b = none) → W i m j σ H →
      Seg (model X.prog X.w) A R (GY X cp tot) n s₀ (.forLoop tg (.ref it) body [] X.env) ((model X.prog X.w).den (.forLoop tg (.ref it) body [] X.env))
        (.ret (fun r => ((match r with | .ok f => (.pure f : Sem Flow) | .error e => .raise e).onRaise (cameBack X.env)).wrap K J gd lv) none (gd false) (lv []) c p [] :: fs) s := by
    intro m
    induction m using Nat.strongRecOn with
    | ind m ih =>
      intro n j s₀ s cv σ H i hn hv I st hz w
      have back : ∀ (n : Nat) (s₀ : Shared) (x : Value) (s' : Shared), cameBackBy (model X.prog X.w) X.A X.env X.xe x s' → Seg (model X.prog X.w) A R (GY X cp tot) n s₀ c (((Sem.raise x : Sem Flow).onRaise (cameBack X.env)).wrap K J gd lv) fs s' := fun n s₀ x s' h => by
        show Seg _ _ _ _ _ _ _ (((cameBack X.env x).bind fun _ => (Sem.raise x : Sem Flow)).wrap K J gd lv) _ _
        rw [Sem.bind_eq_wrap, Sem.wrap_wrap]
        refine seg_wrap ?_
        rw [g.over]
        exact wpAny_mono h (fun _ s' hx => k.exc n s₀ x s' hx) fun y s' hx => k.exc n s₀ y s' hx
      have ee : ∀ (n : Nat) (s₀ : Shared) (x : Value) (s' : Shared), X.xe x s' → Seg (model X.prog X.w) A R (GY X cp tot) n s₀ (.forLoop tg (.ref it) body [] X.env)
          ((do noteFrame x X.env; theTreesLotGoes x : Sem Unit).bind fun _ => .raise x)
          (.ret (fun r => ((match r with | .ok f => (.pure f : Sem Flow) | .error e => .raise e).onRaise (cameBack X.env)).wrap K J gd lv) none (gd false) (lv []) c p [] :: fs) s' := fun n s₀ x s' hx => by
        rw [Sem.bind_eq_wrap]
        refine seg_wrap ?_
        rw [(gl _ g.ip).over]
        refine wpAny_bind (wpAny_mono (hp x s' hx) (fun _ s'' hcb => wpAny_theTreesLotGoes ?_) fun y s'' hcb => ?_)
        · exact seg_leaf (.error x) (back n s₀ x _ hcb)
        · exact seg_leaf (.error y) (back n s₀ y _ hcb)
      show Seg _ A R _ n s₀ _ ((forTurn tg (.ref it) body [] X.env).onRaise (fun x => do noteFrame x X.env; theTreesLotGoes x)) _ s
      unfold forTurn
      rw [Sem.onRaise_eq_wrap]
      refine seg_bind_wrap (wpAny_standAt ?_)
      refine seg_bind_wrap (wpAny_onRaise ?_)
      rw [(gl _ g.ip).over]
      rcases turn i m j σ H w with ⟨stop, q⟩ | ⟨go, N, hN, step⟩
      · refine wpAny_mono (T.done X rfl rfl rfl hc i (cv ++ ip) s σ H X.xe I (stat hv hz) st stop) (fun r s4 ⟨hr, I4⟩ => ?_) fun x s' hx => wpAny_standAt (ee n s₀ x s' hx)
        subst hr
        exact seg_again rfl (seg_leaf (.ok .next) (k.ok n j s₀ s4 cv σ H hn hv I4 q))
      · refine wpAny_mono (T.item X rfl rfl rfl hc i (cv ++ ip) s σ H X.xe I (stat hv hz) st go) (fun r s4 ⟨u, hr, h4⟩ => ?_) fun x s' hx => wpAny_standAt (ee n s₀ x s' hx)
        subst hr
        refine seg_bind_wrap ?_
        rw [(gl _ g.ip).over]
        refine wpAny_mono h4 (fun _ s5 ⟨x, H5, I5, r5, y5, st5, z5⟩ => ?_) fun x s' hx => ee n s₀ x s' hx
        have I5' := I5.pinned (stat hv z5) (T.obj _ _ st5)
        rw [List.append_assoc] at I5'
        refine seg_bind_wrap ?_
        rw [(gl _ g.ip).over]
        refine wpAny_mono (hg.run _ s5 σ H5 x u _ I5' r5 (step x H5 y5)) (fun _ s6 ⟨σ6, H6, I6, q6⟩ => ?_) fun x s' hx => ee n s₀ x s' hx
        rw [Sem.bind_eq_wrap', Sem.wrap_wrap]
        refine hb.run A R cp tot (ip ++ pinsAt fp s5.heap) n j s₀ _ _ _ _ _ _ s6 cv σ6 H6 N (gc_deep g rfl rfl fun p hp => ?_) ⟨fun n' j' s₀' s' cv' σ' H' hn' hv' I' q' => ?_, fun n' s₀' e s' hx => ee n' s₀' e s' hx⟩ hn hv I6 q6
        · rcases List.mem_append.mp hp with hp | hp
          · exact g.ip p hp
          · exact fcp _ (of_pinsAt hp).1
        · obtain ⟨m', hm, w'⟩ := hN j' σ' H' q'
          have pin' : ∀ b ∈ fp, ∀ o, s5.heap.get? b = some o → s'.heap.get? b = some o ∧ H' b = none := fun b hb o e =>
            let z := I'.pin (b, o) (List.mem_append_right _ (List.mem_append_right _ (List.mem_append_right _ (mem_pinsAt hb e))))
            ⟨z.1, z.2.1⟩
          refine seg_again rfl (ih m' hm n' j' s₀' s' cv' σ' H' (i + 1) hn' hv' ?_ (T.keep _ _ _ st5 fun b hb o e => (pin' b hb o e).1) (fun b hb => ?_) w')
          · rw [← List.append_assoc] at I'
            exact I'.unpinned
          · obtain ⟨o, e, _⟩ := T.obj _ _ st5 b hb
            exact (pin' b hb o e).2
  exact loop m0 n j s₀ s2 cv σ H2 0 hn hv I2 st2 (fun b hb => (f2 b hb).1) w0
end
end NG

set_option Elab.async false
set_option linter.all false
set_option maxRecDepth 100000
set_option maxHeartbeats 2000000
/-! Nf46: calls of generator defs whose consumer does other things in between. -/
namespace NG
open PySem PySem.Spec PyProof.Rows L2 GenW
/-- arguments, heap, all that comes out, what is wanted at the end, exceptions -/
abbrev SpN := List V → Hp → Outs → (Hp → Prop) → XK → Prop
/-- an item comes out -/
def YI (P : Program) (w : World) (outer : List Env) (H : Hp) (s : Shared) (cp : List Addr) (a : Addr) (g : Nat) (tot : Outs) : Protocol := fun n s₀ v s1 kap =>
  ∃ j x, tot.xs[j]? = some x ∧ n + 1 + j = tot.xs.length ∧ RelV x v ∧ s1.os = s.os ∧ AllBare s1.gens ∧ s1.heap.NoLimit ∧ s1.heap.IsGen a g ∧ (∃ H', tot.yd H' ∧ Un (frs outer) [] H H' s.heap s1.heap ∧ HOk P w H' s1.heap ∧ ∀ b ∈ cp, H' b = none ∧ s1.heap.get? b = s₀.heap.get? b) ∧ ∀ s', Slp cp s1 s' → kap (.send .none) s'
/-- the run ends -/
def YE (P : Program) (w : World) (outer : List Env) (H : Hp) (s : Shared) (cp : List Addr) (a : Addr) (g : Nat) (Q : Hp → Prop) (E : XK) : GenEnd := fun n s₀ r s1 =>
  ((r = .ok (.ret .none) ∨ r = .ok .next) ∧ n = 0 ∧ ∃ H', s1.os = s.os ∧ AllBare s1.gens ∧ Un (frs outer) [] H H' s.heap s1.heap ∧ HOk P w H' s1.heap ∧ (∀ b ∈ cp, H' b = none ∧ s1.heap.get? b = s₀.heap.get? b) ∧ Q H') ∨ ∃ e, r = .error e ∧ CX P w outer H s E e s1 ∧ s1.heap.IsGen a g
/-- a generator that has not begun -/
def NMade (P : Program) (w : World) (k : Nat) (outer : List Env) (H : Hp) (s : Shared) (tot : Outs) (Q : Hp → Prop) (E : XK) (u : Value) (s' : Shared) : Prop :=
  ∃ (a : Addr) (g : Nat) (c : Code), u = .ref a ∧ s.heap.objs.size ≤ a ∧ a < s'.heap.objs.size ∧ s'.heap.IsGen a g ∧ s'.gens[g]? = some (.fresh c) ∧ s'.os = s.os ∧ AllBare s'.gens ∧ s'.heap.NoLimit ∧ (∀ b o, s.heap.get? b = some o → s'.heap.get? b = some o) ∧
    ∀ (A : Around) (cp : List Addr) (s2 : Shared), Room k A → A.frames = some outer → (∀ b ∈ cp, s'.heap.objs.size ≤ b) → (∀ b o, s'.heap.get? b = some o → s2.heap.get? b = some o) → (∀ b ∈ cp, ∃ o, s2.heap.get? b = some o ∧ ∀ v, o.data ≠ .cell v) → s2.os = s.os → AllBare s2.gens →
      Seg (model P w) A (YE P w outer H s cp a g Q E) (YI P w outer H s cp a g tot) tot.xs.length s2 c ((model P w).den c) [] s2
structure NFn (P : Program) (w : World) (K : PySem.W.Frag) (mg : Str → Option Value) (base : Heap) (k : Nat) (f : Addr) (fd : FuncData) (ps : List Str) (sp : SpN) : Prop where
  len : ∀ vs H tot Q E, sp vs H tot Q E → vs.length = ps.length
  run : ∀ (A : Around) (outer : List Env) (s : Shared) (H : Hp) (args : Args) (us : List Value) (vs : List V) (tot : Outs) (Q : Hp → Prop) (E : XK), Room k A → Env0 P w K mg base A outer s H → BindsTo s fd args (ps.zip us) → Vals vs us → sp vs H tot Q E →
    codeAny (model P w) A (.call (.ref f) args) (fun r s' => match r with | .ok (.ret u) => NMade P w k outer H s tot Q E u s' | _ => False) s
theorem nfn_of {P : Program} {w : World} {K : PySem.W.Frag} {mg : Str → Option Value} {base : Heap} {k : Nat} {f : Addr} {name qual : Str} {params : Arguments} {body : List Stmt} {scope : Scope} {dV kV doc pm cdv ct oc : Value} {an od : Option Addr}
    {osl : Array (Option Value)} {N ps : List Str} {sp : SpN} (lk : K.lookup f = some ⟨oc, od, .func (PySem.W.fnOf name qual params body scope dV kV doc pm an cdv ct), osl⟩) (hcd : PySem.W.codeIn K cdv qual = true) (S : GScope N ps scope)
    (len : ∀ vs H tot Q E, sp vs H tot Q E → vs.length = ps.length)
    (hbody : ∀ (A : Around) (outer : List Env) (s : Shared) (H : Hp) (vs : List V) (tot : Outs) (Q : Hp → Prop) (E : XK) (pn : List (Addr × Obj)), Room k (A.deeper (envOfC qual scope s.heap.objs.size f cdv)) → sp vs H tot Q E →
      ∃ t, GSs (gcxOf P w K mg base N qual scope f cdv A outer s H E pn) body t ∧ t tot (fun j _ H' => j = tot.xs.length ∧ Q H') 0 (start N vs) H) :
    NFn P w K mg base (k + 1) f (PySem.W.fnOf name qual params body scope dV kV doc pm an cdv ct) ps sp := by
  refine ⟨len, fun A outer s H args us vs tot Q E hr e0 hb r hsp => ?_⟩
  have hl := len _ _ _ _ _ hsp
  have kin : K.In s.heap := e0.mod.kin.keeps fun b o e => (e0.bs b o e).1
  have nl : s.heap.NoLimit := e0.mod.nolimit.keeps fun b o e => (e0.bs b o e).1
  have hk : ∀ y ∈ ps.zip us, scope.names.lookup y.1 = some .local ∨ (scope.names.lookup y.1 = some .cell ∧ ((cellsFrom (s.heap.objs.size + 1) scope.names []).lookup y.1).isSome = true) := fun ⟨n, v⟩ hy =>
    (S.par n (List.of_mem_zip hy).1).elim .inl fun q => .inr ⟨q, PySem.W.cellsFrom_some _ _ _ (.inl q)⟩
  refine codeAny_call_generator hr.depth (kin _ _ lk) rfl S.co S.gen rfl (PySem.W.codeRec_of kin hcd) (hb _ _ _ _ ?_)
  refine wpAny_newFunctionEnv_cells S.kind hk fun env he s1 x => ?_
  subst he
  have nl1 : s1.heap.NoLimit := nl.keeps x.toInCall.keep
  refine ⟨nl1, ?_⟩
  obtain ⟨h1, tk, es1, hk1⟩ := x.done
  have hos1 : s1.os = s.os := by rw [es1]
  have hg1 : s1.gens = s.gens := by rw [es1]
  have hlt : s.heap.objs.size < s1.heap.objs.size := x.toInCall.ns.lt
  have kp : ∀ b o, s.heap.get? b = some o → s1.heap.get? b = some o := x.toInCall.keep
  have main : ∀ (go : Obj) (nm qn : Value) (tk2 : Nat), go.cls = .type "generator" → go.data = .fields #[.int s1.gens.size 0, nm, qn] → go.slots = #[] → (∀ h : Heap, (h.push go).get? h.objs.size = some go) →
      NMade P w (k + 1) outer H s tot Q E (.ref s1.heap.objs.size) { s1 with gens := s1.gens.push (.fresh (.func body (envOfC qual scope s.heap.objs.size f cdv))), toks := tk2, heap := s1.heap.push go } := by
    intro go nm qn tk2 c1 c2 c3 c4
    have isg : ∀ h : Heap, h.get? s1.heap.objs.size = some go → h.IsGen s1.heap.objs.size s1.gens.size := fun h e => ⟨go, nm, qn, e, c1, c2, c3⟩
    have there : (s1.heap.push go).get? s1.heap.objs.size = some go := c4 _
    have sz : (s1.heap.push go).objs.size = s1.heap.objs.size + 1 := Heap.size_push ..
    refine ⟨s1.heap.objs.size, s1.gens.size, _, rfl, Nat.le_of_lt hlt, by rw [sz]; exact Nat.lt_succ_self _, isg _ there, Array.getElem?_push_size .., hos1, AllBare.push (by rw [hg1]; exact e0.bare) rfl, nl1.keeps fun b o e => Heap.get?_push_of_some _ e, fun b o e => Heap.get?_push_of_some _ (kp b o e), ?_⟩
    intro Aw cp s2 hrw hfr hcp k2 hcq hos hba
    rw [sz] at hcp
    have e0w : Env0 P w K mg base Aw outer s H := ⟨hfr, e0.mod, e0.bs, e0.bsz, e0.funs, e0.frf, e0.hok, e0.bare⟩
    obtain ⟨t, ht, hq⟩ := hbody Aw outer s H vs tot Q E [(s1.heap.objs.size, go)] (hrw.deeper _) hsp
    have I1 : Inv (gcxOf P w K mg base N qual scope f cdv Aw outer s H E []) [] (start N vs) H s1 := inv_startG S hrw.hd e0w hl r x
    have I2 : Inv (gcxOf P w K mg base N qual scope f cdv Aw outer s H E []) [] (start N vs) H s2 :=
      have kk : ∀ b o, s1.heap.get? b = some o → s2.heap.get? b = some o := fun b o e => k2 b o (Heap.get?_push_of_some _ e)
      I1.call' (ch := []) (hos.trans hos1.symm) (Un.kept kk) (I1.hok.kept kk) hba fun b z => by simp at z
    have ea : s2.heap.get? s1.heap.objs.size = some go := k2 _ go there
    have gd : ∀ v, go.data ≠ .cell v := fun v q => by rw [c2] at q; cases q
    have young : ∀ b, s1.heap.objs.size ≤ b → H b = none ∧ b ≠ s.heap.objs.size ∧ b ∉ frs outer ∧ s.heap.objs.size ≤ b ∧ ∀ y c, (cellsFrom (s.heap.objs.size + 1) scope.names []).lookup y = some c → c ≠ b := fun b hb => by
      refine ⟨I1.hok.fresh hb, Nat.ne_of_gt (Nat.lt_of_lt_of_le hlt hb), I1.nofs hb, Nat.le_trans (Nat.le_of_lt hlt) hb, fun y c e z => ?_⟩
      obtain ⟨v, ob, ho, _⟩ := I1.cell y c e
      have lt := Heap.lt_size ho
      rw [z] at lt
      exact absurd (Nat.lt_of_lt_of_le lt hb) (Nat.lt_irrefl _)
    have IG : Inv (gcxOf P w K mg base N qual scope f cdv Aw outer s H E [(s1.heap.objs.size, go)]) (pinsAt cp s2.heap ++ []) (start N vs) H s2 := by
      refine Inv.pinnedG I2 fun p hp => ?_
      rcases List.mem_append.mp hp with z | z
      · rw [List.mem_singleton.mp z]
        obtain ⟨y1, y2, y3, _, _⟩ := young s1.heap.objs.size (Nat.le_refl _)
        exact ⟨ea, y1, y2, y3, gd⟩
      · rw [List.append_nil] at z
        obtain ⟨hb, e⟩ := of_pinsAt z
        obtain ⟨y1, y2, y3, _, _⟩ := young p.1 (Nat.le_of_lt (hcp _ hb))
        obtain ⟨o, e2, d2⟩ := hcq _ hb
        rw [e] at e2
        cases e2
        exact ⟨e, y1, y2, y3, d2⟩
    have hoff : Off (gcxOf P w K mg base N qual scope f cdv Aw outer s H E [(s1.heap.objs.size, go)]) cp := fun b hb => by
      obtain ⟨_, y2, _, y4, y5⟩ := young b (Nat.le_of_lt (hcp b hb))
      exact ⟨y4, y2, y5⟩
    have hpn : ∀ p ∈ [(s1.heap.objs.size, go)], p.1 ∉ cp := fun p hp hm => by
      rw [List.mem_singleton.mp hp] at hm
      have := hcp _ hm
      exact absurd this (Nat.not_succ_le_self _)
    have pinG : ∀ {cv ip : List (Addr × Obj)} {s' : Shared} {σ' : L2.St} {H' : Hp}, Inv (gcxOf P w K mg base N qual scope f cdv Aw outer s H E [(s1.heap.objs.size, go)]) (cv ++ ip) σ' H' s' → s'.heap.IsGen s1.heap.objs.size s1.gens.size := fun J =>
      isg _ (J.pin (s1.heap.objs.size, go) (List.mem_append_left _ (List.mem_singleton.mpr rfl))).1
    have same : ∀ {cv ip : List (Addr × Obj)} {s₀ s' : Shared} {σ' : L2.St} {H' : Hp}, Cv cp s₀ cv → Inv (gcxOf P w K mg base N qual scope f cdv Aw outer s H E [(s1.heap.objs.size, go)]) (cv ++ ip) σ' H' s' → ∀ b ∈ cp, H' b = none ∧ s'.heap.get? b = s₀.heap.get? b := fun hv J b hb => by
      obtain ⟨p, hp, rfl⟩ := (cv_mem hv).mp hb
      have q := J.pin p (List.mem_append_right _ (List.mem_append_left _ hp))
      exact ⟨q.2.1, q.1.trans (hv.2 p hp).symm⟩
    refine seg_func ?_
    refine seg_imp (R := fun n s₀ r s1' => match r with
        | .ok fl => fl = .ret .none ∧ n = 0 ∧ ∃ cv ip σ' H', Cv cp s₀ cv ∧ Inv (gcxOf P w K mg base N qual scope f cdv Aw outer s H E [(s1.heap.objs.size, go)]) (cv ++ ip) σ' H' s1' ∧ Q H'
        | .error e => CX P w outer H s E e s1' ∧ s1'.heap.get? s1.heap.objs.size = some go)
      (Y := GY (gcxOf P w K mg base N qual scope f cdv Aw outer s H E [(s1.heap.objs.size, go)]) cp tot) (fun n s₀ r s1' hR => ?_) (fun n s₀ v s1' kap kap' hkk hY => ?_) tot.xs.length ?_
    · cases r with
      | error e => exact .inr ⟨e, rfl, hR.1, isg _ hR.2⟩
      | ok fl =>
        obtain ⟨q1, q2, cv, ip, σ', H', hv, J, hQ⟩ := hR
        subst q1
        exact .inl ⟨.inl rfl, q2, H', J.os, J.bare, J.base, J.hok, same hv J, hQ⟩
    · obtain ⟨j, xx, cv, ip, σ', H', q1, qy, q2, q3, q4, q5, q6⟩ := hY
      exact ⟨j, xx, q1, q2, q3, q5.os, q5.bare, q5.nolimit, pinG q5, ⟨H', qy, q5.base, q5.hok, same q4 q5⟩, fun s' z => hkk _ _ (q6 s' z)⟩
    · refine ht.run Aw _ cp tot [] tot.xs.length 0 s2 _ [] _ _ id id s2 _ (start N vs) H _ ⟨hpn, fun p hp => by simp at hp, hoff, over_func, rfl, rfl, rfl⟩ ⟨fun n j s₀ s' cv σ' H' hn hv J q => ?_, fun n s₀ e s' hx => ?_⟩ (Nat.add_zero _) (cv_of hcq) IG hq
      · exact seg_end (.ok (.ret .none)) ⟨rfl, by omega, cv, [], σ', H', hv, J, q.2⟩
      · refine seg_wrap ?_
        rw [over_func]
        have hl' : wpAny (model P w) (Aw.deeper (envOfC qual scope s.heap.objs.size f cdv)) (leaving (envOfC qual scope s.heap.objs.size f cdv) e) (fun _ s'' => CX P w outer H s E e s'' ∧ ∀ p ∈ [(s1.heap.objs.size, go)], s''.heap.get? p.1 = some p.2) (fun _ _ => False) s' := hx
        exact wpAny_mono hl' (fun _ s'' q => seg_end (.error e) ⟨q.1, q.2 _ (List.mem_singleton.mpr rfl)⟩) fun _ _ q => q.elim
  exact main _ _ _ _ rfl rfl rfl fun h => Heap.get?_push_size _ rfl
end NG

set_option Elab.async false
set_option linter.all false
set_option maxRecDepth 100000
set_option maxHeartbeats 2000000
/-! Nf47: a comprehension over a generator. -/
namespace NG
open PySem PySem.Spec PyProof.Rows L2 GenW
abbrev NoEx : XK := fun _ _ _ => False
/-- an expression whose value is a generator that has not begun -/
abbrev TGenN := L2.St → Hp → (Outs → Hp → (Hp → Prop) → Prop) → Prop
structure PGN (X : Cx) (k : Nat) (e : Expr) (tg : TGenN) : Prop where
  run : ∀ (pins : List (Addr × Obj)) (s : Shared) (σ : L2.St) (H : Hp) (cont : Outs → Hp → (Hp → Prop) → Prop), Inv X pins σ H s → tg σ H cont → wpAny (model X.prog X.w) X.A (eval e X.env)
    (fun u s' => ∃ H1 sc T Q, Inv X pins σ H1 sc ∧ NMade X.prog X.w k X.stack H1 sc T Q NoEx u s' ∧ cont T H1 Q) X.xe s
section
variable {X : Cx} {k : Nat} {f C : Addr} {fd : FuncData} {ps : List Str} {sp : SpN} {m : Str} {pos' apos : Pos} {o : Expr} {ta : TE}
def tMethN (C : Addr) (m : Str) (sp : SpN) (ta : TE) : TGenN := fun σ H cont => ta σ H fun x H1 => ∃ a dx fs, x = .ref a ∧ H1 a = some (.ins C dx fs) ∧ fs.lookup m = none ∧ ∃ T Q, sp [x] H1 T Q NoEx ∧ cont T H1 Q
/-- o.m() of a generator method -/
theorem pgn_meth0 {pl : Sem Bool} (he : PE X o ta) (c : Cls X.K C) (hm : Meth X.K C m f) (F : NFn X.prog X.w X.K X.mg X.base k f fd ps sp) (hr : Room k X.A) (hb : Binds X.K fd ps [])
    (ht : eval (.Call (.Attribute o m apos) [] [] pos') X.env = (do
      let ov ← eval o X.env
      standAt apos.atName
      let (f, first) ← holding [ov] (getMethod ov m pl)
      callWith pos' f first (backTo pos' (starEach [] X.env)) (backToKw pos' (keywordEach [] X.env))) := by rfl) :
    PGN X k (.Call (.Attribute o m apos) [] [] pos') (tMethN C m sp ta) := by
  refine ⟨fun pins s σ H cont I h => ?_⟩
  refine PySem.W.methodCall_KW (pl := pl) (thn (he.run pins s σ H _ I h) fun u s1 ⟨x, H1, I1, rx, a, dx, fs, ex, ea, l, T, Q, q1, q2⟩ => ?_) ht
  subst ex
  have eu : u = Value.ref a := rx
  subst eu
  refine getmeth_ok I1 ea c hm l ?_
  refine PySem.W.callWith_K0 (first := [.ref a]) I1.kIn hm.kp ?_
  have hl : [Value.ref a].length = ps.length := by
    have := F.len _ _ _ _ _ q1
    simpa using this
  refine wpAny_call (codeAny_mono (F.run X.A X.stack s1 H1 ⟨[Value.ref a], []⟩ ([Value.ref a] ++ []) [V.ref a] T Q NoEx hr I1.env0 (hb s1 [Value.ref a] I1.kIn hl) (show Vals [V.ref a] ([Value.ref a] ++ []) from .cons (show RelV (V.ref a) (Value.ref a) from rfl) .nil) q1) fun r s' hq => ?_)
  cases r with
  | error e => exact hq.elim
  | ok fl =>
    cases fl with
    | ret u => exact ⟨H1, s1, T, Q, I1, hq, q2⟩
    | next => exact hq.elim
    | brk => exact hq.elim
    | cont => exact hq.elim
end
/-! ### the element -/
/-- the comprehension's own frame -/
abbrev ownEnv (X : Cx) (scope : Scope) (n C : Nat) : Env := compEnvC scope (cellsFrom n scope.names (cloFrom X.env.cells scope.names [])) C X.env
/-- what the element gives for an item: rel; nothing but the clock goes on -/
def EltOk (X : Cx) (scope : Scope) (x : Str) (elt : Expr) (rel : L2.St → Hp → V → V → Prop) : Prop := ∀ (pins : List (Addr × Obj)) (σ : L2.St) (H' : Hp) (s s2 : Shared) (n C D : Nat) (A' : Around) (E' : Value → Shared → Prop) (m2 : Str → Option Value) (v : Value) (xv yv : V),
  Inv X pins σ H' s → H' C = none → H' D = none → (∀ b o, b ≠ C → b ≠ D → s.heap.get? b = some o → s2.heap.get? b = some o) → s2.heap.Ns C m2 → m2 x = some v → RelV xv v → rel σ H' xv yv →
    wpAny (model X.prog X.w) A' (eval elt (ownEnv X scope n C)) (fun y s3 => RelV yv y ∧ ∃ k, s3 = { s2 with toks := k }) E' s2
theorem own_local {X : Cx} {scope : Scope} {n C : Nat} {x : Str} (h : scope.names.lookup x = some .local) : (ownEnv X scope n C).kindOf x = some .local := lookup_relabel_local h
theorem own_plain {X : Cx} {scope : Scope} {n C : Nat} (hk : scope.kind = .function) : ((ownEnv X scope n C).scope.kind == .class || ((ownEnv X scope n C).scope.kind == .module && (ownEnv X scope n C).locals != (ownEnv X scope n C).globals)) = false := by
  have e : (ownEnv X scope n C).scope.kind = .function := hk
  rw [e]
  rfl
theorem elt_name {X : Cx} {scope : Scope} {x : Str} {p : Pos} (hk : scope.kind = .function) (h : scope.names.lookup x = some .local) (hd : (x == ("__debug__" : Str)) = false := by decide) : EltOk X scope x (.Name x p) (fun _ _ xv yv => yv = xv) := by
  intro pins σ H' s s2 n C D A' E' m2 v xv yv I _ _ _ hn hm r e
  subst e
  exact wpAny_Name (wpAny_loadName_local hk (own_local h) hn hm ⟨r, s2.toks, rfl⟩) hd
/-! ### the walk -/
theorem slp_refl {cp : List Addr} {s : Shared} (hb : AllBare s.gens) (h : ∀ b ∈ cp, ∃ o, s.heap.get? b = some o ∧ ∀ v, o.data ≠ .cell v) : Slp cp s s := ⟨rfl, hb, fun _ _ _ e => e, h⟩
theorem slp_trans {cp : List Addr} {s s1 s2 : Shared} (a : Slp cp s s1) (b : Slp cp s1 s2) : Slp cp s s2 := ⟨b.os.trans a.os, b.bare, fun x o h e => b.keep x o h (a.keep x o h e), b.have_⟩
theorem goes_ok {M : Model} {A : Around} {R R' : GenEnd} {Y : Protocol} {n : Nat} {gs : GenState} {r : Resume} {s : Shared} (e : R = R') (h : gs.Goes M A R Y n r s) : gs.Goes M A R' Y n r s := e ▸ h
def tLcN (tg : TGenN) (rel : L2.St → Hp → V → V → Prop) : TE := fun σ H Q => tg σ H fun T H1 Qe => T.xs.length ≤ sizeLine ∧ ∃ f : V → V, (∀ H' xv, T.yd H' → xv ∈ T.xs → rel σ H' xv (f xv)) ∧ ∀ H' D, Qe H' → H' D = none → Q (.ref D) (upd H' D (.lst (T.xs.map f)))
theorem pe_lcN {X : Cx} {k : Nat} {x : Str} {px : Pos} {ge elt : Expr} {scope : Scope} {own : List (Str × Nat)} {pos : Pos} {tg : TGenN} {rel : L2.St → Hp → V → V → Prop} (hN : X.N.Nodup) (hr : Room (k + 3) X.A) (hi : PGN X k ge tg) (ok : BlkOk X.N X.env.scope scope own) (hx : scope.names.lookup x = some .local)
    (he : EltOk X scope x elt rel) (hs : ∀ x, foldedSetIterable ge X.env x = pure x := by intro _; rfl) : PE X (.ListComp elt [⟨.Name x px, ge, [], 0⟩] scope pos) (tLcN tg rel) := by
  refine ⟨fun pins s σ H Q I h => ?_⟩
  rw [eval_ListComp]
  have hfree : ∀ y ∈ scope.names, y.2 = .free → ∃ c, X.env.cells.lookup y.1 = some c := fun y hy e => (ok.free y hy e).elim (fun z => I.ok.has _ (.inl z)) fun z => I.ok.has _ (.inr z)
  refine wpAny_comprehension_free (use := none) rfl hs (closure_ok hfree) ok.kind (fun y hy e => by rw [ok.uniq y hy, e]) (thn (hi.run pins s σ H _ I h) fun u s1 ⟨H1, sc, T, Qe, I1, hN1, hT, f, hf, hq⟩ => ?_)
  obtain ⟨a, g, c, rfl, ha1, ha2, hg, hgs, hos, hb, hl, hkp, wake⟩ := hN1
  refine wpAny_pyIter_gen hg ?_
  refine wpAny_newObj_type (newEnv_comp ?_) (by show 0 ≤ sizeLine; decide)
  have J1 : Inv X pins σ H1 s1 := I1.call' (ch := []) hos (Un.kept hkp) (I1.hok.kept hkp) hb fun b z => by simp at z
  generalize hs3 : ({ s1 with heap := s1.heap.push { cls := .type "list", data := .seq ([] : List Value).toArray } } : Shared) = s3
  have h3 : s3.heap = s1.heap.push { cls := .type "list", data := .seq ([] : List Value).toArray } := by rw [← hs3]
  have kp3 : ∀ b o, s1.heap.get? b = some o → s3.heap.get? b = some o := fun b o e => by rw [h3]; exact Heap.get?_push_of_some _ e
  have sz3 : s3.heap.objs.size = s1.heap.objs.size + 1 := by rw [h3]; exact Heap.size_push ..
  have J3 : Inv X pins σ H1 s3 := by
    rw [← hs3]
    exact J1.kept (t' := s1.toks) fun b o e => Heap.get?_push_of_some _ e
  have J4 := block_start (fp := []) J3 ok hN fun b hb => by simp at hb
  obtain ⟨m, hm, _⟩ := J4.loc
  generalize hD : s1.heap.objs.size = D at *
  have hDn : H1 D = none := J1.hok.fresh (Nat.le_of_eq hD)
  generalize hC : s3.heap.objs.size = C at *
  have hCD : C ≠ D := by omega
  have hCn : H1 C = none := J3.hok.fresh (Nat.le_of_eq hC)
  generalize hs4 : ({ s3 with heap := pushCells (s3.heap.push { cls := .type "dict", data := .dict #[] }) scope.names } : Shared) = s4 at *
  have kp4 : ∀ b o, s3.heap.get? b = some o → s4.heap.get? b = some o := fun b o e => by rw [← hs4]; exact pushCells_keeps _ _ _ _ (Heap.get?_push_of_some _ e)
  have hLC : m = m := rfl
  have sz4 : ∀ b, b < C → (∀ o, s3.heap.get? b = some o → s4.heap.get? b = some o) := fun b _ o e => kp4 b o e
  have hD4 : s4.heap.get? D = some (lstObj #[] 0) := kp4 D _ (by rw [h3, ← hD]; exact Heap.get?_push_size _ rfl)
  have hm4 : s4.heap.Ns C m := hm
  have cObj : ∀ {s : Shared} {m : Str → Option Value}, s.heap.Ns C m → ∃ o, s.heap.get? C = some o ∧ ∀ v, o.data ≠ .cell v := fun ⟨o, es, ep, e, hd, _⟩ => ⟨o, e, fun v z => by rw [hd] at z; cases z⟩
  have dObj : ∀ {s : Shared} {acc : Array Value} {c : Nat}, s.heap.get? D = some (lstObj acc c) → ∃ o, s.heap.get? D = some o ∧ ∀ v, o.data ≠ .cell v := fun e => ⟨_, e, fun v z => by cases z⟩
  have cps : ∀ {s : Shared} {m : Str → Option Value} {acc : Array Value} {c : Nat}, s.heap.Ns C m → s.heap.get? D = some (lstObj acc c) → ∀ b ∈ [C, D], ∃ o, s.heap.get? b = some o ∧ ∀ v, o.data ≠ .cell v := fun h1 h2 b hb => by
    rcases List.mem_cons.mp hb with z | z
    · rw [z]; exact cObj h1
    · rw [List.mem_singleton.mp z]; exact dObj h2
  have os4 : s4.os = sc.os := by rw [← hs4, ← hs3]; exact hos
  have gens4 : s4.gens = s1.gens := by rw [← hs4, ← hs3]
  have hr1 : Room k X.A.in1 := by
    refine ⟨hr.hd, ?_, ?_⟩
    · have := hr.dp
      show X.A.depth + 3 * k + 5 < _
      omega
    · have := hr.un
      show X.A.units + 1 + 16 * k + 200 < _
      omega
  have hroom : X.A.depth < recursionLimit := by have := hr.dp; omega
  have ltD : ∀ {b : Addr} {o : Obj}, sc.heap.get? b = some o → b ≠ C ∧ b ≠ D := fun {b o} e => by
    have q := Heap.lt_size (hkp b o e)
    rw [hD] at q
    exact ⟨Nat.ne_of_lt (Nat.lt_trans q (by rw [sz3]; exact Nat.lt_succ_self D)), Nat.ne_of_lt q⟩
  -- asleep, j items are out
  let LI : Nat → Shared → Prop := fun j s => j ≤ T.xs.length ∧ s.os = sc.os ∧ AllBare s.gens ∧ s.heap.NoLimit ∧ s.heap.IsGen a g ∧ (∃ m, s.heap.Ns C m) ∧ (∃ (acc : Array Value) (c : Nat), s.heap.get? D = some (lstObj acc c) ∧ Vals ((T.xs.take j).map f) acc.toList) ∧
    ∃ gs, s.gens[g]? = some gs ∧ ∀ s'', Slp [C, D] s s'' → gs.Goes (model X.prog X.w) X.A.in1 (YE X.prog X.w X.stack H1 sc [C, D] a g Qe NoEx) (YI X.prog X.w X.stack H1 sc [C, D] a g T) (T.xs.length - j) (.send .none) s''
  have start : LI 0 s4 := by
    refine ⟨Nat.zero_le _, os4, by rw [gens4]; exact hb, hl.keeps fun b o e => kp4 b o (kp3 b o e), ?_, ⟨m, hm4⟩, ⟨#[], 0, hD4, .nil⟩, .fresh c, by rw [gens4]; exact hgs, fun s'' z => ⟨rfl, ?_⟩⟩
    · obtain ⟨o, nm, qn, ho, r⟩ := hg
      exact ⟨o, nm, qn, kp4 _ _ (kp3 _ _ ho), r⟩
    · refine wake X.A.in1 [C, D] s'' hr1 I1.ok.frames (fun b hb => ?_) (fun b o e => ?_) z.have_ (z.os.trans os4) z.bare
      · rcases List.mem_cons.mp hb with y | y
        · rw [y, sz3]; exact Nat.le_succ D
        · rw [List.mem_singleton.mp y]; exact Nat.le_refl D
      · have lt := Heap.lt_size e
        rw [hD] at lt
        refine z.keep b o (fun hm => ?_) (kp4 b o (kp3 b o e))
        rcases List.mem_cons.mp hm with y | y
        · exact Nat.ne_of_lt (Nat.lt_trans lt (by rw [sz3]; exact Nat.lt_succ_self D)) y
        · exact Nat.ne_of_lt lt (List.mem_singleton.mp y)
  have loop : codeAny (model X.prog X.w) X.A (.compLoop (.ListComp elt [⟨.Name x px, ge, [], 0⟩] scope pos) 0 (.ref a) (.ref D) (ownEnv X scope (C + 1) C)) (compPost (model X.prog X.w) X.A X.xe none (EP X pins σ Q) (.ref D) C) s4 := by
    refine compLoop_any (fun n s' => ∃ j, n = T.xs.length - j ∧ LI j s') ?_ T.xs.length ⟨0, by omega, start⟩
    rintro n s5 ⟨j, hnj, hj, o5, b5, l5, g5, ⟨m5, n5⟩, ⟨acc, c5, d5, r5⟩, gs, gs5, go5⟩
    have ex5 := cps n5 d5
    have lr5 := r5.length
    rw [List.length_map, List.length_take, Nat.min_eq_left hj] at lr5
    have hgl : g < s5.gens.size := by
      rcases Nat.lt_or_ge g s5.gens.size with z | z
      · exact z
      · rw [Array.getElem?_eq_none z] at gs5; cases gs5
    rw [← hnj] at go5
    have at_ : ∀ {s₁ : Shared}, (∀ b ∈ [C, D], s₁.heap.get? b = (s5.setGen g .running).heap.get? b) → s₁.heap.Ns C m5 ∧ s₁.heap.get? D = some (lstObj acc c5) := fun h =>
      ⟨n5.at' fun o e => (h C List.mem_cons_self).trans e, (h D (List.mem_cons_of_mem _ List.mem_cons_self)).trans d5⟩
    refine wpAny_gsz (n := s5.gens.size) (Nat.le_refl _) (next_genG (n := n) (F := fun n s₀ s1 => n = 0 ∧ ∃ H', s1.os = sc.os ∧ AllBare s1.gens ∧ Un (frs X.stack) [] H1 H' sc.heap s1.heap ∧ HOk X.prog X.w H' s1.heap ∧ (∀ b ∈ [C, D], H' b = none ∧ s1.heap.get? b = s₀.heap.get? b) ∧ Qe H')
      (Er := fun e s1 => CX X.prog X.w X.stack H1 sc NoEx e s1 ∧ s1.heap.IsGen a g) (Y := YI X.prog X.w X.stack H1 sc [C, D] a g T) hr.hd l5 hroom g5 gs5 (go5 _ ⟨rfl, allBare_setGen b5 rfl, fun _ _ _ e => e, ex5⟩) (fun v s₁ gs' hbare hy hle => ?_) (fun s₁ hF h' hk hle => ?_) fun e s₁ ⟨hc, _⟩ => ?_)
    · obtain ⟨j', xv, e1, e2, rv, o1, bb1, l1, ig1, ⟨H', y', un', hok', cp'⟩, kap⟩ := hy
      obtain ⟨nC, dD⟩ := at_ fun b hb => (cp' b hb).2
      cases n with
      | zero => exact (kap s₁ (slp_refl bb1 (cps nC dD))).elim
      | succ n =>
        have ej : j' = j := by omega
        subst ej
        have J6 : Inv X pins σ H' (s₁.setGen g gs') := I1.call' (ch := []) o1 un' hok' (allBare_setGen bb1 hbare) fun b z => by simp at z
        refine wpAny_of_eq (rfl : letOwnedTupleGo (.Name x px) (.ref a) v = pure ()) ?_
        refine wpAny_assign_Name (wpAny_storeName_local (own_local hx) (show (s₁.setGen g gs').heap.Ns C m5 from nC) (fun h7 n7 sb7 => ?_) (own_plain ok.kind))
        refine wpAny_tests_nil ?_
        rw [if_pos rfl]
        refine wpAny_mono (he pins σ H' (s₁.setGen g gs') _ (C + 1) C D _ _ _ v xv (f xv) J6 (cp' C List.mem_cons_self).1 (cp' D (List.mem_cons_of_mem _ List.mem_cons_self)).1 (fun b o hb _ e => sb7.extBut b o hb e) n7 (by simp) rv (hf H' xv y' (List.mem_of_getElem? e1))) (fun y s8 ⟨ry, k8, e8⟩ => ?_) fun _ _ e => e
        subst e8
        have d8 : h7.get? D = some (lstObj acc c5) := sb7.extBut D _ (Ne.symm hCD) dD
        refine append_at (its := acc) (n := c5) (hsz := by rw [← Array.length_toList, ← lr5]; exact Nat.le_trans hj hT) d8 fun h9 sb9 e9 => ?_
        have k9 : ∀ b o, b ≠ C → b ≠ D → s₁.heap.get? b = some o → h9.get? b = some o := fun b o h1 h2 e => sb9.extBut b o h2 (sb7.extBut b o h1 e)
        have n9 : h9.Ns C _ := n7.at' fun o e => sb9.extBut C o hCD e
        have cl : cStatics ≠ C ∧ cStatics ≠ D := by
          obtain ⟨mc, hns, _⟩ := hl
          have lt := hns.lt
          rw [hD] at lt
          exact ⟨Nat.ne_of_lt (Nat.lt_trans lt (by rw [sz3]; exact Nat.lt_succ_self D)), Nat.ne_of_lt lt⟩
        have aCD : a ≠ C ∧ a ≠ D := ⟨Nat.ne_of_lt (Nat.lt_trans ha2 (by rw [sz3]; exact Nat.lt_succ_self D)), Nat.ne_of_lt ha2⟩
        refine ⟨T.xs.length - (j' + 1), by omega, j' + 1, rfl, by omega, o1, allBare_setGen bb1 hbare, ?_, ?_, ⟨_, n9⟩, ⟨acc.push y, c5 + 1, e9, ?_⟩, gs', setGen_at (by rw [setGen_size] at hle; omega), fun s'' z => ?_⟩
        · obtain ⟨mc, hns, hnn⟩ := l1
          exact ⟨mc, hns.at' fun o e => k9 _ o cl.1 cl.2 e, hnn⟩
        · obtain ⟨o, nm, qn, ho, r⟩ := ig1
          exact ⟨o, nm, qn, k9 _ _ aCD.1 aCD.2 ho, r⟩
        · rw [Array.toList_push, List.take_add_one, e1, List.map_append]
          exact r5.append (.cons ry .nil)
        · have e3 : T.xs.length - (j' + 1) = n := by omega
          rw [e3]
          refine kap s'' ?_
          refine slp_trans ?_ z
          exact ⟨rfl, allBare_setGen bb1 hbare, fun b o hb e => k9 b o (fun q => hb (q ▸ List.mem_cons_self)) (fun q => hb (q ▸ List.mem_cons_of_mem _ List.mem_cons_self)) e, cps n9 e9⟩
    · obtain ⟨h0, H', o1, bb1, un', hok', cp', hQe⟩ := hF
      obtain ⟨nC, dD⟩ := at_ fun b hb => (cp' b hb).2
      have ej : j = T.xs.length := by omega
      subst ej
      rw [List.take_length] at r5
      have hDn' := (cp' D (List.mem_cons_of_mem _ List.mem_cons_self)).1
      have Je := I1.drained (S := D) (ex := []) (s' := { s₁.setGen g .finished with heap := h' }) (out := T.xs.map f) (acc := acc) (c := c5) (by rw [← hD]; exact Nat.le_trans ha1 (Nat.le_of_lt (by rw [hD]; exact ha2))) (by rw [List.length_map]; exact hT) (hk D _ dD) r5 ExOk.nil o1 (allBare_setGen bb1 rfl) (un'.trans (Un.kept hk)) (hok'.kept hk) hDn'
      obtain ⟨f0, f1, f2, f3, f4, f5⟩ := J3.fpOk (b := C) (H' := upd H' D (.lst (T.xs.map f))) (Nat.le_of_eq hC) (by rw [upd_ne hCD]; exact (cp' C List.mem_cons_self).1)
      exact ⟨m5, nC.at' fun o e => hk C o e, fun h'' sb => ⟨.ref D, _, Je.turned (t' := s₁.toks) (fun b o hb e => (sb.2 b hb).trans e) f0 f1 f3 f4 f5, rfl, hq H' D hQe hDn'⟩⟩
    · obtain ⟨_, _, _, _, _, _, _, _, _, _, _, _, z⟩ := hc
      exact z.elim
  exact codeAny_compStart_list loop (wpAny_pyIter_gen start.2.2.2.2.1 loop)
end NG

set_option Elab.async false
set_option linter.all false
set_option maxRecDepth 100000
set_option maxHeartbeats 2000000
/-! Nf48: normal forms for generator methods that hand out ints, and a comprehension over their calls. -/
namespace NF
open PySem PySem.Spec PyProof.Rows L2
open Data (toD)
def catR {α β : Type} (f : α → Res (List β)) : List α → Res (List β)
  | [] => .ok []
  | a :: as => (f a).bind fun ys => (catR f as).bind fun zs => .ok (ys ++ zs)
/-- the ints that a statement of a generator's body hands out -/
def tGY (F : Fr) (L : List (Option Asr)) (O : List Own) (m : Res (List Int)) (L2 : List (Option Asr)) : NG.TGn := fun T nx j σ H =>
  G F L O σ H ∧ (∀ H', (∀ a o, F.H0 a = some o → a ∉ F.W → H' a = some o) → T.yd H') ∧ ∃ ys, m = .ok ys ∧ j + ys.length ≤ T.xs.length ∧ (∀ i v, ys[i]? = some v → T.xs[j + i]? = some (V.int v)) ∧ ∀ σ' H', G F L2 O σ' H' → nx (j + ys.length) σ' H'
theorem gs_imp {X : Cx} {st : Stmt} {t t' : NG.TGn} (h : NG.GS X st t) (i : ∀ T nx j σ H, t' T nx j σ H → t T nx j σ H) : NG.GS X st t' :=
  ⟨fun A R cp tot ip n j s₀ c fs K J gd lv s cv σ H nx g k hn hv I ht => h.run A R cp tot ip n j s₀ c fs K J gd lv s cv σ H nx g k hn hv I (i _ _ _ _ _ ht)⟩
theorem gss_ex {X : Cx} {st : List Stmt} {κ : Sort _} {t : κ → NG.TGn} (h : ∀ i, NG.GSs X st (t i)) : NG.GSs X st (fun T nx j σ H => ∃ i, t i T nx j σ H) :=
  ⟨fun A R cp tot ip n j s₀ c fs K J gd lv s cv σ H nx g k hn hv I ⟨i, ht⟩ => (h i).run A R cp tot ip n j s₀ c fs K J gd lv s cv σ H nx g k hn hv I ht⟩
section
variable {X : Cx} {F : Fr} {L L2 : List (Option Asr)} {O : List Own} {α : Type} [Rep α]
theorem gn_yield {b : Bool} {e : Expr} {yp pos : Pos} {m : Res Int} (h : PE X e (tP b F L O m)) (hw : wk L L2) (hco : X.env.scope.isCoroutine = false := by rfl) (hi : interactive X.env = false := by rfl) :
    NG.GS X (.Expr (.Yield (some e) yp) pos) (tGY F L O (m.bind fun n => .ok [n]) L2) := gs_imp (NG.gs_yield h hco hi) fun T nx j σ H ⟨g, hy, ys, e, hl, hx, k⟩ => by
  cases m with
  | err c fs => cases e
  | bad => cases e
  | ok n =>
    cases e
    refine ⟨hl, g, fun v H1 g1 s1 r1 => ?_⟩
    cases r1
    exact ⟨hx 0 n rfl, hy H1 g1.go.keep, k σ H1 ⟨wk_ok hw g1.slots, g1.go⟩⟩
theorem gn_for {tg iter : Expr} {g : TG} {vs : List Nat} {bd : α → List (Option Asr) → List (Option Asr)} {m : Res (List α)} {f : α → Res (List Int)} {body : List Stmt} {pos : Pos}
    (hp : PassesOwn (model X.prog X.w) X.A X.env X.xe) (hc : X.calm = true) (hi : PI X tg iter (tI true F L O m)) (ht : Tg X F.K F.mg tg g vs bd) (hw : wk L L2)
    (hb : ∀ z a, NG.GSs X body (tGY (F.add z) (bd a L2) O (f a) L2)) (hs : ∀ x, foldedSetIterable iter X.env x = pure x := by intro _; rfl) : NG.GS X (.For tg iter body [] pos) (tGY F L O (m.bind fun as => catR f as) L2) := by
  have hb' : NG.GSs X body (fun T nx j σ H => ∃ z a, tGY (F.add z) (bd a L2) O (f a) L2 T nx j σ H) := gss_ex fun z => gss_ex fun a => hb z a
  refine gs_imp (NG.gs_for hp hc hi ht.pg hb' hs) fun T nx j σ H ⟨g0, hy, ys, e, hl, hx, k⟩ => ?_
  cases m with
  | err c fs => cases e
  | bad => cases e
  | ok as =>
    have e : catR f as = .ok ys := e
    refine ⟨g0, fun J H1 S g1 s1 hS => ?_⟩
    have zf : ∃ z : Fact, z = ⟨S.src, fun e h => S.mono e h⟩ := ⟨_, rfl⟩
    obtain ⟨z, hz⟩ := zf
    refine ⟨fun i m j' σ H => m = as.length - i ∧ i ≤ as.length ∧ G (F.add z) L2 O σ H ∧ ∃ zs, catR f (as.drop i) = .ok zs ∧ j' + zs.length = j + ys.length ∧ ∀ i v, zs[i]? = some v → T.xs[j' + i]? = some (V.int v), ⟨as.length, by simp, Nat.zero_le _, ?_, ys, e, rfl, hx⟩, ?_⟩
    · refine ⟨wk_ok hw g1.slots, g1.go.add z ?_⟩
      subst hz
      exact hS
    · rintro i m j' σ H ⟨rfl, hi', g2, zs, e2, hl2, hx2⟩
      have hsrc : S.src (rg F O H) := by
        have h := g2.go.fact
        subst hz
        exact h
      by_cases hlt : i < as.length
      · refine .inr ⟨S.walk.goes i H hlt (S.mono less_same hsrc), fun j' σ' H' => ∃ m', m' < as.length - i ∧ (m' = as.length - (i + 1) ∧ i + 1 ≤ as.length ∧ G (F.add z) L2 O σ' H' ∧ ∃ zs, catR f (as.drop (i + 1)) = .ok zs ∧ j' + zs.length = j + ys.length ∧ ∀ i v, zs[i]? = some v → T.xs[j' + i]? = some (V.int v)), fun _ _ _ h => h, fun x H' y => ?_⟩
        have ha : as[i]? = some as[i] := List.getElem?_eq_getElem hlt
        rw [List.drop_eq_getElem_cons hlt] at e2
        obtain ⟨s2, yy⟩ := S.ylds i H x H' (S.walk.yields i H x H' hlt (S.mono less_same hsrc) y)
        have r2 : rp (F.add z) (rg F O H') x as[i] := yy _ (fun a ha z => g2.go.out z ha) hsrc _ ha
        have g3 := g2.grow s2
        refine ht.ok x as[i] σ H' (rg F O H') L2 _ less_same r2 g3.slots fun σ2 _ hs2 => ?_
        have e3 : ((f as[i]).bind fun ys => (catR f (as.drop (i + 1))).bind fun zs => Res.ok (ys ++ zs)) = .ok zs := e2
        cases e4 : f as[i] with
        | err c fs => rw [e4] at e3; cases e3
        | bad => rw [e4] at e3; cases e3
        | ok us =>
          rw [e4] at e3
          cases e5 : catR f (as.drop (i + 1)) with
          | err c fs => rw [e5] at e3; cases e3
          | bad => rw [e5] at e3; cases e3
          | ok ws =>
            rw [e5] at e3
            cases e3
            rw [List.length_append] at hl2
            refine ⟨z, as[i], ⟨hs2, g3.go⟩, hy, us, e4, by omega, fun i' v hv => hx2 i' v (by rw [List.getElem?_append_left (List.getElem?_eq_some_iff.mp hv).1]; exact hv), fun σ' H'' g' => ⟨as.length - (i + 1), by omega, rfl, by omega, g', ws, rfl, by omega, fun i' v hv => ?_⟩⟩
            have := hx2 (us.length + i') v (by rw [List.getElem?_append_right (by omega), show us.length + i' - us.length = i' by omega]; exact hv)
            rw [← Nat.add_assoc] at this
            exact this
      · have ei : i = as.length := by omega
        subst ei
        rw [List.drop_length] at e2
        cases e2
        refine .inl ⟨S.walk.stops H (S.mono less_same hsrc), ?_⟩
        have ej : j' = j + ys.length := by simpa using hl2
        rw [ej]
        exact k σ H ⟨g2.slots, g2.go.unadd⟩
end
/-! ### a generator method -/
def spN {τ : Type} [RepA τ] (K : Fg) (mg : MG) (mir : τ → Res (List Int)) : NG.SpN := fun vs H T Q _ => ∃ (a : τ) (A : List Addr) (xs : List Int), (∀ x ∈ A, H x ≠ none) ∧ RepA.rep K mg (less H A) vs a ∧ mir a = .ok xs ∧ T.xs = xs.map V.int ∧ (∀ H', Same H H' → T.yd H') ∧ ∀ H', Same H H' → Q H'
section
variable {P : Program} {w : World} {K : PySem.W.Frag} {mg : Str → Option Value} {base : Heap} {τ : Type} [RepA τ]
variable {x qual : Str} {st : Stmt} {f : Addr} {fd : FuncData} {N ps : List Str} {k : Nat}
theorem def_N {mir : τ → Res (List Int)} (Fu : Fun K x qual st f fd) (S : GScope N ps (defScope st)) (L0 L2 : τ → List (Option Asr)) (hl : ∀ (vs : List V) (R : Hp) (a : τ), RepA.rep K mg R vs a → vs.length = ps.length ∧ Paired (SlotOk R) (L0 a) (start N vs))
    (body : ∀ (cdv : Value) (A : Around) (outer : List Env) (s : Shared) (H : Hp) (Av : List Addr) (E : XK) (pn : List (Addr × PySem.Obj)) (a : τ), Room k (A.deeper (envOfC qual (defScope st) s.heap.objs.size f cdv)) →
      NG.GSs (gcxOf P w K mg base N qual (defScope st) f cdv A outer s H E pn) (defBody st) (tGY (F0 K mg H Av E0) (L0 a) [] (mir a) (L2 a))) :
    NG.NFn P w K mg base (k + 1) f fd ps (spN K mg mir) := by
  obtain ⟨oc, od, kV, doc, pm, an, cdv, ct, osl, rfl, lk, hcd⟩ := Fu.ex
  refine NG.nfn_of lk hcd S (fun vs H T Q E ⟨a, A, xs, _, h, _⟩ => (hl vs _ a h).1) fun A outer s H vs T Q E pn hr ⟨a, Av, xs, hA, h, hm, hT, hY, hQ⟩ => ⟨_, body cdv A outer s H Av E pn a hr, ⟨(hl vs _ a h).2, go_start hA⟩, fun H' q => hY H' fun b o e => q b o e (fun z => nomatch z), xs, hm, by rw [hT, List.length_map]; omega, fun i v hv => by rw [hT, Nat.zero_add, List.getElem?_map, hv]; rfl, fun σ' H' g => ⟨by rw [hT, List.length_map]; omega, hQ H' (go_same g.go)⟩⟩
structure MethG (P : Program) (w : World) (K : Fg) (mg : MG) (base : Heap) (k : Nat) (x m : Str) (ps : List Str) (sp : NG.SpN) : Prop where
  ex : ∃ (C f : Addr) (fd : FuncData), mg x = some (.ref C) ∧ Cls K C ∧ Meth K C m f ∧ NG.NFn P w K mg base k f fd ps sp ∧ Binds K fd ps []
end
section
variable {X : Cx} {F : Fr} {L : List (Option Asr)} {O : List Own} {α : Type} [Obj α] {k : Nat} {ps : List Str} {x m : Str} {px pos pos' apos pe : Pos} {o : Expr} {b : Bool} {scope : Scope} {own : List (Str × Nat)}
/-- [x for x in o.m()] -/
theorem f_lcG {mir : Ar α Unit → Res (List Int)} {mo : Res α} {pl : Sem Bool} (D : MethG X.prog X.w X.K X.mg X.base k (Obj.cls α) m ps (spN X.K X.mg mir)) (hr : Room (k + 3) X.A) (ho : PE X o (tP b F L O mo)) (hN : X.N.Nodup) (ok : BlkOk X.N X.env.scope scope own) (hx : scope.names.lookup x = some .local := by rfl)
    (hf : ∀ a : α, (Obj.fa F.K F.mg a).lookup m = none := by intro _; rfl) (hK : X.K = F.K := by rfl) (hM : X.mg = F.mg := by rfl) (hd : (x == ("__debug__" : Str)) = false := by decide) (hs : ∀ x, foldedSetIterable (.Call (.Attribute o m apos) [] [] pos') X.env x = pure x := by intro _; rfl)
    (ht : eval (.Call (.Attribute o m apos) [] [] pos') X.env = (do
      let ov ← eval o X.env
      standAt apos.atName
      let (f, first) ← holding [ov] (getMethod ov m pl)
      callWith pos' f first (backTo pos' (starEach [] X.env)) (backToKw pos' (keywordEach [] X.env))) := by rfl) :
    PE X (.ListComp (.Name x pe) [⟨.Name x px, .Call (.Attribute o m apos) [] [] pos', [], 0⟩] scope pos) (tF b F L O (mo.bind fun a => (mir (Ar.mk a ())).quiet.bind fun xs => need (xs.length ≤ sizeLine) (.ok xs))) := by
  obtain ⟨C, f, fd, h1, h2, h3, h4, h5⟩ := D.ex
  refine pe_imp (NG.pe_lcN hN hr (NG.pgn_meth0 (pl := pl) ho h2 h3 h4 (hr.mono (by omega)) h5 ht) ok hx (NG.elt_name ok.kind hx hd) hs) fun σ H Q ⟨g, q⟩ => ?_
  rw [out_bind] at q
  refine ⟨g, q.mono (fun s qs v1 H1 g1 s1 r1 => ?_) fun _ z => z⟩
  have r1' := r1
  obtain ⟨p, C', dx, vs, e1, e2, e3, e4⟩ := r1
  subst e1
  have eC : C' = C := by
    rw [← hM, h1] at e2
    cases e2
    rfl
  subst eC
  cases em : mir (Ar.mk s ()) with
  | err c fs => rw [em] at qs; exact qs.elim
  | bad => rw [em] at qs; exact qs.elim
  | ok xs =>
    rw [em] at qs
    have qs2 : Out F (need (xs.length ≤ sizeLine) (Res.ok xs)) _ _ := qs
    rw [out_need] at qs2
    obtain ⟨hz, kk⟩ := qs2
    refine ⟨p, dx, vs, rfl, rgn_sub _ _ e3, e4.miss (hf s), ⟨xs.map V.int, fun H' => Same H1 H'⟩, Same H1, ⟨Ar.mk s (), avoid b F O, xs, fun x hx => g1.go.avoided x hx, ?_, em, rfl, fun _ h => h, fun _ h => h⟩, by rw [List.length_map]; exact hz, id, fun _ _ _ _ => rfl, fun H' D' s2 hD => ?_⟩
    · rw [← rgn_avoid, hK, hM]
      exact ⟨V.ref p, [], rfl, r1', rfl⟩
    · have s3 : Same H' (upd H' D' (.lst ((xs.map V.int).map id))) := same_upd hD
      rw [List.map_id] at s3 ⊢
      refine kk D' (xs.map V.int) _ ((g1.grow s2).grow s3) ((s1.trans s2).trans s3) ?_ upd_same (reps_ints xs)
      cases z : H D' with
      | none => rfl
      | some ob =>
        have := s2 _ _ (s1 _ _ z)
        rw [hD] at this; cases this
end
end NF

set_option Elab.async false
set_option linter.all false
set_option maxRecDepth 100000
set_option maxHeartbeats 2000000
/-! Nf49: list(o), o's own __iter__ hands back a tuple's iterator. -/
namespace NG
open PySem PySem.Spec PyProof.Rows L2 GenW
/-- at it an iterator over the tuple at t, the next place is i -/
def ItT (t it : Addr) (i : Nat) : HO := .ext fun h => h.IsTupleIter it t i
/-- .. wherever it stands -/
def ItX (it : Addr) : HO := .ext fun h => ∃ o, h.get? it = some o
theorem itT_ok {P : Program} {w : World} {H : Hp} {h : Heap} {t it : Addr} {i : Nat} (e : h.IsTupleIter it t i) : ObjOk P w H h it (ItT t it i) := ⟨e, let ⟨o, ho, _⟩ := e; ⟨o, ho⟩, fun h1 h2 ⟨o, ho, r⟩ k => ⟨o, k _ ho, r⟩⟩
theorem itX_ok {P : Program} {w : World} {H : Hp} {h : Heap} {it : Addr} (e : ∃ o, h.get? it = some o) : ObjOk P w H h it (ItX it) := ⟨e, e, fun h1 h2 ⟨o, ho⟩ k => ⟨o, k _ ho⟩⟩
/-- a class whose __iter__ is its own, without __len__ and __length_hint__ -/
structure ItK (K : PySem.W.Frag) (C fi : Addr) : Prop where
  it : PySem.W.findIn K (.ref C) "__iter__" = some (some (.ref fi))
  itF : PySem.W.isFn K (.ref fi) = true
  nolen : PySem.W.findIn K (.ref C) "__len__" = some none
  nohint : PySem.W.findIn K (.ref C) "__length_hint__" = some none
section
variable {X : Cx} {pins : List (Addr × Obj)} {σ : L2.St} {H : Hp} {s : Shared}
/-- iter(t), t a tuple -/
def rIterT (K : PySem.W.Frag) : List V → Hp → VK → Prop := fun xs H Q => ∃ (t : Addr) (zs : List V), xs = [.ref t] ∧ SqT K H t zs ∧ ∀ it, H it = none → Q (.ref it) (upd H it (ItT t it 0))
theorem call_iterT : CallR X (.builtin "iter") (rIterT X.K) := by
  intro pins s σ H xs us Q I r h
  obtain ⟨l, zs, rfl, hq, q⟩ := h
  have e := Vals.ref1 r
  subst e
  obtain ⟨its, rv, pl, hz⟩ := I.tuple hq
  refine Calls.call_function_entry (by decide +kernel) (by decide +kernel) PySem.W.kdk_entry_iter (PySem.W.kdk_args_iter _) ?_
  unfold Builtin.«iter»
  refine wpAny_bind (m := someArgs "iter" 1 2 _) (wpAny_of_eq (a := [Value.ref l]) (by first | rfl | kernel_rfl!) ?_)
  show wpAny _ _ (pyIter (.ref l) >>= _) _ _ _
  refine wpAny_bind (wpAny_pyIter_tuple (show s.heap.IsTuple l its.toArray from pl) ?_)
  exact wpAny_pure ⟨_, rfl, .ref s.heap.objs.size, _, I.laid (t' := s.toks) (fun b u e => Heap.get?_push_of_some _ e) (Nat.le_refl _) (itT_ok ⟨_, Heap.get?_push_size _ rfl, rfl, rfl⟩), rfl, q _ (I.hok.fresh (Nat.le_refl _))⟩
theorem tup_end {prog : Program} {w : World} {A : Around} {E : Value → Shared → Prop} {r : Shared} {it t : Addr} {i : Nat} {xs : Array Value} {Q : Option Value → Shared → Prop} (hh : A.handled = none) (hit : r.heap.IsTupleIter it t i) (ht : r.heap.IsTuple t xs) (hx : xs[i]? = none)
    (hQ : ∀ h', Heap.ExtBut it r.heap h' → (∃ o, h'.get? it = some o) → Q none { r with heap := h' }) : wpAny (model prog w) A (pyNext (.ref it)) Q E r := by
  obtain ⟨o, a1, a2, a3⟩ := id hit
  obtain ⟨ot, b1, _, nt, b2⟩ := ht
  unfold pyNext
  refine wpAny_bind (wpAny_attempt (wpAny_callSpecial?_slot (name := Str.ofString "__next__") hit.typeIs PySem.F.slot_tuple_iterator_next (wpAny_call_entry PySem.F.slot_tuple_iterator_next hit.typeIs PySem.F.entry_tuple_iterator_next ?_ (PySem.F.args_tuple_iterator_next_1 _))))
  show wpAny _ _ (field (.ref it) 0 >>= _) _ _ r
  refine wpAny_bind (wpAny_field a1 a3 (x := .ref t) rfl ?_)
  show wpAny _ _ (if (Value.ref t == Value.none) = true then _ else _) _ _ r
  rw [if_neg (show ¬ ((Value.ref t == Value.none) = true) from Bool.false_ne_true)]
  show wpAny _ _ (field (.ref it) 1 >>= _) _ _ r
  refine wpAny_bind (wpAny_field a1 a3 (x := .int i 0) rfl ?_)
  show wpAny _ _ (seqItems? (.ref t) >>= _) _ _ r
  refine wpAny_bind (wpAny_seqItems b1 b2 ?_)
  simp only [Int.toNat_natCast, hx]
  refine wpAny_bind (wpAny_rule (wpAny_bind (wpAny_setField a1 a3 (by simp) ?_)))
  show wpAny _ _ (newExc (.type "StopIteration") [] >>= _) _ _ _
  refine wpAny_bind ?_
  simp only [newExc, newTuple]
  refine wpAny_bind (wpAny_newObj_type ?_ (by size_fits))
  refine wpAny_bind (m := firstArgMember _ _) (wpAny_of_eq (a := Value.none) (by first | rfl | (simp only [firstArgMember]; rfl)) (wpAny_newObj_type ?_ (by size_fits)))
  simp only [raiseNew]
  refine wpAny_bind (wpAny_handled ?_)
  first | rw [show A.in1.handled = none from hh] | rw [hh]
  refine wpAny_bind (wpAny_pure (wpAny_throw ?_))
  refine wpAny_bind (wpAny_isInstance (b := true) (T := "StopIteration") ⟨_, Heap.get?_push_size _ rfl, rfl⟩ PySem.isSubtype_stop ?_)
  exact wpAny_pure (hQ _ (((Heap.SameBut.update ..).extBut.push _).push _) ⟨_, Heap.get?_push_of_some _ (Heap.get?_push_of_some _ (Heap.get?_update_self _ a1 (Obj.isFreed_of_fields (Obj.data_mapFields a3 _))))⟩)
theorem sqT_upd {K : PySem.W.Frag} {H : Hp} {t b : Addr} {zs : List V} {o o' : HO} (h : SqT K H t zs) (hb : H b = some o) (h1 : o ≠ .tup zs) (h2 : ∀ ob, o ≠ .frz ob (.tup zs)) : SqT K (upd H b o') t zs := by
  rcases h with h | h
  · refine .inl ?_
    rcases h with h | ⟨ob, h⟩
    · exact .inl (by rw [upd_ne (fun z => by rw [z, hb] at h; exact h1 (Option.some.inj h))]; exact h)
    · exact .inr ⟨ob, by rw [upd_ne (fun z => by rw [z, hb] at h; exact h2 ob (Option.some.inj h))]; exact h⟩
  · exact .inr h
/-- the turns -/
theorem it_loop {A1 : Around} {R : Result → Shared → Prop} {q it t : Addr} {zs : List V} (hh : A1.handled = none) (hz : zs.length ≤ sizeLine) : ∀ (k i : Nat) (H : Hp) (s : Shared), i + k = zs.length → Inv X pins σ H s → H q = some (.lst (zs.take i)) → H it = some (ItT t it i) → SqT X.K H t zs →
    (∀ H' s', Inv X pins σ H' s' → (∀ b, b ≠ it → b ≠ q → H' b = H b) → H' q = some (.lst zs) → (∃ o, H' it = some o) → R (.ok (.ret .none)) s') → codeAny (model X.prog X.w) A1 (.builtin "list.extend.loop" ⟨[.ref q, .ref it, .none], []⟩) R s := by
  intro k
  induction k with
  | zero =>
    intro i H s hi I hq hit ht hR
    have ei : i = zs.length := by omega
    subst ei
    rw [List.take_length] at hq
    obtain ⟨its, rv, pl, _⟩ := I.tuple ht
    have lr := rv.length
    refine codeAny_builtin PySem.F.entry_extend_loop ?_
    rw [Around.under_plainId PySem.F.plain_extend_loop _]
    show wpAny _ A1.in1 (pyNext (.ref it) >>= _) _ _ s
    refine wpAny_bind (tup_end hh (I.hok it _ hit).1 (show s.heap.IsTuple t its.toArray from pl) (by rw [List.getElem?_toArray, List.getElem?_eq_none_iff]; omega) fun h' hs hw => ?_)
    have I2 : Inv X pins σ (upd H it (ItX it)) { s with heap := h', toks := s.toks } := I.write (x := it) (e := it) (by rw [hit]; trivial) (.inl rfl) (fun b u hb hu => hs b u hb hu) hw (itX_ok hw)
    exact wpAny_pure (hR _ _ I2 (fun b h1 _ => upd_ne h1) (by rw [upd_ne (fun z => by rw [z, hit] at hq; cases hq)]; exact hq) ⟨_, upd_same⟩)
  | succ k ih =>
    intro i H s hi I hq hit ht hR
    obtain ⟨its, rv, pl, _⟩ := I.tuple ht
    have lr := rv.length
    have hlt : i < zs.length := by omega
    obtain ⟨x, hx⟩ : ∃ x, zs[i]? = some x := ⟨zs[i], List.getElem?_eq_getElem hlt⟩
    obtain ⟨u, hu, ru⟩ := rv.get hx
    have nq : q ≠ it := fun z => by rw [z, hit] at hq; cases hq
    refine codeAny_builtin PySem.F.entry_extend_loop ?_
    rw [Around.under_plainId PySem.F.plain_extend_loop _]
    show wpAny _ A1.in1 (pyNext (.ref it) >>= _) _ _ s
    refine wpAny_bind (wpAny_pyNext_tuple_item (I.hok it _ hit).1 (show s.heap.IsTuple t its.toArray from pl) (x := u) (by simpa using hu) fun h' hi' hs => ?_)
    have hw : ∃ o, h'.get? it = some o := let ⟨o, ho, _⟩ := hi'; ⟨o, ho⟩
    have I2 : Inv X pins σ (upd H it (ItT t it (i + 1))) { s with heap := h', toks := s.toks } := I.write (x := it) (e := it) (by rw [hit]; trivial) (.inl rfl) (fun b u hb hu => hs.extBut b u hb hu) hw (itT_ok hi')
    have hq2 : upd H it (ItT t it (i + 1)) q = some (.lst (zs.take i)) := by rw [upd_ne nq]; exact hq
    show wpAny _ A1.in1 (updateSeq q (·.push u) >>= _) _ _ _
    obtain ⟨z, js, c, r2, hl, e⟩ := I2.lstM hq2
    have hjl : js.length = i := by rw [← hl, List.length_take]; omega
    refine wpAny_bind (wpAny_updateSeq e rfl (wpAny_pure ⟨plainId_quiet PySem.F.plain_extend_loop _, ?_⟩) (by rw [List.size_toArray]; omega) (by show (js.toArray.push u).size ≤ sizeLine + 1; rw [Array.size_push, List.size_toArray]; omega))
    have etk : zs.take i ++ [x] = zs.take (i + 1) := by rw [List.take_add_one, hx]; rfl
    have I3 := I2.lset (f := (·.push u)) (its' := js ++ [u]) (ys := zs.take i ++ [x]) (t' := s.toks) hq2 e (by simp) (r2.append (.cons ru .nil)) (by rw [List.length_append, List.length_singleton, List.length_take]; omega)
    rw [etk] at I3
    refine ih (i + 1) _ _ (by omega) I3 upd_same (by rw [upd_ne (Ne.symm nq)]; exact upd_same) ?_ fun H' s' J h1 h2 h3 => hR H' s' J (fun b n1 n2 => by rw [h1 b n1 n2, upd_ne n2, upd_ne n1]) h2 h3
    exact sqT_upd (sqT_upd ht hit (fun z => by cases z) fun ob z => by cases z) hq2 (fun z => by cases z) fun ob z => by cases z
/-- list(o) -/
def rListIt (K : PySem.W.Frag) (C : Addr) (spI : Sp) (EI : XK) : List V → Hp → VK → Prop := fun xs H Q => ∃ a dx fs, xs = [.ref a] ∧ H a = some (.ins C dx fs) ∧ ∀ q, H q = none → spI [.ref a] (upd H q (.lst []))
  (fun v H' => H' q = some (.lst []) ∧ H' a = some (.ins C dx fs) ∧ ∃ it t zs, v = .ref it ∧ H' it = some (ItT t it 0) ∧ SqT K H' t zs ∧ ∀ H'', (∀ b, b ≠ it → b ≠ q → H'' b = H' b) → H'' q = some (.lst zs) → (∃ o, H'' it = some o) → Q (.ref q) H'') EI
variable {CI : CXT} {C fi : Addr} {n : Nat} {fdI : FuncData} {psI : List Str} {spI : Sp} {EI : XK}
theorem it_hint {M : Model} {A : Around} {E : Value → Shared → Prop} {Q : Bool → Shared → Prop} {K : PySem.W.Frag} {a : Addr} {ox : Obj} {od : Option Obj} (hc : ItK K C fi) (hK : K.In s.heap) (J : PySem.W.InstAt s.heap a ox C od) (h : Q true s) :
    wpAny M A (Builtin.List.listLengthHint (.ref a)) Q E s := by
  unfold Builtin.List.listLengthHint
  refine wpAny_bind (wpAny_bind (J.type.here ((PySem.W.looks_findIn hK hc.nolen).here ?_)))
  refine PySem.W.KFB.if_not rfl (PySem.W.KFB.if_not rfl ?_)
  exact wpAny_bind (wpAny_bind (J.type.here ((PySem.W.looks_findIn hK hc.nohint).here (wpAny_pure h))))
theorem it_extend {A1 : Around} {Rs : Result → Shared → Prop} {a q dx : Addr} {fs : List (Str × V)} {Qr : VK} (hc : ItK X.K C fi) (FI : FnOk X.prog X.w X.K X.mg X.base CI n fi fdI psI spI) (bI : Binds X.K fdI psI []) (xI : Passes CI X EI) (sb : Sub X n A1.in1) (hd : A1.handled = none)
    (I : Inv X pins σ H s) (ha : H a = some (.ins C dx fs)) (hq : H q = some (.lst []))
    (hsp : spI [.ref a] H (fun v H' => H' q = some (.lst []) ∧ H' a = some (.ins C dx fs) ∧ ∃ it t zs, v = .ref it ∧ H' it = some (ItT t it 0) ∧ SqT X.K H' t zs ∧ ∀ H'', (∀ b, b ≠ it → b ≠ q → H'' b = H' b) → H'' q = some (.lst zs) → (∃ o, H'' it = some o) → Qr (.ref q) H'') EI)
    (hdone : ∀ H'' s, Inv X pins σ H'' s → Qr (.ref q) H'' → Rs (.ok (.ret .none)) s) (herr : ∀ e s, X.xe e s → Rs (.error e) s) :
    wpAny (model X.prog X.w) A1.in1 (Builtin.List.listExtendWith (.ref q) (.ref a) .none)
      (fun fin s' => match fin with | .done f => Rs (.ok f) s' | .again c' => c'.quiet = true ∧ codeAny (model X.prog X.w) A1 c' Rs s') (fun e s' => Rs (.error e) s') s := by
  have hne : q ≠ a := ne_of hq ha (fun z => nomatch z)
  obtain ⟨mA, J, _⟩ := ins_get I.hok ha
  obtain ⟨od, J, _⟩ := J.look
  obtain ⟨m0, hF⟩ := I.fr
  unfold Builtin.List.listExtendWith
  refine wpAny_bind (J.type.here ?_)
  have h1 : Builtin.List.listSameRef (.ref q) (.ref a) = false := by simp [Builtin.List.listSameRef, hne]
  have h2 : (Value.ref C == Value.type "list") = false := rfl
  have h3 : (Value.ref C == Value.type "tuple") = false := rfl
  simp only [h1, h2, h3, Bool.or_false, Bool.false_eq_true, if_false]
  refine wpAny_bind (PySem.W.owit_iter hF I.ok.mod.kin J hc.it hc.itF ?_)
  have e0 : Env0 X.prog X.w X.K X.mg X.base A1.in1 X.stack s H := by
    have e := I.env0
    exact ⟨by rw [sb.fr]; exact e.frames, e.mod, e.bs, e.bsz, e.funs, e.frf, e.hok, e.bare⟩
  have hl := FI.len _ _ _ _ hsp
  refine wpAny_call (codeAny_mono (FI.run A1.in1 X.stack s H ⟨[Value.ref a], []⟩ [Value.ref a] [V.ref a] _ EI sb.room e0 (by
    have := bI s [Value.ref a] I.kIn (by simpa using hl)
    simpa using this) (show Vals [V.ref a] [Value.ref a] from .cons (show RelV (V.ref a) (Value.ref a) from rfl) .nil) hsp) fun r s' hq' => ?_)
  cases r with
  | error e => exact herr e s' (xI pins σ H s e s' I hq')
  | ok fl =>
    cases fl with
    | next => exact False.elim hq'
    | brk => exact False.elim hq'
    | cont => exact False.elim hq'
    | ret u =>
      obtain ⟨v, H', I', rv', hqq, haa, it, t, zs, ev, hit, ht, hK⟩ := I.after hq'
      obtain ⟨_, _, _, hz⟩ := I'.tuple ht
      subst ev
      have eu : u = Value.ref it := rv'
      subst eu
      obtain ⟨oi, hoi, hci, _⟩ := (I'.hok it _ hit).1
      unfold PySem.W.OwitIt
      refine wpAny_specialOf (T := "tuple_iterator") ⟨oi, hoi, hci⟩ PySem.F.slot_tuple_iterator_next.lookup ?_
      show wpAny _ _ _ _ _ s'
      obtain ⟨mA', J', _⟩ := ins_get I'.hok haa
      obtain ⟨od', J', _⟩ := J'.look
      refine wpAny_bind (wpAny_holding (it_hint hc I'.kIn J' ?_))
      have fin : ∀ s1, Inv X pins σ H' s1 → codeAny (model X.prog X.w) A1 (.builtin "list.extend.loop" ⟨[.ref q, .ref it, .none], []⟩) Rs s1 := fun s1 I1' =>
        it_loop hd hz zs.length 0 H' s1 (Nat.zero_add _) I1' (by rw [List.take_zero]; exact hqq) hit ht fun H'' s'' J'' h1 h2 h3 => hdone H'' s'' J'' (hK H'' h1 h2 h3)
      obtain ⟨z, its, k, r3, hl3, e3⟩ := I'.lstM hqq
      cases r3
      refine wpAny_ite_split (fun _ => ?_) (fun _ => wpAny_pure ⟨plainId_quiet PySem.F.plain_extend_loop _, fin s' I'⟩)
      refine wpAny_bind (wpAny_rule ?_)
      refine wpAny_bind ?_
      show wpAny _ _ (updateSeq q (·.push .none) >>= fun _ => updateSeq q (·.pop)) _ _ _
      refine wpAny_bind (wpAny_updateSeq e3 rfl ?_)
      have K2 := I'.lset (f := (·.push Value.none)) (its' := [Value.none]) (ys := [.non]) (t' := s'.toks) hqq e3 (by simp) (.cons rfl .nil) (by rw [List.length_singleton, sizeLine_eq]; decide)
      obtain ⟨z4, its4, k4, r4, hl4, e4⟩ := K2.lstM upd_same
      obtain ⟨u4, rfl, ru4⟩ := r4.one
      refine wpAny_updateSeq e4 rfl ?_ (by show 1 ≤ sizeLine; rw [sizeLine_eq]; decide) (by show 0 ≤ sizeLine + 1; exact Nat.zero_le _)
      refine wpAny_pure ⟨plainId_quiet PySem.F.plain_extend_loop _, fin _ ?_⟩
      have K3 := K2.lset (f := (·.pop)) (its := [u4]) (its' := []) (ys := []) (t' := s'.toks) upd_same e4 (by rfl) .nil (Nat.zero_le _)
      rw [upd_upd] at K3
      have hH : upd H' q (.lst []) = H' := by
        funext b
        by_cases hb : b = q
        · rw [hb, upd_same, hqq]
        · rw [upd_ne hb]
      rw [hH] at K3
      exact K3
theorem call_listIt (hc : ItK X.K C fi) (FI : FnOk X.prog X.w X.K X.mg X.base CI n fi fdI psI spI) (bI : Binds X.K fdI psI []) (xI : Passes CI X EI) (hr : Room (n + 3) X.A) : CallR X (.type "list") (rListIt X.K C spI EI) := by
  intro pins s σ H xs us Q I rv h
  obtain ⟨a, dx, fs, rfl, ha, hq⟩ := h
  obtain ⟨u, rfl, ru⟩ := rv.one
  cases ru
  have sb : Sub X n X.A.in1.in1 := (Sub.in1 (Sub.in1 (⟨hr.mono (by omega), rfl⟩ : Sub X (n + 2) X.A)))
  refine callType_codes (Q₁ := fun obj s₁ => obj = .ref s.heap.objs.size ∧ s₁ = { s with heap := s.heap.push { cls := .type "list", data := .seq #[] } }) PySem.F.called_list (PySem.F.typeCall_list_1 _) PySem.F.entry_list_init
    (code_list_new _ ⟨rfl, rfl⟩) fun obj s₁ h₁ => ?_
  obtain ⟨rfl, rfl⟩ := h₁
  have hS : (s.heap.push { cls := .type "list", data := .seq #[] }).get? s.heap.objs.size = some { cls := .type "list", data := .seq #[] } := Heap.get?_push_size _ rfl
  refine ⟨⟨_, hS, rfl⟩, PySem.F.args_list_init_2 _ _, ?_⟩
  have fr : H s.heap.objs.size = none := I.hok.fresh (Nat.le_refl _)
  have hsp := hq _ fr
  have I1 : Inv X pins σ (upd H s.heap.objs.size (.lst [])) { s with heap := s.heap.push { cls := .type "list", data := .seq #[] } } := I.lnew (its := []) (t' := s.toks) .nil (Nat.zero_le _)
  show wpAny _ _ (do let old ← Builtin.List.listItems (.ref s.heap.objs.size); Builtin.List.listUpdate (.ref s.heap.objs.size) (fun _ => #[]); letGo old.toList.reverse; Builtin.List.listExtendWith (.ref s.heap.objs.size) (.ref a) .none) _ _ _
  refine wpAny_bind ?_
  unfold Builtin.List.listItems
  refine wpAny_bind (wpAny_seqItems hS rfl (wpAny_pure ?_))
  show wpAny _ _ (updateSeq s.heap.objs.size (fun _ => #[]) >>= fun _ => letGo (#[] : Array Value).toList.reverse >>= fun _ => Builtin.List.listExtendWith (.ref s.heap.objs.size) (.ref a) .none) _ _ _
  refine wpAny_bind (wpAny_updateSeq hS rfl ?_)
  have I2 := I1.lset (f := fun _ => #[]) (its := []) (its' := []) (ys := []) (t' := s.toks) upd_same hS rfl .nil (Nat.zero_le _)
  rw [upd_upd] at I2
  refine wpAny_bind (wpAny_letGo ?_)
  have ha2 : upd H s.heap.objs.size (.lst []) a = some (.ins C dx fs) := by rw [upd_ne (ne_of_none ha fr)]; exact ha
  exact it_extend (A1 := X.A.in1) (Qr := Q) (Rs := wants (fun r s₂ => r = .none ∧ EP X pins σ Q (.ref s.heap.objs.size) s₂) X.xe) hc FI bI xI sb hr.hd I2 ha2 upd_same hsp
    (fun H'' s'' J hQ => ⟨rfl, .ref s.heap.objs.size, H'', J, rfl, hQ⟩) (fun e s' he => he)
end
end NG

set_option Elab.async false
set_option linter.all false
set_option maxRecDepth 100000
set_option maxHeartbeats 2000000
/-! Nf50: __iter__ that hands back a tuple's iterator, list(o), in normal form. -/
namespace NF
open PySem PySem.Spec PyProof.Rows L2
open Data (toD)
/-- hands back an iterator over a tuple -/
def spIt {τ β : Type} [RepA τ] [Rep β] (K : Fg) (mg : MG) (mir : τ → Res (Tp β)) : Sp := fun vs H Q _ => ∃ (a : τ) (A : List Addr) (xs : Tp β), (∀ x ∈ A, H x ≠ none) ∧ RepA.rep K mg (less H A) vs a ∧ mir a = .ok xs ∧
  ∀ it t zs H', Same H H' → H it = none → H' it = some (NG.ItT t it 0) → SqT K (less (less H' A) [it]) t zs → Reps K mg (less (less H' A) [it]) zs xs.xs → Q (.ref it) H'
section
variable {P : Program} {w : World} {K : PySem.W.Frag} {mg : Str → Option Value} {base : Heap} {τ β : Type} [RepA τ] [Rep β]
variable {x qual : Str} {st : Stmt} {f : Addr} {fd : FuncData} {N ps : List Str} {k : Nat}
theorem def_It {mir : τ → Res (Tp β)} {e : Expr} {p1 p2 p3 : Pos} (Fu : Fun K x qual st f fd) (S : FnScope N ps (defScope st)) (L0 : τ → List (Option Asr)) (hl : ∀ (vs : List V) (R : Hp) (a : τ), RepA.rep K mg R vs a → vs.length = ps.length ∧ Paired (SlotOk R) (L0 a) (start N vs))
    (hb : defBody st = [.Return (some (.Call (.Name "iter" p1) [e] [] p2)) p3]) (hm : mg "iter" = none)
    (body : ∀ (cdv : Value) (A : Around) (outer : List Env) (s : Shared) (H : Hp) (Av : List Addr) (E : XK) (a : τ), Room k (A.deeper (envOfC qual (defScope st) s.heap.objs.size f cdv)) →
      PE (cxOf CX0 P w K mg base N qual (defScope st) f cdv A outer s H E).nox e (tP true (F0 K mg H Av E0) (L0 a) [] (mir a)) ∧
      ∀ {r : List V → Hp → VK → Prop} {t : TA}, CallR (cxOf CX0 P w K mg base N qual (defScope st) f cdv A outer s H E).nox (.builtin "iter") r → PA (cxOf CX0 P w K mg base N qual (defScope st) f cdv A outer s H E).nox [e] t → PE (cxOf CX0 P w K mg base N qual (defScope st) f cdv A outer s H E).nox (.Call (.Name "iter" p1) [e] [] p2) (tCB r t))
    (hs : ∀ env, starEach [e] env = (false, eval e env) :: starEach [] env := by intro _; rfl) :
    FnOk P w K mg base CX0 (k + 1) f fd ps (spIt K mg mir) := by
  refine Fu.ok S (fun vs H Q E ⟨a, A, _, _, h, _⟩ => (hl vs _ a h).1) (fun cdv A outer s H vs Q E hr ⟨a, Av, xs, hA, h, hmir, q⟩ => ?_)
  obtain ⟨b1, b2⟩ := body cdv A outer s H Av E a hr
  rw [hb]
  refine ⟨_, pss_cons (ps_ret (b2 NG.call_iterT (pa_cons b1 pa_nil (hs _)))) pss_nil, ⟨⟨(hl vs _ a h).2, go_start hA⟩, ?_⟩⟩
  rw [hmir]
  intro v H1 g1 s1 r1
  obtain ⟨t, zs, ev, h2, h3⟩ := r1
  subst ev
  have cut : ∀ {it : Addr} {o : HO}, H1 it = none → Same (rgn true (F0 K mg H Av E0) [] H1) (less (less (upd H1 it o) Av) [it]) := fun {it o} hn c ob hc => by
    have hc' : less H1 ([] ++ Av) c = some ob := hc
    by_cases hcA : c ∈ Av
    · rw [less_in (List.mem_append_right _ hcA)] at hc'; cases hc'
    · rw [less_out (by simpa using hcA)] at hc'
      have hci : c ≠ it := fun z => by rw [z, hn] at hc'; cases hc'
      rw [less_out (fun z => hci (List.mem_singleton.mp z)), less_out hcA, upd_ne hci]
      exact hc'
  refine ⟨t, zs, rfl, same_t rgn_sub h2, fun it hit => ?_⟩
  refine q it t zs _ ((go_same g1.go).trans (same_upd hit)) ?_ upd_same (same_t (cut hit) h2) (h3.mono (cut hit))
  cases z : H it with
  | none => rfl
  | some o =>
    have := go_same g1.go it o z
    rw [hit] at this; cases this
structure ItAt (P : Program) (w : World) (K : Fg) (mg : MG) (base : Heap) (k : Nat) (x : Str) (ps : List Str) (sp : Sp) : Prop where
  ex : ∃ (C f : Addr) (fd : FuncData), mg x = some (.ref C) ∧ NG.ItK K C f ∧ FnOk P w K mg base CX0 k f fd ps sp ∧ Binds K fd ps []
end
section
variable {X : Cx} {F : Fr} {L : List (Option Asr)} {O : List Own} {α β : Type} [Obj α] [Rep β] {k : Nat} {ps : List Str} {p1 pos : Pos} {o : Expr} {b : Bool}
/-- list(o) -/
theorem f_listIt {mir : Ar α Unit → Res (Tp β)} {mo : Res α} (D : ItAt X.prog X.w X.K X.mg X.base k (Obj.cls α) ps (spIt X.K X.mg mir)) (hr : Room (k + 3) X.A) (ho : PE X o (tP b F L O mo)) (hK : X.K = F.K := by rfl) (hM : X.mg = F.mg := by rfl)
    (c : ∀ {r : List V → Hp → VK → Prop} {t : TA}, CallR X (.type "list") r → PA X [o] t → PE X (.Call (.Name "list" p1) [o] [] pos) (tCB r t)) (h1 : starEach [o] X.env = (false, eval o X.env) :: starEach [] X.env := by rfl) :
    PE X (.Call (.Name "list" p1) [o] [] pos) (tF b F L O (mo.bind fun a => (mir (Ar.mk a ())).quiet.bind fun t => .ok t.xs)) := by
  obtain ⟨C, f, fd, d1, d2, d3, d4⟩ := D.ex
  refine pe_imp (c (NG.call_listIt d2 d3 d4 pass0 hr) (pa_cons ho pa_nil h1)) fun σ H Q ⟨g, q⟩ => ?_
  rw [out_bind] at q
  refine ⟨g, q.mono (fun s qs v1 H1 g1 s1 r1 => ?_) fun _ z => z⟩
  have r1' := r1
  obtain ⟨p, C', dx, vs, e1, e2, e3, e4⟩ := r1
  subst e1
  have eC : C' = C := by
    rw [← hM, d1] at e2
    cases e2
    rfl
  subst eC
  cases em : mir (Ar.mk s ()) with
  | err c fs => rw [em] at qs; exact qs.elim
  | bad => rw [em] at qs; exact qs.elim
  | ok xs =>
    rw [em] at qs
    have kk : KF β b F L O σ H Q xs.xs := qs
    have hp : H1 p = some (.ins C' dx vs) := rgn_sub _ _ e3
    refine ⟨p, dx, vs, rfl, hp, fun q hq => ⟨Ar.mk s (), q :: avoid b F O, xs, fun x hx => ?_, ?_, em, fun it t zs H' s' hi0 hi ht hr => ?_⟩⟩
    · rcases List.mem_cons.mp hx with z | z
      · rw [z, upd_same]; simp
      · rw [upd_ne (fun y => by rw [y] at z; exact g1.go.avoided _ z hq)]
        exact g1.go.avoided _ z
    · have same : Same (rgn b F O H1) (less (upd H1 q (.lst [])) (q :: avoid b F O)) := fun c o hc => by
        rw [rgn_avoid] at hc
        by_cases hcA : c ∈ avoid b F O
        · rw [less_in hcA] at hc; cases hc
        · rw [less_out hcA] at hc
          have hcq : c ≠ q := fun z => by rw [z, hq] at hc; cases hc
          rw [less_out (fun z => (List.mem_cons.mp z).elim hcq hcA), upd_ne hcq]
          exact hc
      rw [hK, hM]
      exact ⟨V.ref p, [], rfl, Rep.mono same r1', rfl⟩
    · have old : ∀ {c : Addr} {o : HO}, H1 c = some o → c ≠ q ∧ c ≠ it := by
        intro c o hc
        refine ⟨fun z => (by rw [z, hq] at hc; cases hc), fun z => ?_⟩
        rw [z] at hc
        by_cases y : it = q
        · rw [y, hq] at hc; cases hc
        · rw [upd_ne y] at hi0
          rw [hi0] at hc; cases hc
      have niq : it ≠ q := fun y => by rw [y, upd_same] at hi0; cases hi0
      have s3 : Same H1 H' := fun c o hc => s' c o (by rw [upd_ne (old hc).1]; exact hc)
      refine ⟨s' _ _ upd_same, s3 _ _ hp, it, t, zs, rfl, hi, same_t less_same (same_t less_same ht), fun H'' k1 k2 k3 => ?_⟩
      have s4 : Same H1 H'' := fun c o hc => by rw [k1 c (old hc).2 (old hc).1]; exact s3 c o hc
      refine kk q zs H'' (g1.grow s4) (s1.trans s4) (s1.free hq) k2 ?_
      rw [hK, hM] at hr
      refine hr.mono fun c o hc => ?_
      rw [rgn_avoid]
      by_cases hci : c = it
      · rw [hci, less_in List.mem_cons_self] at hc; cases hc
      · rw [less_out (fun z => hci (List.mem_singleton.mp z))] at hc
        by_cases hcA : c ∈ q :: avoid b F O
        · rw [less_in hcA] at hc; cases hc
        · rw [less_out hcA] at hc
          rw [less_out (fun z => hcA (by rw [List.mem_singleton.mp z]; exact List.mem_cons_self)), less_out (fun z => hcA (List.mem_cons_of_mem _ z)), k1 c hci (fun z => hcA (by rw [z]; exact List.mem_cons_self))]
          exact hc
end
end NF

set_option Elab.async false
set_option linter.all false
set_option maxRecDepth 100000
set_option maxHeartbeats 2000000
/-! Nf51: walks over pairs, isinstance of an own class, bools in lists, an owned list handed to an own class. -/
namespace NF
open PySem PySem.Spec PyProof.Rows L2
open Data (toD)
instance {α : Type} [Rep α] : Lk (α × α) α := ⟨fun p => [p.1, p.2], fun ⟨p, v1, v2, h1, h2, h3, h4⟩ => ⟨p, [v1, v2], h1, .inr h2, .cons h3 (.cons h4 .nil)⟩⟩
instance : Scl Bool := ⟨fun _ => rfl, fun a b => by cases a <;> cases b <;> rfl⟩
/-- an own class whose instances isinstance may be asked of -/
structure InsAt (K : Fg) (mg : MG) (x : Str) : Prop where
  ex : ∃ C, mg x = some (.ref C) ∧ Cls K C ∧ PySem.W.findIn K (.ref C) "__class__" = some (some (.builtin "object.__class__")) ∧ PySem.W.specialIn K (.builtin "object.__class__") "__get__" = some (some (.builtin "getset_descriptor.__get__")) ∧
    PySem.W.takesIn K (.builtin "object.__class__") = some true ∧ PySem.W.mroIn K C (.type "object") = some true
section
variable {X : Cx} {F : Fr} {L : List (Option Asr)} {O : List Own} {α : Type} [Obj α] {b1 b3 : Bool} {e : Expr} {p1 p2 pos : Pos}
/-- isinstance(e, its own class) -/
theorem n_isO {T : Str} {m : Res α} (h : PE X e (tP b1 F L O m)) (I : InsAt X.K X.mg (Obj.cls α)) (hT : T = Obj.cls α := by rfl) (hgT : Gl X T := by rfl) (hM : X.mg = F.mg := by rfl) (hd : (T == ("__debug__" : Str)) = false := by decide)
    (h1 : starEach [e, .Name T p2] X.env = (false, eval e X.env) :: starEach [.Name T p2] X.env := by rfl) (h2 : starEach [.Name T p2] X.env = (false, eval (.Name T p2) X.env) :: starEach [] X.env := by rfl)
    (c : ∀ {r : List V → Hp → VK → Prop} {t : TA}, CallR X (.builtin "isinstance") r → PA X [e, .Name T p2] t → PE X (.Call (.Name "isinstance" p1) [e, .Name T p2] [] pos) (tCB r t)) :
    PE X (.Call (.Name "isinstance" p1) [e, .Name T p2] [] pos) (tP b3 F L O (m.bind fun _ => .ok true)) := by
  obtain ⟨C, i1, i2, i3, i4, i5, i6⟩ := I.ex
  refine pe_imp (c call_isi (pa_cons h (pa_cons (pe_glob (v := .ref C) hgT (by rw [hT]; exact i1) rfl hd) pa_nil h2) h1)) fun σ H Q ⟨g, q⟩ => ?_
  rw [out_bind] at q
  refine ⟨g, q.mono (fun a k v H1 g1 s1 r1 => ?_) fun _ z => z⟩
  obtain ⟨p, D, dx, vs, e1, e2, e3, e4⟩ := r1
  subst e1
  have eD : D = C := by
    rw [← hM, i1] at e2
    cases e2
    rfl
  subst eD
  refine ⟨.ref p, .ref D, .ref D, .ref D, true, rfl, .own D, .base (.ins (rgn_sub _ _ e3) i2 i3 i4 i5 i6), ?_, ?_⟩
  · unfold PySem.W.kitOne
    rw [if_pos (by simp)]
  · exact kp_flat (α := Bool) g1 (show KP Bool b3 F L O σ H1 Q true from fun v H' g' s' r' => k v H' g' (s1.trans s') r')
end
/-! ### what holds no list -/
class NoL (α : Type) [Rep α] : Prop where
  no : ∀ {K : Fg} {mg : MG} {R : Hp} {v : V} {x : α} {p : Addr} {zs : List V}, Rep.rep K mg R v x → R p = some (.lst zs) → Rep.rep K mg (less R [p]) v x
theorem sqT_no {K : Fg} {R : Hp} {q p : Addr} {xs zs : List V} (h : SqT K R q xs) (hp : R p = some (.lst zs)) : SqT K (less R [p]) q xs := by
  rcases h with h | h
  · refine .inl ?_
    rcases h with h | ⟨ob, h⟩
    · exact .inl (by rw [less_out (fun z => by rw [List.mem_singleton.mp z, hp] at h; cases h)]; exact h)
    · exact .inr ⟨ob, by rw [less_out (fun z => by rw [List.mem_singleton.mp z, hp] at h; cases h)]; exact h⟩
  · exact .inr h
instance : NoL Int := ⟨fun h _ => h⟩
instance {α β : Type} [Rep α] [Rep β] [NoL α] [NoL β] : NoL (α × β) := ⟨fun ⟨p, v1, v2, h1, h2, h3, h4⟩ hp => ⟨p, v1, v2, h1, sqT_no h2 hp, NoL.no h3 hp, NoL.no h4 hp⟩⟩
theorem reps_no {α : Type} [Rep α] [NoL α] {K : Fg} {mg : MG} {R : Hp} {p : Addr} {zs : List V} (hp : R p = some (.lst zs)) : ∀ {vs : List V} {xs : List α}, Reps K mg R vs xs → Reps K mg (less R [p]) vs xs
  | _, _, .nil => .nil
  | _, _, .cons h t => .cons (NoL.no h hp) (reps_no hp t)
instance {α : Type} [Rep α] [NoL α] : NoL (Tp α) := ⟨fun ⟨p, vs, h1, h2, h3⟩ hp => ⟨p, vs, h1, sqT_no h2 hp, reps_no hp h3⟩⟩
def AllNoL : FA → Prop
  | [] => True
  | (_, A) :: r => (∀ {R : Hp} {v : V} {p : Addr} {zs : List V}, A.P R v → R p = some (.lst zs) → A.P (less R [p]) v) ∧ AllNoL r
theorem flds_no {R : Hp} {p : Addr} {zs : List V} (hp : R p = some (.lst zs)) : ∀ {fl : FA} {vs : List (Str × V)}, AllNoL fl → FldsOk R fl vs → FldsOk (less R [p]) fl vs
  | [], [], _, _ => .nil
  | (g, B) :: fl, (g', w) :: vs, ⟨n, r⟩, .cons q t => .cons ⟨q.1, n q.2 hp⟩ (flds_no hp r t)
section
variable {X : Cx} {F : Fr} {L : List (Option Asr)} {O : List Own} {α β : Type} [Obj α] [Rep β] {k : Nat} {ps : List Str} {x : Str} {p1 pos : Pos}
/-- x(given), given a list of ours -/
theorem fo_makeOv {mir : Ar (Sq β) Unit → Res α} {y : Str} {py : Pos} {p : Addr} {as : List β} (i : Nat) (D : MkAt X.prog X.w X.K X.mg X.base k x ps mir) (hr : Room (k + 1) X.A) (hL : L[i]? = some (rf p)) (hO : ow F.K F.mg p as ∈ O) (hn : ∀ a : α, AllNoL (Obj.fa F.K F.mg a))
    (hN : X.N[i]? = some y := by rfl) (hv : Vis X.env.scope y := by first | exact Or.inl rfl | exact Or.inr (Or.inl rfl) | exact Or.inr (Or.inr rfl)) (hd0 : (y == ("__debug__" : Str)) = false := by decide) (hcd : (y == ("__classdict__" : Str)) = false := by decide)
    (hg : Gl X x := by rfl) (hE : F.E = E0 := by rfl) (hK : X.K = F.K := by rfl) (hM : X.mg = F.mg := by rfl) (hd : (x == ("__debug__" : Str)) = false := by decide)
    (hs : starEach [.Name y py] X.env = (false, eval (.Name y py) X.env) :: starEach [] X.env := by rfl) (hs2 : (backTo pos (starEach [] X.env)).any (·.1) = false := by rfl) : PE X (.Call (.Name x p1) [.Name y py] [] pos) (tFO true F L O (mir (Ar.mk (Sq.l as) ()))) := by
  obtain ⟨C, f, fd, d1, d2, d3, d4⟩ := D.ex
  have hx : X.mg (Obj.cls α) = some (.ref C) := by rw [← D.nm]; exact d1
  refine pe_imp (pe_make d2 d3 hr hg d1 d4 .nil pass0 (pa_cons (pe_var hN hv hd0 hcd) pa_nil hs) hd hs hs2) fun σ H Q ⟨g, q⟩ => ?_
  obtain ⟨v, h1, h2⟩ := g.slot hL
  obtain ⟨o, h3, zs, h4, h5⟩ := g.go.objs _ hO
  subst h4
  have h2' : v = V.ref p := h2
  subst h2'
  refine ⟨_, h1, ?_⟩
  have h3 : H p = some (.lst zs) := h3
  intro y dx hy hdx hne
  rw [List.append_nil]
  have av : ∀ c ∈ (avoid true F O).filter (fun c => decide (c ≠ p)), H c ≠ none := fun c hc => g.go.avoided (b := true) c (List.mem_filter.mp hc).1
  have hyA : y ∉ (avoid true F O).filter (fun c => decide (c ≠ p)) := fun z => av y z hy
  have hyp : p ≠ y := fun z => by rw [z, hy] at h3; cases h3
  have sm : Same H (upd (upd H dx (.own y)) y (.ins C dx [])) := fun c o hc => by
    rw [upd_ne (ne_of_none hc hy), upd_ne (ne_of_none hc hdx)]
    exact hc
  have hpA : p ∉ (avoid true F O).filter (fun c => decide (c ≠ p)) := fun z => by simpa using (List.mem_filter.mp z).2
  have mA : ∀ {c : Addr}, c ∉ (avoid true F O).filter (fun c => decide (c ≠ p)) → c ≠ p → c ∉ avoid true F O := fun {c} h1 h2 h3 => h1 (List.mem_filter.mpr ⟨h3, decide_eq_true h2⟩)
  show spC X.K X.mg mir _ _ _ _
  rw [hK, hM]
  refine ⟨y, [V.ref p], Ar.mk (Sq.l as) (), (avoid true F O).filter (fun c => decide (c ≠ p)), C, dx, fun c hc z => ?_, hyA, rfl, by rw [← hM]; exact hx, upd_same, ?_, ?_⟩
  · cases e1 : H c with
    | none => exact av c hc e1
    | some o => rw [sm c o e1] at z; cases z
  · have hl : less (upd (upd H dx (.own y)) y (.ins C dx [])) (y :: (avoid true F O).filter (fun c => decide (c ≠ p))) p = some (.lst zs) := by
      rw [less_out (fun z => (List.mem_cons.mp z).elim hyp hpA)]
      exact sm p _ h3
    refine ⟨V.ref p, [], rfl, ⟨p, zs, rfl, hl, h5.mono fun c o hc => ?_⟩, rfl⟩
    have hcA : c ∉ addrs O ++ F.A := fun z => by
      unfold rg at hc
      rw [less_in z] at hc; cases hc
    have hc' : H c = some o := by
      unfold rg at hc
      rw [less_out hcA] at hc
      exact hc
    rw [less_out (fun z => ?_)]
    · exact sm c o hc'
    · rcases List.mem_cons.mp z with z | z
      · rw [z, hy] at hc'; cases hc'
      · exact hcA (List.mem_filter.mp z).1
  · cases e1 : mir (Ar.mk (Sq.l as) ()) with
    | ok r =>
      rw [e1] at q
      intro H' C' dx' vs' kb k1 k2 k3
      have s2 : Same H H' := fun c o hc => kb c o (sm c o hc) (ne_of_none hc hy)
      refine ⟨rfl, q y C' dx' vs' H' (g.grow s2) s2 hy k1 k2 ?_⟩
      have hp' : less H' (y :: (avoid true F O).filter (fun c => decide (c ≠ p))) p = some (.lst zs) := by
        rw [less_out (fun z => (List.mem_cons.mp z).elim hyp hpA)]
        exact s2 p _ h3
      refine (flds_no hp' (hn r) k3).mono fun c o hc => ?_
      by_cases hcp : c = p
      · rw [hcp, less_in List.mem_cons_self] at hc; cases hc
      · rw [less_out (fun z => hcp (List.mem_singleton.mp z))] at hc
        by_cases hcA : c ∈ y :: (avoid true F O).filter (fun c => decide (c ≠ p))
        · rw [less_in hcA] at hc; cases hc
        · rw [less_out hcA] at hc
          rw [rgn_avoid, less_out (fun z => hcA (by rw [List.mem_singleton.mp z]; exact List.mem_cons_self)), less_out (mA (fun z => hcA (List.mem_cons_of_mem _ z)) hcp)]
          exact hc
    | err c fs =>
      rw [e1] at q
      rw [← hE]
      intro D' d H' k1 k2 k4
      have hz : F.E (.ref D') d H' := by
        rw [hE]
        refine False.elim ?_
        have z : F.E (.ref D') d H' := q D' d H' k1 (k2.older fun c hc z => ?_) ⟨g.grow fun c o hc => k4.keep c o (sm c o hc) (fun z => ne_of_none hc hy (List.mem_singleton.mp z)), fun c o hc => k4.keep c o (sm c o hc) (fun z => ne_of_none hc hy (List.mem_singleton.mp z))⟩
        · rw [hE] at z; exact z
        · have := g.go.live c hc
          cases e2 : H c with
          | none => exact this e2
          | some o =>
            have z' : upd (upd H dx (.own y)) y (.ins C dx []) c = none := z
            rw [sm c o e2] at z'; cases z'
      exact hz
    | bad =>
      rw [e1] at q
      exact q.elim
end
end NF

set_option Elab.async false
set_option linter.all false
set_option maxRecDepth 100000
set_option maxHeartbeats 2000000
/-! Nf52: `x in obj` by its own __contains__, as a test. -/
namespace NF
open PySem PySem.Spec PyProof.Rows L2
open Data (toD)
section
variable {X : Cx} {F : Fr} {L : List (Option Asr)} {O : List Own} {α β : Type} [Obj α] [Rep β]
variable {k : Nat} {ps : List Str} {x y : Expr} {pos : Pos} {b : Bool}
theorem tin_core {C : Addr} {mir : Ar α (Ar β Unit) → Res Bool} {mx : Res α} {my : Res β} {e : Expr} {r : R2} (fl : Bool → Bool) (hx : X.mg (Obj.cls α) = some (.ref C)) (hE : F.E = E0) (hK : X.K = F.K) (hM : X.mg = F.mg)
    (hr : ∀ x y H Q, (∃ a dx fs, x = .ref a ∧ H a = some (.ins C dx fs) ∧ spP X.K X.mg mir [x, y] H (fun z H' => ∃ b, z = .bl b ∧ Q (.bl (fl b)) H') E0) → r y x H Q) (h : PT X e (tTest (tOp r (tP b F L O my) (tP b F L O mx)))) : PT X e (tB' F L O (my.bind fun r => mx.bind fun a => (mir (Ar.mk a (Ar.mk r ()))).bind fun t => .ok (fl t))) := pt_imp h fun σ H Q ⟨g, q⟩ => by
  rw [out_bind] at q
  refine ⟨g, q.mono (fun c qc v1 H1 g1 s1 r1 => ?_) fun _ z => z⟩
  rw [out_bind] at qc
  refine ⟨g1, qc.mono (fun a qa v2 H2 g2 s2 r2 => ?_) fun H' ⟨u, w⟩ => ⟨u, s1.trans w⟩⟩
  rw [out_bind] at qa
  have r2' := r2
  obtain ⟨p', D', dx', vs', e1', h2', h3', h4'⟩ := r2
  rw [← hM, hx] at h2'
  cases h2'
  refine hr _ _ _ _ ⟨p', dx', vs', e1', rgn_sub _ _ h3', ?_⟩
  rw [hK, hM]
  refine ⟨Ar.mk a (Ar.mk c ()), avoid b F O, g2.go.avoided, by rw [← rgn_avoid]; exact ⟨v2, [v1], rfl, r2', v1, [], rfl, Rep.mono (rgn_grow s2) r1, rfl⟩, ?_⟩
  rw [← hE]
  cases e : mir (Ar.mk a (Ar.mk c ())) with
  | ok t =>
    rw [e] at qa
    exact fun v H' s3 r3 => ⟨t, r3, fl t, rfl, qa H' (g2.grow s3) ((s1.trans s2).trans s3)⟩
  | err c fs =>
    rw [e] at qa
    exact fun C d H' h1 h2 h4 => qa C d H' h1 (h2.older g2.go.live) ⟨g2.grow h4, (s1.trans s2).trans h4⟩
  | bad =>
    rw [e] at qa
    exact qa.elim
/-- y in x, by x's own __contains__, asked -/
theorem t_inO {mir : Ar α (Ar β Unit) → Res Bool} {mx : Res α} {my : Res β} (D : MethAt X.prog X.w X.K X.mg X.base k (Obj.cls α) "__contains__" ps (spP X.K X.mg mir)) (hr : Room k X.A) (hy : PE X y (tP b F L O my)) (hx : PE X x (tP b F L O mx)) (hm : behindInMarks CmpOp.In x = false := by rfl) (hE : F.E = E0 := by rfl) (hK : X.K = F.K := by rfl) (hM : X.mg = F.mg := by rfl) :
    PT X (.Compare y [.In] [x] pos) (tB' F L O (my.bind fun r => mx.bind fun a => (mir (Ar.mk a (Ar.mk r ()))).bind fun t => .ok t)) := by
  obtain ⟨C, f, fd, h1, h2, h3, h4, h5⟩ := D.ex
  exact tin_core id h1 hE hK hM (fun x y H Q z => z) (pt_cmpR (op_inO (CX := CX0) (E := E0) (sp := spP X.K X.mg mir) h3.at_ h3.fn h4 hr h5 pass0) hy hx hm)
theorem t_notInO {mir : Ar α (Ar β Unit) → Res Bool} {mx : Res α} {my : Res β} (D : MethAt X.prog X.w X.K X.mg X.base k (Obj.cls α) "__contains__" ps (spP X.K X.mg mir)) (hr : Room k X.A) (hy : PE X y (tP b F L O my)) (hx : PE X x (tP b F L O mx)) (hm : behindInMarks CmpOp.NotIn x = false := by rfl) (hE : F.E = E0 := by rfl) (hK : X.K = F.K := by rfl) (hM : X.mg = F.mg := by rfl) :
    PT X (.Compare y [.NotIn] [x] pos) (tB' F L O (my.bind fun r => mx.bind fun a => (mir (Ar.mk a (Ar.mk r ()))).bind fun t => .ok (!t))) := by
  obtain ⟨C, f, fd, h1, h2, h3, h4, h5⟩ := D.ex
  exact tin_core (!·) h1 hE hK hM (fun x y H Q z => z) (pt_cmpR (op_notInO (CX := CX0) (E := E0) (sp := spP X.K X.mg mir) h3.at_ h3.fn h4 hr h5 pass0) hy hx hm)
end
end NF

set_option Elab.async false
set_option linter.all false
set_option maxRecDepth 100000
set_option maxHeartbeats 2000000
/-! Nf53: static methods of own classes. -/
namespace NF
open PySem PySem.Spec PyProof.Rows L2
open Data (toD)
/-- x.m is a static method: its record at p, its def at f -/
structure StatAt (P : Program) (w : World) (K : Fg) (mg : MG) (base : Heap) (k : Nat) (x m : Str) (ps : List Str) (sp : Sp) : Prop where
  ex : ∃ (C p f : Addr) (fd : FuncData), mg x = some (.ref C) ∧ ClX.CRead K C (.type "type") ∧ PySem.W.findCls K (.ref C) (.type "type") m = some (.get (.builtin "staticmethod.__get__") (.ref p) .none (.ref C)) ∧ (∃ rest, PySem.W.recIn K p "staticmethod" = some (.ref f :: rest)) ∧
    PySem.W.keepIn K (.ref f) = true ∧ FnOk P w K mg base CX0 k f fd ps sp ∧ Binds K fd ps []
section
variable {X : Cx} {k : Nat} {C p f : Addr} {fd : FuncData} {ps : List Str} {sp : Sp} {x m : Str} {p1 pos apos : Pos} {e : Expr} {es : List Expr} {t : TA} {pl : Sem Bool}
theorem pe_stat (hg : Gl X x) (hm : X.mg x = some (.ref C)) (r : ClX.CRead X.K C (.type "type")) (c : PySem.W.findCls X.K (.ref C) (.type "type") m = some (.get (.builtin "staticmethod.__get__") (.ref p) .none (.ref C))) (hp : ∃ rest, PySem.W.recIn X.K p "staticmethod" = some (.ref f :: rest))
    (hk : PySem.W.keepIn X.K (.ref f) = true) (F : FnOk X.prog X.w X.K X.mg X.base CX0 k f fd ps sp) (hb : Binds X.K fd ps []) (hr : Room k X.A) (ha : PA X (e :: es) t) (hd : (x == ("__debug__" : Str)) = false := by decide)
    (hst : starEach (e :: es) X.env = (false, eval e X.env) :: starEach es X.env := by rfl) (hpl : (backTo pos (starEach es X.env)).any (·.1) = false := by rfl)
    (ht : eval (.Call (.Attribute (.Name x p1) m apos) (e :: es) [] pos) X.env = (do
      let ov ← eval (.Name x p1) X.env
      standAt apos.atName
      let (f, first) ← holding [ov] (getMethod ov m pl)
      callWith pos f first (backTo pos (starEach (e :: es) X.env)) (backToKw pos (keywordEach [] X.env))) := by rfl) :
    PE X (.Call (.Attribute (.Name x p1) m apos) (e :: es) [] pos) (tCall sp [] E0 t) := by
  refine ⟨fun pins s σ H Q I h => ?_⟩
  have ho : PE X (.Name x p1) (L2.tC (V.ref C)) := pe_glob (v := .ref C) (u := .ref C) hg hm rfl hd
  refine PySem.W.methodCall_KW (pl := pl) (thn (ho.run pins s σ H (fun v H' => v = V.ref C ∧ t σ H' fun vs H1 => sp (vs ++ []) H1 Q E0) I ⟨rfl, h⟩) fun u s1 ⟨y, H1, I1, rx, ex, q⟩ => ?_) ht
  subst ex
  obtain rfl : u = Value.ref C := rx
  obtain ⟨rest, hp⟩ := hp
  refine PySem.W.method_cls I1.kIn r.ga (PySem.W.cls_bind I1.kIn r.rd c (wpAny_call (PySem.W.sm_get (s := { s1 with toks := s1.toks + 1 }) I1.kIn hp (PySem.W.handed_on rfl ?_))))
  have I2 := I1.tok (s1.toks + 1)
  refine PySem.W.callWith_K (h₀ := X.base) I2.ok.mod.kin hk (thn (ha.run pos pins _ σ H1 _ I2 q) fun us s3 ⟨vs, H2, I3, rv, q2⟩ => ⟨I3.kIn, ?_⟩) hst hpl
  exact run_fn F hr hb .nil pass0 I3 rv q2
variable {F : Fr} {L : List (Option Asr)} {O : List Own} {τ ρ : Type} [RepA τ] [Rep ρ] {b : Bool}
/-- x.m(..), m a static method of the own class x -/
theorem nd_stat {mir : τ → Res ρ} {ma : Res τ} (D : StatAt X.prog X.w X.K X.mg X.base k x m ps (spP X.K X.mg mir)) (hr : Room k X.A) (ha : PA X (e :: es) (tA b F L O ma)) (hg : Gl X x := by rfl) (hE : F.E = E0 := by rfl) (hK : X.K = F.K := by rfl) (hM : X.mg = F.mg := by rfl) (hd : (x == ("__debug__" : Str)) = false := by decide)
    (hst : starEach (e :: es) X.env = (false, eval e X.env) :: starEach es X.env := by rfl) (hpl : (backTo pos (starEach es X.env)).any (·.1) = false := by rfl)
    (ht : eval (.Call (.Attribute (.Name x p1) m apos) (e :: es) [] pos) X.env = (do
      let ov ← eval (.Name x p1) X.env
      standAt apos.atName
      let (f, first) ← holding [ov] (getMethod ov m pl)
      callWith pos f first (backTo pos (starEach (e :: es) X.env)) (backToKw pos (keywordEach [] X.env))) := by rfl) :
    PE X (.Call (.Attribute (.Name x p1) m apos) (e :: es) [] pos) (tP b F L O (ma.bind mir)) := by
  obtain ⟨C, p, f, fd, h1, h2, h3, h4, h5, h6, h7⟩ := D.ex
  exact call_core (sp := spP X.K X.mg mir) hE (fun vs H Q q => by rw [← hK, ← hM] at q; exact q) (pe_stat (pl := pl) hg h1 h2 h3 h4 h5 h6 h7 hr ha hd hst hpl ht)
end
end NF

set_option Elab.async false
set_option linter.all false
set_option maxRecDepth 100000
set_option maxHeartbeats 2000000
/-! Nf54: len(set(xs)) of ints. -/
namespace NF
open PySem PySem.Spec PyProof.Rows L2
open Data (toD)
/-- len(s), s a set of ints -/
def rLenS (w : World) : List V → Hp → VK → Prop := fun vs H Q => ∃ (a : Addr) (S : Int → Bool) (n : Nat), vs = [V.ref a] ∧ H a = some (SetO w a S n) ∧
  ∀ (ns : List Int), ns.Pairwise (· < ·) → (∀ k : Int, k ∈ ns ↔ S k = true) → Q (.int ns.length) H
theorem cr_lenS {X : Cx} : CallR X (.builtin "len") (rLenS X.w) := by
  intro pins s σ H vs us Q I r h
  obtain ⟨a, S, n, rfl, ha, q⟩ := h
  obtain ⟨o, es, ep, t, ho, hex, hd, gd, nd, hm, hb, hf, hn, hr, hl⟩ := setO_get I ha
  rw [Vals.ref1 r]
  have e : (sset (es.toList.map keyOf)).length = es.size := by
    have p : (sset (es.toList.map keyOf)).Perm (es.toList.map keyOf) := (List.perm_ext_iff_of_nodup ((sset_lt _).imp fun h => Int.ne_of_lt h) nd).mpr fun k => mem_sset
    rw [p.length_eq, List.length_map, Array.length_toList]
  have q2 := q (sset (es.toList.map keyOf)) (sset_lt _) fun k => mem_sset.trans (hm k).symm
  rw [e] at q2
  refine call_len_set ho hex hd hf ?_ ⟨.int es.size, H, I.tok _, ⟨_, rfl⟩, q2⟩
  have : es.size < 4096 := hb
  omega
section
variable {X : Cx} {F : Fr} {L : List (Option Asr)} {O : List Own} {b1 b3 : Bool} {e : Expr}
theorem n_lenSet {m : Res (List Int)} {es es2} (h : PE X e (tCB es (tCons (tCB es2 (tCons (tP b1 F L O m) tNil)) tNil))) (er : es = rLenS X.w) (er2 : es2 = rSetL X.K X.w) (hK : X.K = F.K := by rfl) : PE X e (tP b3 F L O (m.bind fun xs => need (xs.length + 1 < 4096) (.ok ((sset xs).length : Int)))) := pe_imp h fun σ H Q ⟨g, q⟩ => by
  subst er
  subst er2
  rw [out_bind] at q
  refine ⟨g, q.mono (fun xs k v H1 g1 s1 r1 => ?_) fun _ z => z⟩
  rw [out_need] at k
  obtain ⟨p, vs, rfl, h2, h3⟩ := r1
  have e := reps_flat.mp h3
  subst e
  refine ⟨p, xs, rfl, .of (rgn_sub _ _ h2), k.1, fun p' c hc hp' => ?_⟩
  refine ⟨p', _, c, rfl, upd_same, fun ns hs hm => ?_⟩
  have e := sset_is hs fun j => (hm j).trans decide_eq_true_iff
  rw [e]
  have kk : KP Int b3 F L O σ H Q ((sset xs).length : Int) := k.2
  exact kp_flat (α := Int) (b := b3) (g1.grow (same_upd hp')) (show KP Int b3 F L O _ _ Q _ from fun v H' g' s' r' => kk v H' g' ((s1.trans (same_upd hp')).trans s') r')
end
end NF

set_option Elab.async false
set_option linter.all false
set_option maxRecDepth 100000
set_option maxHeartbeats 2000000
/-! Nf55: casts from Optional ints, list(range(n)), an owned list handed to methods. -/
namespace NF
open PySem PySem.Spec PyProof.Rows L2
open Data (toD)
def unO : Option Int → Res Int
  | some i => .ok i
  | none => .bad
section
variable {X : Cx} {F : Fr} {L : List (Option Asr)} {O : List Own} {b b1 b3 b' : Bool} {x : Expr}
/-- an Optional int that is one -/
theorem n_unO {m : Res (Option Int)} (h : PE X x (tP b F L O m)) : PE X x (tP b3 F L O (m.bind unO)) := pe_imp h fun σ H Q ⟨g, q⟩ => by
  rw [out_bind] at q
  refine ⟨g, q.mono (fun a k v H1 g1 s1 r1 => ?_) fun _ z => z⟩
  have r1' : v = optV a := r1
  subst r1'
  cases a with
  | none => exact k.elim
  | some i =>
    have kk : KP Int b3 F L O σ H Q i := k
    exact kk _ H1 g1 s1 rfl
/-- list(range(n)) -/
theorem f_listRg1 {e : Expr} {m : Res Int} {p q pos pos2 : Pos} (h : PE X e (tP b F L O m)) (hm : X.mg "range" = none) (hml : X.mg "list" = none) (hc : X.calm = true) (hg : Gl X "range" := by rfl) (hgl : Gl X "list" := by rfl)
    (na : starEach [e] X.env = (false, eval e X.env) :: starEach [] X.env := by rfl)
    (nc : starEach [.Call (.Name "range" p) [e] [] pos] X.env = (false, eval (.Call (.Name "range" p) [e] [] pos) X.env) :: starEach [] X.env := by rfl) :
    PE X (.Call (.Name "list" q) [.Call (.Name "range" p) [e] [] pos] [] pos2) (tF b' F L O (m.bind fun hi => need (Rg62 0 ∧ Rg62 hi ∧ (hi - 0).toNat ≤ 16777216) (.ok (irange 0 hi)))) := pe_imp (pe_listRg hc hgl hml (prg_1 hg hm h na) nc) fun σ H Q ⟨g, qq⟩ => by
  rw [out_bind] at qq
  refine ⟨g, qq.mono (fun n k v H1 g1 s1 r1 => ?_) fun _ z => z⟩
  rw [out_need] at k
  cases r1
  refine ⟨n, rfl, ⟨k.1.1.1, k.1.1.2, k.1.2.1.1, k.1.2.1.2, k.1.2.2⟩, kf_new g1 (KF.mono s1 k.2) (reps_flat.mpr ?_)⟩
  unfold rgV irange
  rw [List.map_map]
  rfl
end
/-! ### an owned list handed to a method that keeps nothing of it -/
theorem nol_obj {α : Type} [Obj α] (h : ∀ (a : α) K mg, AllNoL (Obj.fa K mg a)) : NoL α := ⟨fun {K mg R v x p zs} ⟨q, C, dx, vs, h1, h2, h3, h4⟩ hp =>
  ⟨q, C, dx, vs, h1, h2, by rw [less_out (fun z => by rw [List.mem_singleton.mp z, hp] at h3; cases h3)]; exact h3, flds_no hp (h x K mg) h4⟩⟩
/-- what stands out of sight, the list at p aside -/
def avO (F : Fr) (O : List Own) (p : Addr) : List Addr := (avoid true F O).filter (fun c => decide (c ≠ p))
section
variable {X : Cx} {F : Fr} {L : List (Option Asr)} {O : List Own} {α β τ ρ : Type} [Rep β] [RepA τ] [Rep ρ]
theorem avO_out {p : Addr} : p ∉ avO F O p := fun z => by simpa [avO] using (List.mem_filter.mp z).2
theorem avO_sub {p c : Addr} (h : c ∈ avO F O p) : c ∈ avoid true F O := (List.mem_filter.mp h).1
theorem avO_rg {p : Addr} {H : Hp} : Same (rgn true F O H) (less H (avO F O p)) := fun c o hc => by
  rw [rgn_avoid] at hc
  by_cases hA : c ∈ avoid true F O
  · rw [less_in hA] at hc; cases hc
  · rw [less_out hA] at hc
    rw [less_out fun z => hA (avO_sub z)]
    exact hc
theorem ov_core {mir : τ → Res ρ} (N : NoL ρ) {a : τ} {p : Addr} {as : List β} {vs : List V} {σ : L2.St} {H H1 : Hp} {Q : VK} (hO : ow F.K F.mg p as ∈ O) (hE : F.E = E0) (g1 : G F L O σ H1) (s1 : Same H H1) (hv : RepA.rep F.K F.mg (less H1 (avO F O p)) vs a)
    (q : Out F (mir a) (KP ρ true F L O σ H Q) (XP F L O σ H)) : spP F.K F.mg mir vs H1 Q E0 := by
  obtain ⟨o, h3, zs, h4, h5⟩ := g1.go.objs _ hO
  subst h4
  have h3 : H1 p = some (.lst zs) := h3
  refine ⟨a, avO F O p, fun c hc => g1.go.avoided (b := true) c (avO_sub hc), hv, ?_⟩
  rw [← hE]
  cases e : mir a with
  | ok r =>
    rw [e] at q
    intro v H' s2 r2
    refine q v H' (g1.grow s2) (s1.trans s2) ?_
    have hp : less H' (avO F O p) p = some (.lst zs) := by
      rw [less_out avO_out]
      exact s2 p _ h3
    refine Rep.mono (fun c o hc => ?_) (N.no r2 hp)
    by_cases hcp : c ∈ [p]
    · rw [less_in hcp] at hc; cases hc
    · rw [less_out hcp] at hc
      by_cases hA : c ∈ avO F O p
      · rw [less_in hA] at hc; cases hc
      · rw [less_out hA] at hc
        rw [rgn_avoid, less_out fun z => hA (List.mem_filter.mpr ⟨z, decide_eq_true fun w => hcp (by rw [w]; exact List.mem_cons_self)⟩)]
        exact hc
  | err c fs =>
    rw [e] at q
    exact fun C d H' k1 k2 k4 => q C d H' k1 (k2.older g1.go.live) ⟨g1.grow k4, s1.trans k4⟩
  | bad =>
    rw [e] at q
    exact q.elim
/-- the list at p, read beside what stands out of sight -/
theorem ov_arg {p : Addr} {as : List β} {σ : L2.St} {H1 : Hp} (hO : ow F.K F.mg p as ∈ O) (g1 : G F L O σ H1) : Rep.rep F.K F.mg (less H1 (avO F O p)) (V.ref p) (Sq.l as) := by
  obtain ⟨o, h3, zs, h4, h5⟩ := g1.go.objs _ hO
  subst h4
  have h3 : H1 p = some (.lst zs) := h3
  have hl : less H1 (avO F O p) p = some (.lst zs) := by rw [less_out avO_out]; exact h3
  exact ⟨p, zs, rfl, hl, h5.mono fun c o hc => avO_rg c o (show rgn true F O H1 c = some o from hc)⟩
variable [Obj α] {k : Nat} {ps : List Str} {m y : Str} {o : Expr} {py pos apos : Pos}
/-- o.m(given), given a list of ours -/
theorem n_methOv {mir : Ar α (Ar (Sq β) Unit) → Res ρ} (N : NoL ρ) {mo : Res α} {p : Addr} {as : List β} {pl : Sem Bool} (i : Nat) (D : MethAt X.prog X.w X.K X.mg X.base k (Obj.cls α) m ps (spP X.K X.mg mir)) (hr : Room k X.A) (ho : PE X o (tP true F L O mo)) (hL : L[i]? = some (rf p)) (hO : ow F.K F.mg p as ∈ O)
    (hN : X.N[i]? = some y := by rfl) (hv : Vis X.env.scope y := by first | exact Or.inl rfl | exact Or.inr (Or.inl rfl) | exact Or.inr (Or.inr rfl)) (hd0 : (y == ("__debug__" : Str)) = false := by decide) (hcd : (y == ("__classdict__" : Str)) = false := by decide)
    (hf : ∀ a : α, (Obj.fa F.K F.mg a).lookup m = none := by intro _; rfl) (hE : F.E = E0 := by rfl) (hK : X.K = F.K := by rfl) (hM : X.mg = F.mg := by rfl)
    (hs : starEach [.Name y py] X.env = (false, eval (.Name y py) X.env) :: starEach [] X.env := by rfl) (hs2 : (backTo pos (starEach [] X.env)).any (·.1) = false := by rfl)
    (ht : eval (.Call (.Attribute o m apos) [.Name y py] [] pos) X.env = (do
      let ov ← eval o X.env
      standAt apos.atName
      let (f, first) ← holding [ov] (getMethod ov m pl)
      callWith pos f first (backTo pos (starEach [.Name y py] X.env)) (backToKw pos (keywordEach [] X.env))) := by rfl) :
    PE X (.Call (.Attribute o m apos) [.Name y py] [] pos) (tP true F L O (mo.bind fun x => mir (Ar.mk x (Ar.mk (Sq.l as) ())))) := by
  obtain ⟨C, f, fd, h1, h2, h3, h4, h5⟩ := D.ex
  refine pe_imp (pe_meth (pl := pl) ho h2 h3 h4 hr h5 .nil pass0 (pa_cons (pe_var hN hv hd0 hcd) pa_nil hs) hs hs2 ht) fun σ H Q ⟨g, q⟩ => ?_
  rw [out_bind] at q
  refine ⟨g, q.mono (fun s qs v1 H1 g1 s1 r1 => ?_) fun _ z => z⟩
  have r1' := r1
  obtain ⟨p1, D', dx, vs, e1, e2, e3, e4⟩ := r1
  subst e1
  have eD : D' = C := by
    rw [← hM, h1] at e2
    cases e2
    rfl
  subst eD
  refine ⟨p1, dx, vs, rfl, rgn_sub _ _ e3, e4.miss (hf s), ?_⟩
  obtain ⟨v, j1, j2⟩ := g1.slot hL
  have j2' : v = V.ref p := j2
  subst j2'
  refine ⟨_, j1, ?_⟩
  show spP X.K X.mg mir _ H1 Q E0
  rw [hK, hM]
  refine ov_core N hO hE g1 s1 ?_ qs
  exact ⟨V.ref p1, [V.ref p], rfl, Rep.mono avO_rg r1', V.ref p, [], rfl, ov_arg hO g1, rfl⟩
end
end NF

set_option Elab.async false
set_option linter.all false
set_option maxRecDepth 100000
set_option maxHeartbeats 2000000
/-! Nf56: lists of ints and of Optional ints, one seen as the other. -/
namespace NF
open PySem PySem.Spec PyProof.Rows L2
open Data (toD)
theorem opt_some : ∀ xs : List Int, (xs.map some).map optV = xs.map V.int
  | [] => rfl
  | x :: xs => by
    show V.int x :: ((xs.map some).map optV) = _
    rw [opt_some xs]
    rfl
theorem opt_all : ∀ xs : List (Option Int), xs.all Option.isSome = true → xs.map optV = (xs.filterMap id).map V.int
  | [], _ => rfl
  | none :: xs, h => by simp at h
  | some x :: xs, h => by
    have h2 : xs.all Option.isSome = true := by simpa using h
    show V.int x :: xs.map optV = _
    rw [opt_all xs h2]
    rfl
section
variable {X : Cx} {F : Fr} {L : List (Option Asr)} {O : List Own} {b : Bool} {x : Expr}
/-- ints, as Optional ints -/
theorem n_upOL {m : Res (List Int)} (h : PE X x (tP b F L O m)) : PE X x (tP b F L O (m.bind fun xs => .ok (xs.map some))) := pe_imp h fun σ H Q ⟨g, q⟩ => by
  rw [out_bind] at q
  refine ⟨g, q.mono (fun a k v H1 g1 s1 r1 => k v H1 g1 s1 ?_) fun _ z => z⟩
  obtain ⟨p, vs, e1, e2, e3⟩ := r1
  have e : vs = a.map V.int := reps_flat.mp e3
  exact ⟨p, vs, e1, e2, reps_flat.mpr (e.trans (opt_some a).symm)⟩
/-- Optional ints that are ints all -/
theorem n_unOL {m : Res (List (Option Int))} (h : PE X x (tP b F L O m)) : PE X x (tP b F L O (m.bind fun xs => need (xs.all Option.isSome = true) (.ok (xs.filterMap id)))) := pe_imp h fun σ H Q ⟨g, q⟩ => by
  rw [out_bind] at q
  refine ⟨g, q.mono (fun a k v H1 g1 s1 r1 => ?_) fun _ z => z⟩
  rw [out_need] at k
  have kk : KP (List Int) b F L O σ H Q (a.filterMap id) := k.2
  obtain ⟨p, vs, e1, e2, e3⟩ := r1
  have e : vs = a.map optV := reps_flat.mp e3
  exact kk v H1 g1 s1 ⟨p, vs, e1, e2, reps_flat.mpr (e.trans (opt_all a k.1))⟩
end
end NF

set_option Elab.async false
set_option linter.all false
set_option maxRecDepth 100000
set_option maxHeartbeats 2000000
/-! Nf57: int(b) of an effect. -/
namespace NF
open PySem PySem.Spec PyProof.Rows L2
open Data (toD)
section
variable {X : Cx} {F : Fr} {L : List (Option Asr)} {O : List Own} {p : Addr} {ι : Type} [OwR ι] {xs : ι}
/-- int(e), e True or False -/
theorem e_intB {e : Expr} {b1 b3 : Bool} {m : Res (Bool × ι)} {es} (h : PE X e (tCB es (tCons (tE b1 F L p xs O m) tNil))) (er : es = fun xs H Q => (∃ i, xs = [V.int i] ∧ Q (.int i) H) ∨ ∃ k, xs = [V.bl k] ∧ Q (.int (if k then 1 else 0)) H) (hO : ∀ xs' : ι, List.Sublist F.O0 (ow F.K F.mg p xs' :: O)) : PE X e (tE b3 F L p xs O (m.bind fun u => (Res.ok (if u.1 then (1 : Int) else 0)).bind fun z => .ok (z, u.2))) := ec1 (mc := fun k => .ok (if k then (1 : Int) else 0)) h (fun xs' x vx H σ Q g rx q => by
  subst er; cases rx; exact .inr ⟨x, rfl, kp_flat (α := Int) g q⟩) hO
theorem e_some {e : Expr} {b1 b3 : Bool} {m : Res (Int × ι)} (h : PE X e (tE b1 F L p xs O m)) : PE X e (tE b3 F L p xs O (m.bind fun u => .ok (some u.1, u.2))) := pe_imp h fun σ H Q ⟨g, q⟩ => by
  rw [out_bind] at q
  refine ⟨g, q.mono (fun u k v H1 g1 s1 r1 => ?_) fun _ z => z⟩
  exact k v H1 g1 s1 r1
end
end NF

set_option Elab.async false
set_option linter.all false
set_option maxRecDepth 100000
set_option maxHeartbeats 2000000
/-! Nf58: a list of ours that is no longer changed, as a value. -/
namespace NF
open PySem PySem.Spec PyProof.Rows L2
open Data (toD)
theorem paired_set1 {α β : Type} {P Q : α → β → Prop} (h : ∀ a v, P a v → Q a v) : ∀ {L : List α} {σ : List β} {i : Nat} {a : α}, Paired P L σ → (∀ v, σ[i]? = some v → Q a v) → Paired Q (L.set i a) σ
  | [], [], _, _, .nil, _ => .nil
  | b :: L, v :: σ, 0, a, .cons r t, k => .cons (k v rfl) (L2.Paired.mapP t fun _ _ q => h _ _ q)
  | b :: L, v :: σ, i + 1, a, .cons r t, k => .cons (h _ _ r) (paired_set1 h t k)
section
variable {X : Cx} {F : Fr} {L : List (Option Asr)} {O O' : List Own} {α : Type} [Rep α]
theorem G.frz {as : List α} {p : Addr} {σ : L2.St} {H : Hp} (g : G F L O σ H) (hp : O.Perm (ow F.K F.mg p as :: O')) (i : Nat) (hL : L[i]? = some (rf p)) : G F (L.set i (vl F.K F.mg as)) O' σ H := by
  have g1 := g.perm hp
  have hsub : List.Sublist O' (ow F.K F.mg p as :: O') := List.sublist_cons_self _ _
  obtain ⟨o, h3, vs, h4, h5⟩ := g1.go.objs _ List.mem_cons_self
  subst h4
  have h3 : H p = some (.lst vs) := h3
  obtain ⟨v, h1, h2⟩ := g1.slot hL
  have h2' : v = V.ref p := h2
  subst h2'
  have lm : Same (rg F (ow F.K F.mg p as :: O') H) (rg F O' H) := less_sub fun a ha => by
    rcases List.mem_append.mp ha with z | z
    · exact List.mem_append_left _ ((hsub.map Own.a).subset z)
    · exact List.mem_append_right _ z
  have hn : p ∉ addrs O' ++ F.A := fun z => by
    rcases List.mem_append.mp z with z | z
    · exact (List.nodup_cons.mp g1.go.nd).1 z
    · exact g1.go.apart _ List.mem_cons_self z
  refine ⟨paired_set1 (fun a v q => q.mono lm) g1.slots fun w hw => ?_, g1.go.sub hsub⟩
  rw [h1] at hw
  cases hw
  have hl : rg F O' H p = some (.lst vs) := by
    unfold rg
    rw [less_out hn]
    exact h3
  exact ⟨p, vs, rfl, hl, h5.mono lm⟩
theorem b_frz {D' : Type} {st : List Stmt} {m : Res D'} {Ret : D' → V → Hp → Prop} {as : List α} {p : Addr} (i : Nat) (hp : O.Perm (ow F.K F.mg p as :: O')) (hL : L[i]? = some (rf p)) (hs : PSs X st (tT F (L.set i (vl F.K F.mg as)) O' m Ret)) : PSs X st (tT F L O m Ret) := pss_imp hs fun D σ H ⟨g, q⟩ => ⟨g.frz hp i hL, q⟩
end
end NF

set_option Elab.async false
set_option linter.all false
set_option maxRecDepth 100000
set_option maxHeartbeats 2000000
/-! Nf59: an if without else that hands back on some ways. -/
namespace NF
open PySem PySem.Spec PyProof.Rows L2
open Data (toD)
theorem wk_refl : ∀ L : List (Option Asr), wk L L
  | [] => trivial
  | a :: L => ⟨.inr rfl, wk_refl L⟩
section
variable {X : Cx} {F : Fr} {L : List (Option Asr)} {O : List Own} {D' : Type} {Ret : D' → V → Hp → Prop} {c : Expr} {mc : Res Bool} {body rest : List Stmt} {pos : Pos}
theorem b_ifM {m1 : Res (Sum Unit D')} {m2 : Res D'} (hc : PT X c (tB' F L O mc)) (hb : PSs X body (tM F L O m1 (fun _ : Unit => L) (fun _ : Unit => O) Ret)) (hr : PSs X rest (tT F L O m2 Ret)) (hO : List.Sublist F.O0 O) :
    PSs X (.If c body [] pos :: rest) (tT F L O (goOn (mc.bind fun c => if c then m1 else .ok (.inl ())) (fun _ => m2)) Ret) :=
  b_M (B := Unit) (L' := fun _ => L) (O' := fun _ => O) (ps_imp (ps_if hc hb (m_end () (wk_refl L) (List.Sublist.refl O) : PSs X [] (tM F L O (.ok (.inl ())) (fun _ : Unit => L) (fun _ : Unit => O) Ret))) fun D σ H ⟨g, q⟩ => by
    rw [out_bind] at q
    refine ⟨g, q.mono (fun c k H1 g1 s1 => ?_) fun H' ⟨a, _⟩ => a.go.sub hO⟩
    cases c with
    | true => exact ⟨g1, k⟩
    | false => exact ⟨g1, k⟩) fun _ => hr
theorem m_end0 : PSs X [] (tM F L O (.ok (.inl ())) (fun _ : Unit => L) (fun _ : Unit => O) Ret) := m_end () (wk_refl L) (List.Sublist.refl O)
end
end NF

set_option Elab.async false
set_option linter.all false
set_option maxRecDepth 100000
set_option maxHeartbeats 2000000
/-! Nf60: x.append(y.pop(e)), where e changes a third list. -/
namespace NF
open PySem PySem.Spec PyProof.Rows L2
open Data (toD)
section
variable {X : Cx} {F : Fr} {L : List (Option Asr)} {p : Addr} {O : List Own} {ε ζ ι : Type} [Rep ε] [Rep ζ] [OwR ι] {xs : ι}
theorem rg_upd {O1 O2 : List Own} {H1 : Hp} {q : Addr} {ob : Option HO} (hp : O1.Perm O2) (hq : q ∈ addrs O1) : Same (rg F O1 H1) (rg F O2 (fun c => if c = q then ob else H1 c)) := fun a o z => by
  have z' : less H1 (addrs O1 ++ F.A) a = some o := z
  show less _ (addrs O2 ++ F.A) a = some o
  have hm : ∀ c, c ∈ addrs O2 ++ F.A → c ∈ addrs O1 ++ F.A := fun c hc => by
    rcases List.mem_append.mp hc with y | y
    · exact List.mem_append_left _ ((hp.map Own.a).symm.subset y)
    · exact List.mem_append_right _ y
  by_cases hb : a ∈ addrs O1 ++ F.A
  · rw [less_in hb] at z'; cases z'
  · rw [less_out hb] at z'
    rw [less_out fun y => hb (hm a y)]
    rw [if_neg fun e => hb (List.mem_append_left _ (by rw [e]; exact hq))]
    exact z'
theorem s_appPop {x y : Str} {ie : Expr} {pos pos1 pos2 pos3 pos4 cpos cpos2 : Pos} {r q : Addr} {zs : List ζ} {ys : List ε} (f : ε → ζ) (hf : ∀ {K : Fg} {mg : MG} {R : Hp} {v : V} {a : ε}, Rep.rep K mg R v a → Rep.rep K mg R v (f a)) (i j : Nat) (hL : L[i]? = some (rf r)) (hL2 : L[j]? = some (rf q)) {mi : Res (Int × ι)}
    (hie : PE X ie (tE true F L p xs (ow F.K F.mg r zs :: ow F.K F.mg q ys :: O) mi))
    (h : ∀ {to : TE} {t : TA}, PE X (.Name x pos1) to → PA X [.Call (.Attribute (.Name y pos3) "pop" pos4) [ie] [] cpos2] t → PE X (.Call (.Attribute (.Name x pos1) "append" pos2) [.Call (.Attribute (.Name y pos3) "pop" pos4) [ie] [] cpos2] [] cpos) (tBM X.K "list" rAppend to t))
    (h2 : ∀ {to : TE} {t : TA}, PE X (.Name y pos3) to → PA X [ie] t → PE X (.Call (.Attribute (.Name y pos3) "pop" pos4) [ie] [] cpos2) (tBM X.K "list" rPopAt to t))
    (hs1 : starEach [.Call (.Attribute (.Name y pos3) "pop" pos4) [ie] [] cpos2] X.env = (false, eval (.Call (.Attribute (.Name y pos3) "pop" pos4) [ie] [] cpos2) X.env) :: starEach [] X.env := by rfl) (hs2 : starEach [ie] X.env = (false, eval ie X.env) :: starEach [] X.env := by rfl)
    (hN : X.N[i]? = some x := by rfl) (hv : Vis X.env.scope x := by first | exact Or.inl rfl | exact Or.inr (Or.inl rfl) | exact Or.inr (Or.inr rfl)) (hd : (x == ("__debug__" : Str)) = false := by decide) (hcd : (x == ("__classdict__" : Str)) = false := by decide)
    (hN2 : X.N[j]? = some y := by rfl) (hv2 : Vis X.env.scope y := by first | exact Or.inl rfl | exact Or.inr (Or.inl rfl) | exact Or.inr (Or.inr rfl)) (hd2 : (y == ("__debug__" : Str)) = false := by decide) (hcd2 : (y == ("__classdict__" : Str)) = false := by decide)
    (hs : swapsWith (.Call (.Attribute (.Name x pos1) "append" pos2) [.Call (.Attribute (.Name y pos3) "pop" pos4) [ie] [] cpos2] [] cpos) none pos.line X.env = pure false := by rfl) :
    PS X (.Expr (.Call (.Attribute (.Name x pos1) "append" pos2) [.Call (.Attribute (.Name y pos3) "pop" pos4) [ie] [] cpos2] [] cpos) pos) (tN F L (ow F.K F.mg p xs :: ow F.K F.mg r zs :: ow F.K F.mg q ys :: O) (mi.bind fun u => (popAtR ys u.1).bind fun w => need (zs.length < sizeLine) (.ok (u.2, zs ++ [f w.1], w.2))) (fun _ => L) (fun z => ow F.K F.mg p z.1 :: ow F.K F.mg r z.2.1 :: ow F.K F.mg q z.2.2 :: O)) :=
  ps_imp (ps_expr (h (pe_var hN hv hd hcd) (pa_cons (h2 (pe_var hN2 hv2 hd2 hcd2) (pa_cons hie pa_nil hs2)) pa_nil hs1)) hs) fun D σ H ⟨g, q'⟩ => by
  obtain ⟨w, h4, h5⟩ := g.slot hL
  obtain ⟨w2, k4, k5⟩ := g.slot hL2
  obtain ⟨o, h6, vs0, h60, h7⟩ := g.go.objs (ow F.K F.mg r zs) (List.mem_cons_of_mem _ List.mem_cons_self)
  subst h60
  obtain ⟨o, j6, vs1, j60, j7⟩ := g.go.objs (ow F.K F.mg q ys) (List.mem_cons_of_mem _ (List.mem_cons_of_mem _ List.mem_cons_self))
  subst j60
  rw [out_bind] at q'
  refine ⟨w, h4, ?_, w2, k4, ?_, g, q'.mono (fun u k v H1 g1 s1 r1 => ?_) fun _ z => z⟩
  · rw [show w = V.ref r from h5]
    exact .inl ⟨rfl, _, .of h6⟩
  · rw [show w2 = V.ref q from k5]
    exact .inl ⟨rfl, _, .of j6⟩
  · rw [out_bind] at k
    have P1 : (ow F.K F.mg p u.2 :: ow F.K F.mg r zs :: ow F.K F.mg q ys :: O).Perm (ow F.K F.mg q ys :: ow F.K F.mg p u.2 :: ow F.K F.mg r zs :: O) := (List.Perm.cons _ (List.Perm.swap _ _ _)).trans (List.Perm.swap _ _ _)
    have gq := g1.perm P1
    obtain ⟨vs', h8, h9⟩ := gq.head
    unfold popAtR at k
    cases e : seqIndex? u.1 ys.length with
    | none => rw [e] at k; exact k.elim
    | some n =>
      rw [e] at k
      cases e2 : ys[n]? with
      | none => simp only [e2] at k; exact k.elim
      | some a =>
        simp only [e2] at k
        rw [out_need] at k
        obtain ⟨y', h10, h11⟩ := reps_get h9 e2
        have r1' : v = V.int u.1 := r1
        refine ⟨q, vs', u.1, n, y', k5, by rw [r1'], h8, k.1.1, k.1.2, by rw [h9.length]; exact e, h10, ?_⟩
        have k2 := k.2
        have k3 : Out F (need (zs.length < sizeLine) (.ok (u.2, zs ++ [f a], ys.eraseIdx n))) _ _ := k2
        rw [out_need] at k3
        have gu := (g_upd gq (reps_erase n h9)).1
        have P2 : (ow F.K F.mg q (ys.eraseIdx n) :: ow F.K F.mg p u.2 :: ow F.K F.mg r zs :: O).Perm (ow F.K F.mg r zs :: ow F.K F.mg q (ys.eraseIdx n) :: ow F.K F.mg p u.2 :: O) := (List.Perm.cons _ (List.Perm.swap _ _ _)).trans (List.Perm.swap _ _ _)
        have gr := gu.perm P2
        obtain ⟨ws, l8, l9⟩ := gr.head
        refine ⟨r, ws, y', h5, rfl, l8, by rw [l9.length]; exact k3.1, ?_⟩
        have ry := hf h11
        have P3 : (addrs (ow F.K F.mg q ys :: ow F.K F.mg p u.2 :: ow F.K F.mg r zs :: O)).Perm (addrs (ow F.K F.mg r zs :: ow F.K F.mg q (ys.eraseIdx n) :: ow F.K F.mg p u.2 :: O)) := (P2.map Own.a)
        have ry2 : Rep.rep F.K F.mg (rg F (ow F.K F.mg r zs :: ow F.K F.mg q (ys.eraseIdx n) :: ow F.K F.mg p u.2 :: O) (upd H1 q (.lst (vs'.eraseIdx n)))) y' (f a) := Rep.mono (fun c o z => by
          have z' : less H1 (addrs (ow F.K F.mg q ys :: ow F.K F.mg p u.2 :: ow F.K F.mg r zs :: O) ++ F.A) c = some o := z
          show less _ (addrs (ow F.K F.mg r zs :: ow F.K F.mg q (ys.eraseIdx n) :: ow F.K F.mg p u.2 :: O) ++ F.A) c = some o
          by_cases hb : c ∈ addrs (ow F.K F.mg q ys :: ow F.K F.mg p u.2 :: ow F.K F.mg r zs :: O) ++ F.A
          · rw [less_in hb] at z'; cases z'
          · rw [less_out hb] at z'
            rw [less_out fun m => hb ?_, upd_ne]
            · exact z'
            · intro e3
              exact hb (List.mem_append_left _ (by rw [e3]; exact List.mem_cons_self))
            · rcases List.mem_append.mp m with m | m
              · exact List.mem_append_left _ (P3.symm.subset m)
              · exact List.mem_append_right _ m) ry
        exact k3.2 σ _ ((g_upd gr (reps_append l9 (.cons ry2 .nil))).1.perm (((List.Perm.cons _ (List.Perm.swap _ _ _)).trans (List.Perm.swap _ _ _))))
end
end NF

set_option Elab.async false
set_option linter.all false
set_option maxRecDepth 100000
set_option maxHeartbeats 2000000
/-! Nf61: x.reverse(). -/
namespace NF
open PySem PySem.Spec PyProof.Rows L2
open Data (toD)
theorem reps_snoc61 {α : Type} [Rep α] {K : Fg} {mg : MG} {H : Hp} : ∀ {vs : List V} {as : List α}, Reps K mg H vs as → Reps K mg H vs.reverse as.reverse
  | _, _, .nil => .nil
  | _, _, .cons h t => by
    rw [List.reverse_cons, List.reverse_cons]
    exact reps_append (reps_snoc61 t) (.cons h .nil)
section
variable {X : Cx} {F : Fr} {L : List (Option Asr)} {p : Addr} {O : List Own} {α : Type} [Rep α]
theorem s_reverse {z : Str} {xs : List α} {pos pos1 pos2 cpos : Pos} (i : Nat) (hL : L[i]? = some (rf p)) (hO : List.Sublist F.O0 (ow F.K F.mg p xs :: O))
    (h : ∀ {to : TE}, PE X (.Name z pos1) to → PE X (.Call (.Attribute (.Name z pos1) "reverse" pos2) [] [] cpos) (tBM0 X.K "list" rReverse to))
    (hN : X.N[i]? = some z := by rfl) (hv : Vis X.env.scope z := by first | exact Or.inl rfl | exact Or.inr (Or.inl rfl) | exact Or.inr (Or.inr rfl)) (hd : (z == ("__debug__" : Str)) = false := by decide) (hcd : (z == ("__classdict__" : Str)) = false := by decide)
    (hs : swapsWith (.Call (.Attribute (.Name z pos1) "reverse" pos2) [] [] cpos) none pos.line X.env = pure false := by rfl) :
    PS X (.Expr (.Call (.Attribute (.Name z pos1) "reverse" pos2) [] [] cpos) pos) (tN F L (ow F.K F.mg p xs :: O) (.ok ()) (fun _ => L) (fun _ => ow F.K F.mg p xs.reverse :: O)) := ps_imp (ps_expr (h (pe_var hN hv hd hcd)) hs) fun D σ H ⟨g, q⟩ => by
  obtain ⟨w, h4, h5⟩ := g.slot hL
  have h5' : w = V.ref p := h5
  subst h5'
  obtain ⟨vs, h6, h7⟩ := g.head
  refine ⟨_, h4, .inl ⟨rfl, _, .of h6⟩, p, vs, rfl, rfl, h6, ?_⟩
  exact q σ _ (g_upd g (xs' := xs.reverse) (vs' := vs.reverse) (reps_snoc61 h7)).1
end
end NF

set_option Elab.async false
set_option linter.all false
set_option maxRecDepth 100000
set_option maxHeartbeats 2000000
/-! Nf62: z = x + y, a list of ours, where x or y changes another list. -/
namespace NF
open PySem PySem.Spec PyProof.Rows L2
open Data (toD)
section
variable {X : Cx} {F : Fr} {L : List (Option Asr)} {p : Addr} {O : List Own} {α ι : Type} [Rep α] [OwR ι] {xs : ι} {i : Nat} {z : Str} {x y : Expr} {pos pos' cpos : Pos}
theorem s_ownCatE (hN : X.N.Nodup) {ma : Res (List α × ι)} {mb : ι → Res (List α × ι)} (hx : PE X x (tE true F L p xs O ma)) (hy : ∀ xs', PE X y (tE true F L p xs' O (mb xs'))) (hi : X.N[i]? = some z := by rfl) (hz : L2.Loc X.env.scope z := by first | exact .inl rfl | exact .inr rfl)
    (hs : swapsWith (.BinOp x .Add y cpos) (some (.Name z pos')) pos.line X.env = pure false := by rfl) (hf : X.fn z = true ∨ X.env.scope.names.lookup z = some .local := by first | exact .inl rfl | exact .inr rfl) :
    PS X (.Assign [.Name z pos'] (.BinOp x .Add y cpos) pos) (tNp F L (ow F.K F.mg p xs :: O) (ma.bind fun u => (mb u.2).bind fun w => need (u.1.length + w.1.length ≤ sizeLine) (.ok (u.1 ++ w.1, w.2))) (fun q _ => L.set i (rf q)) (fun q r => ow F.K F.mg q r.1 :: ow F.K F.mg p r.2 :: O)) :=
  ps_imp (ps_set (i := i) hN hi hz (pe_op op_cat hx (pe_ex hy)) hs hf) fun D σ H ⟨g, q⟩ => by
  rw [out_bind] at q
  refine ⟨g, q.mono (fun u qx v1 H1 g1 s1 r1 => ?_) fun _ z => z⟩
  rw [out_bind] at qx
  refine ⟨u.2, g1, qx.mono (fun w qy v2 H2 g2 s2 r2 => ?_) fun _ z => z⟩
  rw [out_need] at qy
  have r1' : Rep.rep F.K F.mg (rg F (ow F.K F.mg p w.2 :: O) H2) v1 u.1 := Rep.mono (kb_rg s2) r1
  obtain ⟨p1, vs, rfl, h2, h3⟩ := r1'
  obtain ⟨p2, vs', rfl, h2', h3'⟩ := r2
  refine ⟨p1, p2, vs, vs', rfl, rfl, rgn_sub (b := true) _ _ h2, rgn_sub (b := true) _ _ h2', by rw [h3.length, h3'.length]; exact qy.1, fun q hq => ?_⟩
  have rr : Reps F.K F.mg (rgn true F (ow F.K F.mg p w.2 :: O) H2) (vs ++ vs') (u.1 ++ w.1) := reps_append h3 h3'
  exact qy.2 q _ _ ⟨set_ok (p := rf q) rfl i (L2.Paired.mapP g2.slots fun _ _ z => z.mono (rg_new rfl (same_upd hq) hq)), go_new g2 (g2.grow (same_upd hq)).go (same_upd hq) hq upd_same (rr.mono (less_new (rgn_grow (b := true) (same_upd hq)) (rgn_none hq)))⟩
end
end NF

set_option Elab.async false
set_option linter.all false
set_option maxRecDepth 100000
set_option maxHeartbeats 2000000
/-! Nf63: a comprehension over a generator whose element reads a list by place; set to a name. -/
namespace NG
open PySem PySem.Spec PyProof.Rows L2 GenW
/-- what the element gives for an item: rel; nothing but the clock goes on; said where the def's state stands -/
def EltI (X : Cx) (scope : Scope) (x : Str) (elt : Expr) (rel : L2.St → Hp → V → V → Prop) : Prop := ∀ (pins : List (Addr × Obj)) (σ : L2.St) (H' : Hp) (s2 : Shared) (n C : Nat) (E' : Value → Shared → Prop) (m2 : Str → Option Value) (v : Value) (xv yv : V),
  Inv X pins σ H' s2 → s2.heap.Ns C m2 → m2 x = some v → RelV xv v → rel σ H' xv yv →
    wpAny (model X.prog X.w) X.A (eval elt (ownEnv X scope n C)) (fun y s3 => RelV yv y ∧ ∃ k, s3 = { s2 with toks := k }) E' s2
theorem elti_name {X : Cx} {scope : Scope} {x : Str} {p : Pos} (hk : scope.kind = .function) (h : scope.names.lookup x = some .local) (hd : (x == ("__debug__" : Str)) = false := by decide) : EltI X scope x (.Name x p) (fun _ _ xv yv => yv = xv) := by
  intro pins σ H' s2 n C E' m2 v xv yv I hn hm r e
  subst e
  exact wpAny_Name (wpAny_loadName_local hk (own_local h) hn hm ⟨r, s2.toks, rfl⟩) hd
/-- xs[x], xs a name of the def -/
theorem elti_ix {X : Cx} {scope : Scope} {x xs : Str} {p p1 p2 : Pos} (i : Nat) (hk : scope.kind = .function) (h : scope.names.lookup x = some .local) (hN : X.N[i]? = some xs) (hc : X.env.scope.names.lookup xs = some .cell)
    (hK : ∀ n C, (ownEnv X scope n C).kindOf xs = some .cell) (hl : ∀ n C, (ownEnv X scope n C).cells.lookup xs = X.env.cells.lookup xs) (hd : (x == ("__debug__" : Str)) = false := by decide) (hd2 : (xs == ("__debug__" : Str)) = false := by decide) (hs : PlainIx (.Name x p2) := by exact fun _ _ => rfl) :
    EltI X scope x (.Subscript (.Name xs p1) (.Name x p2) p) (fun σ H xv yv => ∃ a vs j, σ[i]? = some (some (.ref a)) ∧ xv = .int j ∧ (SqL X.K H a vs ∨ SqT X.K H a vs) ∧ atI vs j = some yv) := by
  intro pins σ H' s2 n C E' m2 v xv yv I hn hm r ⟨a, vs, j, e1, e2, e3, e4⟩
  subst e2
  obtain ⟨m, hnn, hll⟩ := I.loc
  obtain ⟨u, ru, l⟩ := hll i xs _ hN e1 (.inr (.inl hc))
  have hcell : ∃ c, X.env.cells.lookup xs = some c ∧ s2.heap.IsCell c (some u) := by
    rcases l with ⟨hk', _⟩ | ⟨_, c, hc', hcell⟩
    · have hk' : X.env.scope.names.lookup xs = some .local := hk'
      rw [hc] at hk'; cases hk'
    · exact ⟨c, hc', hcell⟩
  obtain ⟨c, hc1, hc2⟩ := hcell
  refine Subscript_ (wpAny_Name (wpAny_loadName_cell hk (hK n C) ((hl n C).trans hc1) hc2 ?_) hd2)
  refine wpAny_Name (wpAny_loadName_local hk (own_local h) hn hm ?_) hd
  have eu : u = Value.ref a := ru
  subst eu
  obtain ⟨t, rfl⟩ := r
  obtain ⟨jj, h1, h2, h3, h4, h5⟩ := atI_get e4
  have hnn := line63
  rcases e3 with hq | hq
  · obtain ⟨its, r, pl, hz⟩ := I.list hq
    obtain ⟨w, ew, rw'⟩ := r.get h2
    have hl := r.length
    have fin : RelV yv w ∧ ∃ k, s2 = { s2 with toks := k } := ⟨rw', s2.toks, rfl⟩
    by_cases h0 : 0 ≤ j
    · have hj : j.toNat = jj := by
        rw [seqIndex_of h0 h5] at h1
        exact Option.some.inj h1
      exact item_listR pl.isList h0 (by omega) (by rw [hj]; simpa using ew) fin (hs _ _)
    · have hj : (j + (its.toArray.size : Int)).toNat = jj := by
        rw [seqIndex_neg (by omega) h4] at h1
        rw [List.size_toArray, ← hl]
        exact Option.some.inj h1
      exact subscriptTail_builtinR (x := w) pl.isList.typeIs slot_list_getitem.lookup
        (wpAny_getItem_list_neg (Q := fun r s' => r = w ∧ (RelV yv r ∧ ∃ k, s' = { s2 with toks := k })) pl.isList (by omega) (by rw [List.size_toArray] <;> omega) (by omega) (by rw [hj]; simpa using ew) ⟨rfl, fin⟩) (hs _ _)
  · obtain ⟨its, r, pl, hz⟩ := I.tuple hq
    obtain ⟨w, ew, rw'⟩ := r.get h2
    have hl := r.length
    have fin : RelV yv w ∧ ∃ k, s2 = { s2 with toks := k } := ⟨rw', s2.toks, rfl⟩
    exact subscriptTail_builtinR (x := w) pl.typeIs slot_tuple_getitem.lookup
      (getItem_tuple (j := jj) (Q := fun r s' => r = w ∧ (RelV yv r ∧ ∃ k, s' = { s2 with toks := k })) pl (by omega) (by omega) (by rw [List.size_toArray, ← hl]; exact h1) (by simpa using ew) ⟨rfl, fin⟩) (hs _ _)
theorem lcN_core {X : Cx} {k : Nat} {x : Str} {px : Pos} {ge elt : Expr} {scope : Scope} {own : List (Str × Nat)} {pos pos' : Pos} {tg : TGenN} {rel : L2.St → Hp → V → V → Prop} {use : Option (Value → Sem Unit)} {Qf : Value → Shared → Prop} {pins : List (Addr × Obj)} {s : Shared} {σ : L2.St} {H : Hp} {Q : VK}
    (hN : X.N.Nodup) (hr : Room (k + 3) X.A) (hi : PGN X k ge tg) (ok : BlkOk X.N X.env.scope scope own) (hx : scope.names.lookup x = some .local)
    (he : EltI X scope x elt rel) (hs : ∀ x, foldedSetIterable ge X.env x = pure x) (I : Inv X pins σ H s) (h : tLcN tg rel σ H Q)
    (hRR : ∀ D C s' m H', Inv X pins σ H' s' → Q (.ref D) H' → s'.heap.Ns C m → FpOk X pins H' C → compPost (model X.prog X.w) X.A X.xe use Qf (.ref D) C (.ok .next) s') :
    wpAny (model X.prog X.w) X.A (comprehension (.ListComp elt [⟨.Name x px, ge, [], 0⟩] scope pos) scope X.env pos' (newList []) false (eval ge X.env) use) Qf X.xe s := by
  have hfree : ∀ y ∈ scope.names, y.2 = .free → ∃ c, X.env.cells.lookup y.1 = some c := fun y hy e => (ok.free y hy e).elim (fun z => I.ok.has _ (.inl z)) fun z => I.ok.has _ (.inr z)
  refine wpAny_comprehension_free (use := use) rfl hs (closure_ok hfree) ok.kind (fun y hy e => by rw [ok.uniq y hy, e]) (thn (hi.run pins s σ H _ I h) fun u s1 ⟨H1, sc, T, Qe, I1, hN1, hT, f, hf, hq⟩ => ?_)
  obtain ⟨a, g, c, rfl, ha1, ha2, hg, hgs, hos, hb, hl, hkp, wake⟩ := hN1
  refine wpAny_pyIter_gen hg ?_
  refine wpAny_newObj_type (newEnv_comp ?_) (by show 0 ≤ sizeLine; decide)
  have J1 : Inv X pins σ H1 s1 := I1.call' (ch := []) hos (Un.kept hkp) (I1.hok.kept hkp) hb fun b z => by simp at z
  generalize hs3 : ({ s1 with heap := s1.heap.push { cls := .type "list", data := .seq ([] : List Value).toArray } } : Shared) = s3
  have h3 : s3.heap = s1.heap.push { cls := .type "list", data := .seq ([] : List Value).toArray } := by rw [← hs3]
  have kp3 : ∀ b o, s1.heap.get? b = some o → s3.heap.get? b = some o := fun b o e => by rw [h3]; exact Heap.get?_push_of_some _ e
  have sz3 : s3.heap.objs.size = s1.heap.objs.size + 1 := by rw [h3]; exact Heap.size_push ..
  have J3 : Inv X pins σ H1 s3 := by
    rw [← hs3]
    exact J1.kept (t' := s1.toks) fun b o e => Heap.get?_push_of_some _ e
  have J4 := block_start (fp := []) J3 ok hN fun b hb => by simp at hb
  obtain ⟨m, hm, _⟩ := J4.loc
  generalize hD : s1.heap.objs.size = D at *
  have hDn : H1 D = none := J1.hok.fresh (Nat.le_of_eq hD)
  generalize hC : s3.heap.objs.size = C at *
  have hCD : C ≠ D := by omega
  have hCn : H1 C = none := J3.hok.fresh (Nat.le_of_eq hC)
  generalize hs4 : ({ s3 with heap := pushCells (s3.heap.push { cls := .type "dict", data := .dict #[] }) scope.names } : Shared) = s4 at *
  have kp4 : ∀ b o, s3.heap.get? b = some o → s4.heap.get? b = some o := fun b o e => by rw [← hs4]; exact pushCells_keeps _ _ _ _ (Heap.get?_push_of_some _ e)
  have hLC : m = m := rfl
  have sz4 : ∀ b, b < C → (∀ o, s3.heap.get? b = some o → s4.heap.get? b = some o) := fun b _ o e => kp4 b o e
  have hD4 : s4.heap.get? D = some (lstObj #[] 0) := kp4 D _ (by rw [h3, ← hD]; exact Heap.get?_push_size _ rfl)
  have hm4 : s4.heap.Ns C m := hm
  have cObj : ∀ {s : Shared} {m : Str → Option Value}, s.heap.Ns C m → ∃ o, s.heap.get? C = some o ∧ ∀ v, o.data ≠ .cell v := fun ⟨o, es, ep, e, hd, _⟩ => ⟨o, e, fun v z => by rw [hd] at z; cases z⟩
  have dObj : ∀ {s : Shared} {acc : Array Value} {c : Nat}, s.heap.get? D = some (lstObj acc c) → ∃ o, s.heap.get? D = some o ∧ ∀ v, o.data ≠ .cell v := fun e => ⟨_, e, fun v z => by cases z⟩
  have cps : ∀ {s : Shared} {m : Str → Option Value} {acc : Array Value} {c : Nat}, s.heap.Ns C m → s.heap.get? D = some (lstObj acc c) → ∀ b ∈ [C, D], ∃ o, s.heap.get? b = some o ∧ ∀ v, o.data ≠ .cell v := fun h1 h2 b hb => by
    rcases List.mem_cons.mp hb with z | z
    · rw [z]; exact cObj h1
    · rw [List.mem_singleton.mp z]; exact dObj h2
  have os4 : s4.os = sc.os := by rw [← hs4, ← hs3]; exact hos
  have gens4 : s4.gens = s1.gens := by rw [← hs4, ← hs3]
  have hr1 : Room k X.A.in1 := by
    refine ⟨hr.hd, ?_, ?_⟩
    · have := hr.dp
      show X.A.depth + 3 * k + 5 < _
      omega
    · have := hr.un
      show X.A.units + 1 + 16 * k + 200 < _
      omega
  have hroom : X.A.depth < recursionLimit := by have := hr.dp; omega
  have ltD : ∀ {b : Addr} {o : Obj}, sc.heap.get? b = some o → b ≠ C ∧ b ≠ D := fun {b o} e => by
    have q := Heap.lt_size (hkp b o e)
    rw [hD] at q
    exact ⟨Nat.ne_of_lt (Nat.lt_trans q (by rw [sz3]; exact Nat.lt_succ_self D)), Nat.ne_of_lt q⟩
  -- asleep, j items are out
  let LI : Nat → Shared → Prop := fun j s => j ≤ T.xs.length ∧ s.os = sc.os ∧ AllBare s.gens ∧ s.heap.NoLimit ∧ s.heap.IsGen a g ∧ (∃ m, s.heap.Ns C m) ∧ (∃ (acc : Array Value) (c : Nat), s.heap.get? D = some (lstObj acc c) ∧ Vals ((T.xs.take j).map f) acc.toList) ∧
    ∃ gs, s.gens[g]? = some gs ∧ ∀ s'', Slp [C, D] s s'' → gs.Goes (model X.prog X.w) X.A.in1 (YE X.prog X.w X.stack H1 sc [C, D] a g Qe NoEx) (YI X.prog X.w X.stack H1 sc [C, D] a g T) (T.xs.length - j) (.send .none) s''
  have start : LI 0 s4 := by
    refine ⟨Nat.zero_le _, os4, by rw [gens4]; exact hb, hl.keeps fun b o e => kp4 b o (kp3 b o e), ?_, ⟨m, hm4⟩, ⟨#[], 0, hD4, .nil⟩, .fresh c, by rw [gens4]; exact hgs, fun s'' z => ⟨rfl, ?_⟩⟩
    · obtain ⟨o, nm, qn, ho, r⟩ := hg
      exact ⟨o, nm, qn, kp4 _ _ (kp3 _ _ ho), r⟩
    · refine wake X.A.in1 [C, D] s'' hr1 I1.ok.frames (fun b hb => ?_) (fun b o e => ?_) z.have_ (z.os.trans os4) z.bare
      · rcases List.mem_cons.mp hb with y | y
        · rw [y, sz3]; exact Nat.le_succ D
        · rw [List.mem_singleton.mp y]; exact Nat.le_refl D
      · have lt := Heap.lt_size e
        rw [hD] at lt
        refine z.keep b o (fun hm => ?_) (kp4 b o (kp3 b o e))
        rcases List.mem_cons.mp hm with y | y
        · exact Nat.ne_of_lt (Nat.lt_trans lt (by rw [sz3]; exact Nat.lt_succ_self D)) y
        · exact Nat.ne_of_lt lt (List.mem_singleton.mp y)
  have loop : codeAny (model X.prog X.w) X.A (.compLoop (.ListComp elt [⟨.Name x px, ge, [], 0⟩] scope pos) 0 (.ref a) (.ref D) (ownEnv X scope (C + 1) C)) (compPost (model X.prog X.w) X.A X.xe use Qf (.ref D) C) s4 := by
    refine compLoop_any (fun n s' => ∃ j, n = T.xs.length - j ∧ LI j s') ?_ T.xs.length ⟨0, by omega, start⟩
    rintro n s5 ⟨j, hnj, hj, o5, b5, l5, g5, ⟨m5, n5⟩, ⟨acc, c5, d5, r5⟩, gs, gs5, go5⟩
    have ex5 := cps n5 d5
    have lr5 := r5.length
    rw [List.length_map, List.length_take, Nat.min_eq_left hj] at lr5
    have hgl : g < s5.gens.size := by
      rcases Nat.lt_or_ge g s5.gens.size with z | z
      · exact z
      · rw [Array.getElem?_eq_none z] at gs5; cases gs5
    rw [← hnj] at go5
    have at_ : ∀ {s₁ : Shared}, (∀ b ∈ [C, D], s₁.heap.get? b = (s5.setGen g .running).heap.get? b) → s₁.heap.Ns C m5 ∧ s₁.heap.get? D = some (lstObj acc c5) := fun h =>
      ⟨n5.at' fun o e => (h C List.mem_cons_self).trans e, (h D (List.mem_cons_of_mem _ List.mem_cons_self)).trans d5⟩
    refine wpAny_gsz (n := s5.gens.size) (Nat.le_refl _) (next_genG (n := n) (F := fun n s₀ s1 => n = 0 ∧ ∃ H', s1.os = sc.os ∧ AllBare s1.gens ∧ Un (frs X.stack) [] H1 H' sc.heap s1.heap ∧ HOk X.prog X.w H' s1.heap ∧ (∀ b ∈ [C, D], H' b = none ∧ s1.heap.get? b = s₀.heap.get? b) ∧ Qe H')
      (Er := fun e s1 => CX X.prog X.w X.stack H1 sc NoEx e s1 ∧ s1.heap.IsGen a g) (Y := YI X.prog X.w X.stack H1 sc [C, D] a g T) hr.hd l5 hroom g5 gs5 (go5 _ ⟨rfl, allBare_setGen b5 rfl, fun _ _ _ e => e, ex5⟩) (fun v s₁ gs' hbare hy hle => ?_) (fun s₁ hF h' hk hle => ?_) fun e s₁ ⟨hc, _⟩ => ?_)
    · obtain ⟨j', xv, e1, e2, rv, o1, bb1, l1, ig1, ⟨H', y', un', hok', cp'⟩, kap⟩ := hy
      obtain ⟨nC, dD⟩ := at_ fun b hb => (cp' b hb).2
      cases n with
      | zero => exact (kap s₁ (slp_refl bb1 (cps nC dD))).elim
      | succ n =>
        have ej : j' = j := by omega
        subst ej
        have J6 : Inv X pins σ H' (s₁.setGen g gs') := I1.call' (ch := []) o1 un' hok' (allBare_setGen bb1 hbare) fun b z => by simp at z
        refine wpAny_of_eq (rfl : letOwnedTupleGo (.Name x px) (.ref a) v = pure ()) ?_
        refine wpAny_assign_Name (wpAny_storeName_local (own_local hx) (show (s₁.setGen g gs').heap.Ns C m5 from nC) (fun h7 n7 sb7 => ?_) (own_plain ok.kind))
        refine wpAny_tests_nil ?_
        rw [if_pos rfl]
        refine wpAny_mono (he pins σ H' _ (C + 1) C _ _ v xv (f xv) (J6.turnedL (t' := s₁.toks + 1) (ch := [C]) (fun b o hb e => sb7.extBut b o (fun z => hb (List.mem_singleton.mpr z)) e) fun b hb => by rw [List.mem_singleton.mp hb]; exact J3.fpOk (Nat.le_of_eq hC) (cp' C List.mem_cons_self).1) n7 (by simp) rv (hf H' xv y' (List.mem_of_getElem? e1))) (fun y s8 ⟨ry, k8, e8⟩ => ?_) fun _ _ e => e
        subst e8
        have d8 : h7.get? D = some (lstObj acc c5) := sb7.extBut D _ (Ne.symm hCD) dD
        refine append_at (its := acc) (n := c5) (hsz := by rw [← Array.length_toList, ← lr5]; exact Nat.le_trans hj hT) d8 fun h9 sb9 e9 => ?_
        have k9 : ∀ b o, b ≠ C → b ≠ D → s₁.heap.get? b = some o → h9.get? b = some o := fun b o h1 h2 e => sb9.extBut b o h2 (sb7.extBut b o h1 e)
        have n9 : h9.Ns C _ := n7.at' fun o e => sb9.extBut C o hCD e
        have cl : cStatics ≠ C ∧ cStatics ≠ D := by
          obtain ⟨mc, hns, _⟩ := hl
          have lt := hns.lt
          rw [hD] at lt
          exact ⟨Nat.ne_of_lt (Nat.lt_trans lt (by rw [sz3]; exact Nat.lt_succ_self D)), Nat.ne_of_lt lt⟩
        have aCD : a ≠ C ∧ a ≠ D := ⟨Nat.ne_of_lt (Nat.lt_trans ha2 (by rw [sz3]; exact Nat.lt_succ_self D)), Nat.ne_of_lt ha2⟩
        refine ⟨T.xs.length - (j' + 1), by omega, j' + 1, rfl, by omega, o1, allBare_setGen bb1 hbare, ?_, ?_, ⟨_, n9⟩, ⟨acc.push y, c5 + 1, e9, ?_⟩, gs', setGen_at (by rw [setGen_size] at hle; omega), fun s'' z => ?_⟩
        · obtain ⟨mc, hns, hnn⟩ := l1
          exact ⟨mc, hns.at' fun o e => k9 _ o cl.1 cl.2 e, hnn⟩
        · obtain ⟨o, nm, qn, ho, r⟩ := ig1
          exact ⟨o, nm, qn, k9 _ _ aCD.1 aCD.2 ho, r⟩
        · rw [Array.toList_push, List.take_add_one, e1, List.map_append]
          exact r5.append (.cons ry .nil)
        · have e3 : T.xs.length - (j' + 1) = n := by omega
          rw [e3]
          refine kap s'' ?_
          refine slp_trans ?_ z
          exact ⟨rfl, allBare_setGen bb1 hbare, fun b o hb e => k9 b o (fun q => hb (q ▸ List.mem_cons_self)) (fun q => hb (q ▸ List.mem_cons_of_mem _ List.mem_cons_self)) e, cps n9 e9⟩
    · obtain ⟨h0, H', o1, bb1, un', hok', cp', hQe⟩ := hF
      obtain ⟨nC, dD⟩ := at_ fun b hb => (cp' b hb).2
      have ej : j = T.xs.length := by omega
      subst ej
      rw [List.take_length] at r5
      have hDn' := (cp' D (List.mem_cons_of_mem _ List.mem_cons_self)).1
      have Je := I1.drained (S := D) (ex := []) (s' := { s₁.setGen g .finished with heap := h' }) (out := T.xs.map f) (acc := acc) (c := c5) (by rw [← hD]; exact Nat.le_trans ha1 (Nat.le_of_lt (by rw [hD]; exact ha2))) (by rw [List.length_map]; exact hT) (hk D _ dD) r5 ExOk.nil o1 (allBare_setGen bb1 rfl) (un'.trans (Un.kept hk)) (hok'.kept hk) hDn'
      obtain ⟨f0, f1, f2, f3, f4, f5⟩ := J3.fpOk (b := C) (H' := upd H' D (.lst (T.xs.map f))) (Nat.le_of_eq hC) (by rw [upd_ne hCD]; exact (cp' C List.mem_cons_self).1)
      exact hRR D C _ m5 _ Je (hq H' D hQe hDn') (nC.at' fun o e => hk C o e) ⟨f0, f1, f2, f3, f4, f5⟩
    · obtain ⟨_, _, _, _, _, _, _, _, _, _, _, _, z⟩ := hc
      exact z.elim
  exact codeAny_compStart_list loop (wpAny_pyIter_gen start.2.2.2.2.1 loop)
/-- as a value -/
theorem pe_lcNI {X : Cx} {k : Nat} {x : Str} {px : Pos} {ge elt : Expr} {scope : Scope} {own : List (Str × Nat)} {pos : Pos} {tg : TGenN} {rel : L2.St → Hp → V → V → Prop} (hN : X.N.Nodup) (hr : Room (k + 3) X.A) (hi : PGN X k ge tg) (ok : BlkOk X.N X.env.scope scope own) (hx : scope.names.lookup x = some .local)
    (he : EltI X scope x elt rel) (hs : ∀ x, foldedSetIterable ge X.env x = pure x := by intro _; rfl) : PE X (.ListComp elt [⟨.Name x px, ge, [], 0⟩] scope pos) (tLcN tg rel) := by
  refine ⟨fun pins s σ H Q I h => ?_⟩
  rw [eval_ListComp]
  refine lcN_core hN hr hi ok hx he hs I h fun D C s' m H' I' q hn f => ⟨m, hn, fun h'' sb => ?_⟩
  obtain ⟨f0, f1, f2, f3, f4, f5⟩ := f
  exact ⟨.ref D, H', I'.turned (t' := s'.toks) (fun b o hb e => (sb.2 b hb).trans e) f0 f1 f3 f4 f5, rfl, q⟩
/-- y = [..] -/
theorem ps_setLcN {X : Cx} {i k : Nat} {x y : Str} {px py : Pos} {ge elt : Expr} {scope : Scope} {own : List (Str × Nat)} {pos spos : Pos} {tg : TGenN} {rel : L2.St → Hp → V → V → Prop} (hN : X.N.Nodup) (hr : Room (k + 3) X.A) (hi : PGN X k ge tg) (ok : BlkOk X.N X.env.scope scope own) (hx : scope.names.lookup x = some .local)
    (he : EltI X scope x elt rel) (hy : X.N[i]? = some y) (hyl : X.env.scope.names.lookup y = some .local)
    (hsw : swapsWith (.ListComp elt [⟨.Name x px, ge, [], 0⟩] scope pos) (some (.Name y py)) spos.line X.env = pure true) (hs : ∀ x, foldedSetIterable ge X.env x = pure x := by intro _; rfl) :
    PS X (.Assign [.Name y py] (.ListComp elt [⟨.Name x px, ge, [], 0⟩] scope pos) spos) (tAsg (tLcN tg rel) (gName i)) := by
  refine ⟨fun pins s σ H D I h => ?_⟩
  rw [exec_Assign_Name_used _ _ _ _ hsw]
  refine wpAny_bind (wpAny_standAt (wpAny_bind ?_))
  show wpAny _ X.A (do let _ ← comprehension (.ListComp elt [⟨.Name x px, ge, [], 0⟩] scope pos) scope X.env (firstIterPos [⟨.Name x px, ge, [], 0⟩] pos) (newList []) false (eval ge X.env) (some (assign (.Name y py) X.env))) _ _ s
  have h : tLcN tg rel σ H (fun x H1 => gName i x σ H1 D.nx) := h
  refine wpAny_bind (thn (lcN_core (Qf := fun _ s' => SP X pins D .next s') hN hr hi ok hx he hs I h fun L C s' m H' I' q hn f => ?_) fun _ s' hq => wpAny_pure (wpAny_pure hq))
  show wpAny _ _ (assign (.Name y py) X.env (.ref L)) _ _ _
  refine wpAny_assign_Name (store_ok2 (v := V.ref L) I' hN hy (.inl hyl) rfl (fun s2 I2 ⟨a, sb, ha⟩ => ?_) (.inr hyl))
  obtain ⟨f0, f1, f2, f3, f4, f5⟩ := f
  have haC : C ≠ a := by
    rcases ha with z | z
    · rw [z]; exact f1
    · exact fun e => f4 y a z e.symm
  refine ⟨m, hn.sameBut sb haC, fun h3 sb3 => ?_⟩
  exact ⟨_, H', I2.turned (t' := s2.toks) (fun b o hb e => (sb3.2 b hb).trans e) f0 f1 f3 f4 f5, q⟩
end NG

set_option Elab.async false
set_option linter.all false
set_option maxRecDepth 100000
set_option maxHeartbeats 2000000
/-! Nf64: a comprehension over an own generator, in normal form: its element a name or a place of a list of the def; as a value, set to a name. -/
namespace NF
open PySem PySem.Spec PyProof.Rows L2
open Data (toD)
/-- what an element is worth -/
def ElN {β : Type} [Rep β] (F : Fr) (L : List (Option Asr)) (O : List Own) (rel : L2.St → Hp → V → V → Prop) (el : Int → Res β) : Prop :=
  ∀ σ H, G F L O σ H → ∃ f : V → V, ∀ n y, el n = .ok y → (∀ H', Same H H' → rel σ H' (.int n) (f (.int n))) ∧ rp F (rg F O H) (f (.int n)) y
section
variable {X : Cx} {F : Fr} {L : List (Option Asr)} {O : List Own} {α β s : Type} [Obj α] [Rep β] [Rep s]
theorem eln_name : ElN F L O (fun _ _ xv yv => yv = xv) (fun n => Res.ok n) := fun σ H g => ⟨id, fun n y e => by
  cases e
  exact ⟨fun _ _ => rfl, rfl⟩⟩
theorem eln_ix [Lk s β] (i : Nat) {a : s} (hL : L[i]? = some (vl F.K F.mg a)) : ElN F L O (fun σ H xv yv => ∃ p vs j, σ[i]? = some (some (.ref p)) ∧ xv = .int j ∧ (SqL F.K H p vs ∨ SqT F.K H p vs) ∧ atI vs j = some yv) (fun n => idx (Lk.its a) n) := fun σ H g => by
  obtain ⟨v, h1, h2⟩ := g.slot hL
  obtain ⟨p, vs, rfl, h3, h4⟩ := Lk.get h2
  refine ⟨fun | .int n => (atI vs n).getD .non | _ => .non, fun n y e => ?_⟩
  have e : idx (Lk.its a) n = .ok y := e
  unfold idx at e
  cases ea : atI (Lk.its a) n with
  | none => rw [ea] at e; cases e
  | some z =>
    rw [ea] at e
    cases e
    obtain ⟨w, e2, r⟩ := at_get h4 ea
    have e3 : (atI vs n).getD V.non = w := by rw [e2]; rfl
    show (∀ H' : Hp, Same H H' → ∃ p vs' j, σ[i]? = some (some (V.ref p)) ∧ V.int n = V.int j ∧ (SqL F.K H' p vs' ∨ SqT F.K H' p vs') ∧ atI vs' j = some ((atI vs n).getD V.non)) ∧ rp F (rg F O H) ((atI vs n).getD V.non) _
    refine ⟨fun H' s => ⟨p, vs, n, h1, rfl, ?_, ?_⟩, ?_⟩
    · rcases h3 with h3 | h3
      · exact .inl (s.seq (less_same.seq h3))
      · exact .inr (same_t s (same_t less_same h3))
    · rw [e3]; exact e2
    · rw [e3]; exact r
theorem mapR_reps {R : Hp} {f : V → V} {el : Int → Res β} (h : ∀ n y, el n = .ok y → rp F R (f (.int n)) y) : ∀ {xs : List Int} {ys : List β}, mapR (fun n => (el n).quiet) xs = .ok ys → Reps F.K F.mg R ((xs.map V.int).map f) ys
  | [], ys, e => by cases e; exact .nil
  | n :: xs, ys, e => by
    have e : ((el n).quiet.bind fun y => (mapR (fun n => (el n).quiet) xs).bind fun ys => Res.ok (y :: ys)) = .ok ys := e
    cases e1 : el n with
    | err c fs => rw [e1] at e; cases e
    | bad => rw [e1] at e; cases e
    | ok y =>
      rw [e1] at e
      cases e2 : mapR (fun n => (el n).quiet) xs with
      | err c fs => rw [e2] at e; cases e
      | bad => rw [e2] at e; cases e
      | ok zs =>
        rw [e2] at e
        cases e
        exact .cons (h n y e1) (mapR_reps h e2)
theorem mapR_each {el : Int → Res β} : ∀ {xs : List Int} {ys : List β}, mapR (fun n => (el n).quiet) xs = .ok ys → ∀ n ∈ xs, ∃ y, el n = .ok y
  | n :: xs, ys, e, m, hm => by
    have e : ((el n).quiet.bind fun y => (mapR (fun n => (el n).quiet) xs).bind fun ys => Res.ok (y :: ys)) = .ok ys := e
    cases e1 : el n with
    | err c fs => rw [e1] at e; cases e
    | bad => rw [e1] at e; cases e
    | ok y =>
      rw [e1] at e
      cases e2 : mapR (fun n => (el n).quiet) xs with
      | err c fs => rw [e2] at e; cases e
      | bad => rw [e2] at e; cases e
      | ok zs =>
        rcases List.mem_cons.mp hm with rfl | hm
        · exact ⟨y, e1⟩
        · exact mapR_each e2 m hm
theorem mapR_noerr {el : Int → Res β} : ∀ {xs : List Int} {c : Str} {fs : List (Str × PyData)}, mapR (fun n => (el n).quiet) xs = .err c fs → False
  | [], c, fs, e => by cases e
  | n :: xs, c, fs, e => by
    have e : ((el n).quiet.bind fun y => (mapR (fun n => (el n).quiet) xs).bind fun ys => Res.ok (y :: ys)) = .err c fs := e
    cases e1 : el n with
    | err c fs => rw [e1] at e; cases e
    | bad => rw [e1] at e; cases e
    | ok y =>
      rw [e1] at e
      cases e2 : mapR (fun n => (el n).quiet) xs with
      | err c2 fs2 => exact mapR_noerr e2
      | bad => rw [e2] at e; cases e
      | ok zs => rw [e2] at e; cases e
variable {k : Nat} {ps : List Str} {x m : Str} {px pos pos' apos : Pos} {o elt : Expr} {b : Bool} {scope : Scope} {own : List (Str × Nat)} {rel : L2.St → Hp → V → V → Prop} {el : Int → Res β}
/-- the comprehension's result -/
abbrev mLcN (mir : Ar α Unit → Res (List Int)) (mo : Res α) (el : Int → Res β) : Res (List β) := mo.bind fun a => (mir (Ar.mk a ())).quiet.bind fun xs => need (xs.length ≤ sizeLine) (mapR (fun n => (el n).quiet) xs)
theorem lcN_nf {mir : Ar α Unit → Res (List Int)} {mo : Res α} {C : Addr} (h1 : X.mg (Obj.cls α) = some (.ref C)) (hel : ElN F L O rel el)
    (hf : ∀ a : α, (Obj.fa F.K F.mg a).lookup m = none) (hK : X.K = F.K) (hM : X.mg = F.mg) {σ : L2.St} {H : Hp} {Q : VK} (h : tF true F L O (mLcN mir mo el) σ H Q) : NG.tLcN (NG.tMethN C m (spN X.K X.mg mir) (tP b F L O mo)) rel σ H Q := by
  obtain ⟨g, q⟩ := h
  unfold mLcN at q
  rw [out_bind] at q
  refine ⟨g, q.mono (fun s qs v1 H1 g1 s1 r1 => ?_) fun _ z => z⟩
  have r1' := r1
  obtain ⟨p, C', dx, vs, e1, e2, e3, e4⟩ := r1
  subst e1
  have eC : C' = C := by
    rw [← hM, h1] at e2
    cases e2
    rfl
  subst eC
  cases em : mir (Ar.mk s ()) with
  | err c fs => rw [em] at qs; exact qs.elim
  | bad => rw [em] at qs; exact qs.elim
  | ok xs =>
    rw [em] at qs
    have qs2 : Out F (need (xs.length ≤ sizeLine) (mapR (fun n => (el n).quiet) xs)) _ _ := qs
    rw [out_need] at qs2
    obtain ⟨hz, kk⟩ := qs2
    cases ey : mapR (fun n => (el n).quiet) xs with
    | err c fs => exact (mapR_noerr ey).elim
    | bad => rw [ey] at kk; exact kk.elim
    | ok ys =>
      rw [ey] at kk
      obtain ⟨f, hf'⟩ := hel σ H1 g1
      refine ⟨p, dx, vs, rfl, rgn_sub _ _ e3, e4.miss (hf s), ⟨xs.map V.int, fun H' => Same H1 H'⟩, Same H1, ⟨Ar.mk s (), avoid b F O, xs, fun x hx => g1.go.avoided x hx, ?_, em, rfl, fun _ h => h, fun _ h => h⟩, by rw [List.length_map]; exact hz, f, fun H' xv hy hx => ?_, fun H' D' s2 hD => ?_⟩
      · rw [← rgn_avoid, hK, hM]
        exact ⟨V.ref p, [], rfl, r1', rfl⟩
      · obtain ⟨n, hn, rfl⟩ := List.mem_map.mp hx
        obtain ⟨y, e⟩ := mapR_each ey n hn
        exact (hf' n y e).1 H' hy
      · have s3 : Same H' (upd H' D' (.lst ((xs.map V.int).map f))) := same_upd hD
        have hD1 : H1 D' = none := by
          cases z : H1 D' with
          | none => rfl
          | some ob =>
            have := s2 _ _ z
            rw [hD] at this; cases this
        have hD0 : H D' = none := by
          cases z : H D' with
          | none => rfl
          | some ob =>
            have := s1 _ _ z
            rw [hD1] at this; cases this
        exact kk D' _ _ ((g1.grow s2).grow s3) ((s1.trans s2).trans s3) hD0 upd_same ((mapR_reps (fun n y e => (hf' n y e).2) ey).mono (less_new (rg_grow (s2.trans s3)) (rgn_none (b := true) hD1)))
variable {mir : Ar α Unit → Res (List Int)} {mo : Res α} {pl : Sem Bool}
/-- [elt for x in o.m()], as a new list -/
theorem f_lcGI (D : MethG X.prog X.w X.K X.mg X.base k (Obj.cls α) m ps (spN X.K X.mg mir)) (hr : Room (k + 3) X.A) (ho : PE X o (tP b F L O mo)) (hN : X.N.Nodup) (ok : BlkOk X.N X.env.scope scope own) (he : NG.EltI X scope x elt rel) (hel : ElN F L O rel el) (hx : scope.names.lookup x = some .local := by rfl)
    (hf : ∀ a : α, (Obj.fa F.K F.mg a).lookup m = none := by intro _; rfl) (hK : X.K = F.K := by rfl) (hM : X.mg = F.mg := by rfl) (hs : ∀ x, foldedSetIterable (.Call (.Attribute o m apos) [] [] pos') X.env x = pure x := by intro _; rfl)
    (ht : eval (.Call (.Attribute o m apos) [] [] pos') X.env = (do
      let ov ← eval o X.env
      standAt apos.atName
      let (f, first) ← holding [ov] (getMethod ov m pl)
      callWith pos' f first (backTo pos' (starEach [] X.env)) (backToKw pos' (keywordEach [] X.env))) := by rfl) :
    PE X (.ListComp elt [⟨.Name x px, .Call (.Attribute o m apos) [] [] pos', [], 0⟩] scope pos) (tF true F L O (mLcN mir mo el)) := by
  obtain ⟨C, f, fd, h1, h2, h3, h4, h5⟩ := D.ex
  exact pe_imp (NG.pe_lcNI hN hr (NG.pgn_meth0 (pl := pl) ho h2 h3 h4 (hr.mono (by omega)) h5 ht) ok hx he hs) fun σ H Q h => lcN_nf h1 hel hf hK hM h
variable {y : Str} {py spos : Pos}
/-- y = [elt for x in o.m()], as a value -/
theorem s_setLcG (i : Nat) (D : MethG X.prog X.w X.K X.mg X.base k (Obj.cls α) m ps (spN X.K X.mg mir)) (hr : Room (k + 3) X.A) (hO : List.Sublist F.O0 O) (ho : PE X o (tP b F L O mo)) (hN : X.N.Nodup) (ok : BlkOk X.N X.env.scope scope own) (he : NG.EltI X scope x elt rel) (hel : ElN F L O rel el) (hx : scope.names.lookup x = some .local := by rfl)
    (hy : X.N[i]? = some y := by rfl) (hyl : X.env.scope.names.lookup y = some .local := by rfl) (hk : X.env.scope.kind = .function := by rfl) (hl : (py.line == pos.line) = true := by rfl) (ha : (scope.names.any fun (n, k) => n == y && (k == .local || k == .cell)) = false := by rfl) (hpl : spos.line = pos.line := by rfl)
    (hf : ∀ a : α, (Obj.fa F.K F.mg a).lookup m = none := by intro _; rfl) (hK : X.K = F.K := by rfl) (hM : X.mg = F.mg := by rfl) (hs : ∀ x, foldedSetIterable (.Call (.Attribute o m apos) [] [] pos') X.env x = pure x := by intro _; rfl)
    (ht : eval (.Call (.Attribute o m apos) [] [] pos') X.env = (do
      let ov ← eval o X.env
      standAt apos.atName
      let (f, first) ← holding [ov] (getMethod ov m pl)
      callWith pos' f first (backTo pos' (starEach [] X.env)) (backToKw pos' (keywordEach [] X.env))) := by rfl) :
    PS X (.Assign [.Name y py] (.ListComp elt [⟨.Name x px, .Call (.Attribute o m apos) [] [] pos', [], 0⟩] scope pos) spos) (tN F L O (mLcN mir mo el) (fun as => L.set i (vl F.K F.mg as)) (fun _ => O)) := by
  obtain ⟨C, f, fd, h1, h2, h3, h4, h5⟩ := D.ex
  refine ps_imp (NG.ps_setLcN hN hr (NG.pgn_meth0 (pl := pl) ho h2 h3 h4 (hr.mono (by omega)) h5 ht) ok hx he hy hyl (sw_true hk hyl hl ha) hs) fun D σ H ⟨g0, q⟩ => ?_
  refine lcN_nf (Q := fun x H1 => gName i x σ H1 D.nx) h1 hel hf hK hM ⟨g0, q.mono (fun as k p vs H1 g1 s1 h1 h2 r1 => ?_) fun H' ⟨a, _⟩ => a.go.sub hO⟩
  refine k _ _ ⟨set_ok (p := vl F.K F.mg as) ?_ i g1.slots, g1.go⟩
  refine ⟨p, vs, rfl, ?_, r1.mono less_same⟩
  show less H1 (addrs O ++ F.A) p = some (.lst vs)
  rw [less_out (g0.go.out h1)]
  exact h2
/-- y = [elt for x in o.m()], an owned list -/
theorem s_ownLcG (i : Nat) (D : MethG X.prog X.w X.K X.mg X.base k (Obj.cls α) m ps (spN X.K X.mg mir)) (hr : Room (k + 3) X.A) (hO : List.Sublist F.O0 O) (ho : PE X o (tP b F L O mo)) (hN : X.N.Nodup) (ok : BlkOk X.N X.env.scope scope own) (he : NG.EltI X scope x elt rel) (hel : ElN F L O rel el) (hx : scope.names.lookup x = some .local := by rfl)
    (hy : X.N[i]? = some y := by rfl) (hyl : X.env.scope.names.lookup y = some .local := by rfl) (hk : X.env.scope.kind = .function := by rfl) (hl : (py.line == pos.line) = true := by rfl) (ha : (scope.names.any fun (n, k) => n == y && (k == .local || k == .cell)) = false := by rfl) (hpl : spos.line = pos.line := by rfl)
    (hf : ∀ a : α, (Obj.fa F.K F.mg a).lookup m = none := by intro _; rfl) (hK : X.K = F.K := by rfl) (hM : X.mg = F.mg := by rfl) (hs : ∀ x, foldedSetIterable (.Call (.Attribute o m apos) [] [] pos') X.env x = pure x := by intro _; rfl)
    (ht : eval (.Call (.Attribute o m apos) [] [] pos') X.env = (do
      let ov ← eval o X.env
      standAt apos.atName
      let (f, first) ← holding [ov] (getMethod ov m pl)
      callWith pos' f first (backTo pos' (starEach [] X.env)) (backToKw pos' (keywordEach [] X.env))) := by rfl) :
    PS X (.Assign [.Name y py] (.ListComp elt [⟨.Name x px, .Call (.Attribute o m apos) [] [] pos', [], 0⟩] scope pos) spos) (tNp F L O (mLcN mir mo el) (fun p _ => L.set i (rf p)) (fun p as => ow F.K F.mg p as :: O)) := by
  obtain ⟨C, f, fd, h1, h2, h3, h4, h5⟩ := D.ex
  refine ps_imp (NG.ps_setLcN hN hr (NG.pgn_meth0 (pl := pl) ho h2 h3 h4 (hr.mono (by omega)) h5 ht) ok hx he hy hyl (sw_true hk hyl hl ha) hs) fun D σ H ⟨g0, q⟩ => ?_
  refine lcN_nf (Q := fun x H1 => gName i x σ H1 D.nx) h1 hel hf hK hM ⟨g0, q.mono (fun as k p vs H1 g1 s1 h1 h2 r1 => ?_) fun H' ⟨a, _⟩ => a.go.sub hO⟩
  exact k p _ _ ⟨set_ok (p := rf p) rfl i (L2.Paired.mapP g0.slots fun _ _ z => z.mono (rg_new rfl s1 h1)), go_new g0 g1.go s1 h1 h2 r1⟩
end
end NF

set_option Elab.async false
set_option linter.all false
set_option maxRecDepth 100000
set_option maxHeartbeats 4000000
namespace K22
open PySem PySem.Spec PyProof.Rows L2 NF
open NF.Data (toD)
def topS (i : Nat) : Stmt := PySem.Challenge.pw_colonnade_k22_stretches_moved.main.body.getD i (.Pass ⟨0, 0, 0, 0⟩)
structure O_Stretches where
  f_pairs : (Tp (Int × Int))
instance : NF.Obj O_Stretches := ⟨"Stretches", fun K mg a => [("pairs", va K mg a.f_pairs)]⟩
def cls_Stretches : List Stmt := match topS 6 with
  | .ClassDef (body := b) .. => b
  | _ => []
section
variable {P : Program} {w : World} {K : Fg} {mg : MG} {base : Heap}

/-! ### _merged -/
noncomputable def m_merged (a : (Ar (Sq (Int × Int)) Unit)) : Res (Tp (Int × Int)) :=
  (need (List.length ([] : List (Int × Int)) ≤ sizeLine) (Res.ok ([] : List (Int × Int)))).bind fun merged_1 => (foldR (fun (a3 : (Int × Int)) (b4 : ((List (Int × Int)))) => ((if (!List.isEmpty b4) then (((idx b4 (-(1 : Int))).bind fun v7 => Res.ok v7.2).bind fun v8 => Res.ok (decide (a3.1 ≤ v8))) else Res.ok false).bind fun v30 => if v30 then ((((((idx b4 (-(1 : Int))).bind fun v20 => Res.ok v20.1).bind fun v23 => (((idx b4 (-(1 : Int))).bind fun v21 => Res.ok v21.2).bind fun v22 => Res.ok (if v22 > a3.2 then v22 else a3.2)).bind fun v24 => Res.ok (v23, v24)).bind fun v25 => Res.ok (v25, b4)).bind fun u27 => setR u27.2 (-(1 : Int)) u27.1).bind fun xs28 => Res.ok xs28) else ((need (List.length b4 < sizeLine) (Res.ok (b4 ++ [(a3.1, a3.2)]))).bind fun merged_29 => Res.ok merged_29)).bind fun b19 => Res.ok b19) (srt ltII (Lk.its a.x)) merged_1).bind fun b6 => Res.ok (Tp.mk b6)
abbrev s__merged : Stmt := topS 2
theorem sc__merged : FnScope ["pairs", "merged", "start", "end"] ["pairs"] (defScope s__merged) := ⟨rfl, rfl, rfl, by decide +kernel, rfl, by decide +kernel, by decide +kernel⟩
theorem ok__merged {f : Addr} {fd : FuncData} (Fu : Fun K "_merged" "_merged" s__merged f fd) (z_max : mg "max" = none) (z_sorted : mg "sorted" = none) (z_tuple : mg "tuple" = none) : FnOk P w K mg base CX0 1 f fd ["pairs"] (spP K mg m_merged) := by
  refine def_P (τ := (Ar (Sq (Int × Int)) Unit)) (ρ := (Tp (Int × Int))) Fu sc__merged (fun a => [vl K mg a.x, none, none, none]) (fun vs R a h => by
    obtain ⟨v0, w0, e0, h0, e1⟩ := h
    cases e1; cases e0
    exact ⟨rfl, .cons h0 (.cons trivial (.cons trivial (.cons trivial (.nil))))⟩) (fun cdv A outer s H Av E a hr => ?_)
  refine tT_cast (b_Np (s_own 1 sc__merged.nd (List.nil_sublist _) (f_lst (l_nil (α := (Int × Int))))) (fun merged_1 p2 => (b_N (s_for (Sp3.mk : Sp3 (fun b : ((List (Int × Int))) => [vl K mg (a.x : (Sq (Int × Int))), rf p2, none, none]) (fun b : ((List (Int × Int))) => ([ow K mg p2 (b : (List (Int × Int)))] : List Own)) merged_1) PassesOwn.never rfl (i_lk (f_val (f_sortedII (pe_callB cr_sortedTQ (by rfl) z_sorted (by decide +kernel) (pa_cons (n_var 0) pa_nil)) rfl))) (tg_pair 2 3 (by decide) rfl sc__merged.nd) (List.nil_sublist _) ⟨.inr rfl, .inr rfl, .inl rfl, .inl rfl, trivial⟩ (List.Sublist.refl _) (fun z5 a3 b4 => (n_N (s_ifS (Sp2.mk : Sp2 (fun b : ((List (Int × Int))) => [vl K mg (a.x : (Sq (Int × Int))), rf p2, vl K mg (a3.1 : Int), vl K mg (a3.2 : Int)]) (fun b : ((List (Int × Int))) => ([ow K mg p2 (b : (List (Int × Int)))] : List Own))) (PW.pt (w_and (t_truthL (n_own 1 rfl List.mem_cons_self)) (w_and1 (t_le (n_var 2) (n_snd (n_idx (n_own 1 rfl List.mem_cons_self) (n_neg (b3 := true) (n_int (b := true))))))))) (n_N (s_sub 1 rfl (fun _ => List.nil_sublist _) (e_p (List.nil_sublist _) (n_tup2 (strong (b := false) (n_fst (n_idx (n_own 1 rfl List.mem_cons_self) (n_neg (b3 := true) (n_int (b := true)))))) (n_max2 (b3 := true) (pe_callB (call_max2 rfl) (by rfl) z_max (by decide +kernel) (pa_cons (n_var 3) (pa_cons (n_snd (n_idx (n_own 1 rfl List.mem_cons_self) (n_neg (b3 := true) (n_int (b := true))))) pa_nil))) rfl))) (fun xs26 => (n_neg (b3 := true) (n_int (b := true))))) (fun xs28 => (n_end xs28 ⟨.inr rfl, .inr rfl, .inr rfl, .inr rfl, trivial⟩ (List.Sublist.cons₂ _ (List.nil_sublist _))))) (n_N (s_app 1 rfl (fun _ => List.nil_sublist _) (n_tup2 (n_var 2) (n_var 3)) (fun h1 h2 => pe_bm PySem.F.plainAttrs_list PySem.F.slot_list_append PySem.F.type_list_append mt_append h1 h2)) (fun merged_29 => (n_end merged_29 ⟨.inr rfl, .inr rfl, .inr rfl, .inr rfl, trivial⟩ (List.Sublist.cons₂ _ (List.nil_sublist _))))) (List.nil_sublist _)) (fun b19 => (n_end b19 ⟨.inr rfl, .inr rfl, .inl rfl, .inl rfl, trivial⟩ (List.Sublist.cons₂ _ (List.nil_sublist _))))))) (fun b6 => (b_ret (n_tupleOv (pe_callTy call_tuple_of (by rfl) z_tuple (by decide +kernel) (pa_cons (n_ownV 1 rfl List.mem_cons_self) pa_nil)) rfl) (List.nil_sublist _)))))) ?_
  try simp -implicitDefEqProofs only [Res.bind_ok]
  rfl

/-! ### Stretches.__init__ -/
noncomputable def m_Stretches___init (a : (Ar (Sq (Int × Int)) Unit)) : Res O_Stretches :=
  (m_merged (Ar.mk a.x ())).bind fun pairs_31 => Res.ok (O_Stretches.mk pairs_31)
abbrev s_Stretches___init : Stmt := (cls_Stretches).getD 0 (.Pass ⟨0, 0, 0, 0⟩)
theorem sc_Stretches___init : FnScope ["self", "pairs"] ["self", "pairs"] (defScope s_Stretches___init) := ⟨rfl, rfl, rfl, by decide +kernel, rfl, by decide +kernel, by decide +kernel⟩
theorem ok_Stretches___init {f : Addr} {fd : FuncData} {dvs : List V} (Fu : FunD K "__init__" "Stretches.__init__" (defArgs s_Stretches___init) (defBody s_Stretches___init) (defScope s_Stretches___init) dvs [] f fd) (D__merged : DefAt P w K mg base CX0 1 "_merged" ["pairs"] (spP K mg m_merged)) (cl_Stretches : ClsAt K mg "Stretches") (na_Stretches_pairs : NoAt K mg "Stretches" "pairs") : FnOk P w K mg base CX0 2 f fd ["self", "pairs"] (spC K mg m_Stretches___init) := by
  refine def_CD (τ := (Ar (Sq (Int × Int)) Unit)) (α := O_Stretches) (mir := m_Stretches___init) Fu sc_Stretches___init (fun p a => [rf p, vl K mg a.x]) (fun p => [none, none]) (fun vs R p a h => by
    obtain ⟨v0, w0, e0, h0, e1⟩ := h
    cases e1; cases e0
    exact ⟨rfl, .cons rfl (.cons h0 (.nil))⟩) (fun cdv A outer s H Av E p0 a hr => ?_)
  refine tN_cast (n_N (s_fld 0 cl_Stretches na_Stretches_pairs rfl (by show (0 : Nat) < 1000; decide) (List.nil_sublist _) (nd_call D__merged (hr.mono (by decide)) (a_cons (n_var 1) a_nil))) (fun pairs_31 => (n_end (O_Stretches.mk pairs_31) ⟨.inl rfl, .inl rfl, trivial⟩ (List.Sublist.refl _)))) ?_
  try simp -implicitDefEqProofs only [Res.bind_ok]
  rfl

noncomputable def m_Stretches___iter (a : Ar O_Stretches Unit) : Res (Tp (Int × Int)) := (Res.ok a.x).bind fun v => Res.ok v.f_pairs
abbrev s_Stretches___iter : Stmt := (cls_Stretches).getD 2 (.Pass ⟨0, 0, 0, 0⟩)
theorem sc_Stretches___iter : FnScope ["self"] ["self"] (defScope s_Stretches___iter) := ⟨rfl, rfl, rfl, by decide +kernel, rfl, by decide +kernel, by decide +kernel⟩
theorem ok_Stretches___iter {f : Addr} {fd : FuncData} (Fu : Fun K "__iter__" "Stretches.__iter__" s_Stretches___iter f fd) (cl_Stretches : ClsAt K mg "Stretches") (na_Stretches_pairs : NoAt K mg "Stretches" "pairs") (z_iter : mg "iter" = none) : FnOk P w K mg base CX0 1 f fd ["self"] (spIt K mg m_Stretches___iter) :=
  def_It Fu sc_Stretches___iter (fun a => [vl K mg a.x]) (fun vs R a h => by
    obtain ⟨v0, w0, e0, h0, e1⟩ := h
    cases e1; cases e0
    exact ⟨rfl, .cons h0 .nil⟩) rfl z_iter (fun cdv A outer s H Av E a hr => ⟨n_attr O_Stretches.f_pairs cl_Stretches na_Stretches_pairs (n_var 0), fun h1 h2 => pe_callB h1 (by rfl) z_iter (by decide +kernel) h2⟩)

noncomputable def m_Stretches_each_place (a : Ar O_Stretches Unit) : Res (List Int) := (((Res.ok a.x).bind fun v => Res.ok v.f_pairs).bind fun x => Res.ok (Lk.its x)).bind fun as => catR (fun (p : Int × Int) => ((Res.ok p.1).bind fun lo => (Res.ok p.2).bind fun hi => need (Rg62 lo ∧ Rg62 hi) (Res.ok (irange lo hi))).bind fun bs => catR (fun (i : Int) => (Res.ok i).bind fun n => Res.ok [n]) bs) as
abbrev s_Stretches_each_place : Stmt := (cls_Stretches).getD 9 (.Pass ⟨0, 0, 0, 0⟩)
theorem sc_Stretches_each_place : GScope ["self", "start", "end", "place"] ["self"] (defScope s_Stretches_each_place) := ⟨rfl, rfl, rfl, by decide +kernel, rfl, by decide +kernel, by decide +kernel⟩
theorem ok_Stretches_each_place {f : Addr} {fd : FuncData} (Fu : Fun K "each_place" "Stretches.each_place" s_Stretches_each_place f fd) (cl_Stretches : ClsAt K mg "Stretches") (na_Stretches_pairs : NoAt K mg "Stretches" "pairs") (z_range : mg "range" = none) : NG.NFn P w K mg base 1 f fd ["self"] (spN K mg m_Stretches_each_place) := by
  refine def_N (mir := m_Stretches_each_place) Fu sc_Stretches_each_place (fun a => [vl K mg a.x, none, none, none]) (fun a => [vl K mg a.x, none, none, none]) (fun vs R a h => by
    obtain ⟨v0, w0, e0, h0, e1⟩ := h
    cases e1; cases e0
    exact ⟨rfl, .cons h0 (.cons trivial (.cons trivial (.cons trivial .nil)))⟩) (fun cdv A outer s H Av E pn a hr => ?_)
  exact NG.gss_one (gn_for owns_gcx rfl (i_lk (n_attr O_Stretches.f_pairs cl_Stretches na_Stretches_pairs (n_var 0))) (tg_pair 1 2 (by decide) rfl sc_Stretches_each_place.nd) ⟨.inr rfl, .inl rfl, .inl rfl, .inl rfl, trivial⟩
    (fun z p => NG.gss_one (gn_for owns_gcx rfl (i_range2 (b' := true) (n_var 1) (n_var 2) z_range) (tg_name 3 sc_Stretches_each_place.nd) ⟨.inr rfl, .inl rfl, .inl rfl, .inl rfl, trivial⟩
      (fun z2 i => NG.gss_one (gn_yield (n_var 3) ⟨.inr rfl, .inl rfl, .inl rfl, .inl rfl, trivial⟩)))))

/-! ### Stretches.covering -/
noncomputable def m_Stretches_covering (a : (Ar (List Int) Unit)) : Res O_Stretches :=
  (((need (List.length a.x ≤ sizeLine) (filtR (fun (a32 : Int) => Res.quiet (Res.ok true)) (fun (a32 : Int) => Res.quiet (Res.ok (a32, (a32 + (1 : Int))))) a.x)).bind fun v35 => Res.ok (Sq.l v35)).bind fun v36 => Res.ok (Ar.mk v36 ())).bind fun u37 => m_Stretches___init u37
abbrev s_Stretches_covering : Stmt := (cls_Stretches).getD 1 (.Pass ⟨0, 0, 0, 0⟩)
theorem sc_Stretches_covering : FnScope ["places", "place"] ["places"] (defScope s_Stretches_covering) := ⟨rfl, rfl, rfl, by decide +kernel, rfl, by decide +kernel, by decide +kernel⟩
theorem ok_Stretches_covering {f : Addr} {fd : FuncData} (Fu : Fun K "covering" "Stretches.covering" s_Stretches_covering f fd) (K_Stretches___init : MkAt P w K mg base 2 "Stretches" ["self", "pairs"] m_Stretches___init) : FnOk P w K mg base CX0 4 f fd ["places"] (spP K mg m_Stretches_covering) := by
  refine def_P (τ := (Ar (List Int) Unit)) (ρ := O_Stretches) Fu sc_Stretches_covering (fun a => [vl K mg a.x, none]) (fun vs R a h => by
    obtain ⟨v0, w0, e0, h0, e1⟩ := h
    cases e1; cases e0
    exact ⟨rfl, .cons h0 (.cons trivial (.nil))⟩) (fun cdv A outer s H Av E a hr => ?_)
  refine tT_cast (b_ret (fo_val (fo_make (α := O_Stretches) K_Stretches___init (hr.mono (by decide)) (a_cons (n_sql (f_val (f_lcf (own := [("place", 1)]) rfl sc_Stretches_covering.nd (i_lk (n_var 0)) (.inl rfl) (blkOk_by (N := ["places", "place"]) (sc := defScope s_Stretches_covering) (by decide +kernel)) (tgok_name 1) (fun _ _ _ _ _ => (tg_name 1 sc_Stretches_covering.nd)) (fun _ _ _ _ _ a32 D33 ds34 => ts_nil) (fun _ _ _ _ _ a32 D33 ds34 => (n_tup2 (n_var 1) (n_add (b3 := true) (n_var 1) (n_int (b := true)))))))) a_nil))) (List.nil_sublist _)) ?_
  try simp -implicitDefEqProofs only [Res.bind_ok]
  rfl

/-! ### Stretches.total -/
noncomputable def m_Stretches_total (a : (Ar O_Stretches Unit)) : Res Int :=
  (need (List.length (Lk.its a.x.f_pairs) ≤ sizeLine) (filtR (fun (a38 : (Int × Int)) => Res.quiet (Res.ok true)) (fun (a38 : (Int × Int)) => Res.quiet (Res.ok (a38.2 - a38.1))) (Lk.its a.x.f_pairs))).bind fun v41 => Res.ok (List.sum v41)
abbrev s_Stretches_total : Stmt := (cls_Stretches).getD 8 (.Pass ⟨0, 0, 0, 0⟩)
theorem sc_Stretches_total : FnScope ["self", "start", "end"] ["self"] (defScope s_Stretches_total) := ⟨rfl, rfl, rfl, by decide +kernel, rfl, by decide +kernel, by decide +kernel⟩
theorem ok_Stretches_total {f : Addr} {fd : FuncData} (Fu : Fun K "total" "Stretches.total" s_Stretches_total f fd) (cl_Stretches : ClsAt K mg "Stretches") (na_Stretches_pairs : NoAt K mg "Stretches" "pairs") (z_sum : mg "sum" = none) : FnOk P w K mg base CX0 1 f fd ["self"] (spP K mg m_Stretches_total) := by
  refine def_P (τ := (Ar O_Stretches Unit)) (ρ := Int) Fu sc_Stretches_total (fun a => [vl K mg a.x, none, none]) (fun vs R a h => by
    obtain ⟨v0, w0, e0, h0, e1⟩ := h
    cases e1; cases e0
    exact ⟨rfl, .cons h0 (.cons trivial (.cons trivial (.nil)))⟩) (fun cdv A outer s H Av E a hr => ?_)
  refine tT_cast (b_ret (n_sum (b3 := true) (pe_callB (cr_sum rfl) (by rfl) z_sum (by decide +kernel) (pa_cons (f_val (f_lcf (own := [("start", 1), ("end", 2)]) rfl sc_Stretches_total.nd (i_lk (n_attr O_Stretches.f_pairs cl_Stretches na_Stretches_pairs (n_var 0))) (.inl rfl) (blkOk_by (N := ["self", "start", "end"]) (sc := defScope s_Stretches_total) (by decide +kernel)) (tgok_pair 1 2 (by decide)) (fun _ _ _ _ _ => (tg_pair 1 2 (by decide) rfl sc_Stretches_total.nd)) (fun _ _ _ _ _ a38 D39 ds40 => ts_nil) (fun _ _ _ _ _ a38 D39 ds40 => (n_sub (b3 := true) (n_var 2) (n_var 1))))) pa_nil)) rfl) (List.nil_sublist _)) ?_
  try simp -implicitDefEqProofs only [Res.bind_ok]
  rfl

/-! ### Stretches.moved -/
noncomputable def m_Stretches_moved (a : (Ar O_Stretches (Ar (Sq (Option Int)) Unit))) : Res O_Stretches :=
  ((Res.quiet (m_Stretches_each_place (Ar.mk a.x ()))).bind fun v42 => need (List.length v42 ≤ sizeLine) (mapR (fun (n43 : Int) => Res.quiet (idx (Lk.its a.r.x) n43)) v42)).bind fun reached_44 => ((need (List.length reached_44 ≤ sizeLine) (filtR (fun (a45 : (Option Int)) => Res.quiet (Res.ok (!IsN.isN a45))) (fun (a45 : (Option Int)) => Res.quiet (unO a45)) reached_44)).bind fun v48 => Res.ok (Ar.mk v48 ())).bind fun u49 => m_Stretches_covering u49
abbrev s_Stretches_moved : Stmt := (cls_Stretches).getD 12 (.Pass ⟨0, 0, 0, 0⟩)
theorem sc_Stretches_moved : FnScope ["self", "places", "reached", "place"] ["self", "places"] (defScope s_Stretches_moved) := ⟨rfl, rfl, rfl, by decide +kernel, rfl, by decide +kernel, by decide +kernel⟩
theorem ok_Stretches_moved {f : Addr} {fd : FuncData} (Fu : Fun K "moved" "Stretches.moved" s_Stretches_moved f fd) (GN_Stretches_each_place : MethG P w K mg base 1 "Stretches" "each_place" ["self"] (spN K mg m_Stretches_each_place)) (SA_Stretches_covering : StatAt P w K mg base 4 "Stretches" "covering" ["places"] (spP K mg m_Stretches_covering)) : FnOk P w K mg base CX0 5 f fd ["self", "places"] (spP K mg m_Stretches_moved) := by
  refine def_P (τ := (Ar O_Stretches (Ar (Sq (Option Int)) Unit))) (ρ := O_Stretches) Fu sc_Stretches_moved (fun a => [vl K mg a.x, vl K mg a.r.x, none, none]) (fun vs R a h => by
    obtain ⟨v0, w0, e0, h0, v1, w1, e1, h1, e2⟩ := h
    cases e2; cases e1; cases e0
    exact ⟨rfl, .cons h0 (.cons h1 (.cons trivial (.cons trivial (.nil))))⟩) (fun cdv A outer s H Av E a hr => ?_)
  refine tT_cast (b_N (s_setLcG (α := O_Stretches) (own := [("place", 3)]) 2 GN_Stretches_each_place (hr.mono (by decide)) (List.nil_sublist _) (n_var 0) sc_Stretches_moved.nd (blkOk_by (N := ["self", "places", "reached", "place"]) (sc := defScope s_Stretches_moved) (by decide +kernel)) (NG.elti_ix 1 (by rfl) (by rfl) (by rfl) (by rfl) (fun _ _ => by rfl) (fun _ _ => by rfl)) (eln_ix (a := (a.r.x : (Sq (Option Int)))) 1 rfl)) (fun reached_44 => (b_ret (nd_stat SA_Stretches_covering (hr.mono (by decide)) (a_cons (f_val (f_lcf (own := [("place", 3)]) rfl sc_Stretches_moved.nd (i_lk (n_var 2)) (.inl rfl) (blkOk_by (N := ["self", "places", "reached", "place"]) (sc := defScope s_Stretches_moved) (by decide +kernel)) (tgok_name 3) (fun _ _ _ _ _ => (tg_name 3 sc_Stretches_moved.nd)) (fun _ _ _ _ _ a45 D46 ds47 => (ts_one (t_notN (n_var 3)))) (fun _ _ _ _ _ a45 D46 ds47 => (n_unO (b3 := true) (n_var 3))))) a_nil)) (List.nil_sublist _)))) ?_
  try simp -implicitDefEqProofs only [Res.bind_ok]
  rfl

/-! ### _law_cells -/
noncomputable def m_law_cells (a : (Ar (List Int) Unit)) : Res (List Int) :=
  (need (List.length ((0 : Int) :: ((0 : Int) :: ((3 : Int) :: []))) ≤ sizeLine) (Res.ok ((0 : Int) :: ((0 : Int) :: ((3 : Int) :: []))))).bind fun v53 => (need (List.length a.x ≤ sizeLine) (filtR (fun (a50 : Int) => Res.quiet (Res.ok true)) (fun (a50 : Int) => Res.quiet (Res.ok (if a50 < 0 then -a50 else a50))) a.x)).bind fun v54 => need (List.length v53 + List.length v54 ≤ sizeLine) (Res.ok (v53 ++ v54))
abbrev s__law_cells : Stmt := topS 8
theorem sc__law_cells : FnScope ["script", "cell"] ["script"] (defScope s__law_cells) := ⟨rfl, rfl, rfl, by decide +kernel, rfl, by decide +kernel, by decide +kernel⟩
theorem ok__law_cells {f : Addr} {fd : FuncData} (Fu : Fun K "_law_cells" "_law_cells" s__law_cells f fd) (z_abs : mg "abs" = none) (z_int : mg "int" = none) : FnOk P w K mg base CX0 1 f fd ["script"] (spF K mg m_law_cells) := by
  refine def_F (τ := (Ar (List Int) Unit)) (α := Int) Fu sc__law_cells (fun a => [vl K mg a.x, none]) (fun vs R a h => by
    obtain ⟨v0, w0, e0, h0, e1⟩ := h
    cases e1; cases e0
    exact ⟨rfl, .cons h0 (.cons trivial (.nil))⟩) (fun cdv A outer s H Av E a hr => ?_)
  refine tT_cast (b_retF (f_cat (f_val (f_lst (l_cons (n_int (b := true)) (l_cons (n_int (b := true)) (l_cons (n_int (b := true)) (l_nil (α := Int))))))) (f_val (f_lcf (own := [("cell", 1)]) rfl sc__law_cells.nd (i_lk (n_var 0)) (.inl rfl) (blkOk_by (N := ["script", "cell"]) (sc := defScope s__law_cells) (by decide +kernel)) (tgok_name 1) (fun _ _ _ _ _ => (tg_name 1 sc__law_cells.nd)) (fun _ _ _ _ _ a50 D51 ds52 => ts_nil) (fun _ _ _ _ _ a50 D51 ds52 => (n_abs (b3 := true) (pe_callB call_abs (by rfl) z_abs (by decide +kernel) (pa_cons (n_int1 (b3 := true) (pe_callTy call_int1 (by rfl) z_int (by decide +kernel) (pa_cons (n_var 1) pa_nil)) rfl) pa_nil)) rfl))))) (List.nil_sublist _)) ?_
  try simp -implicitDefEqProofs only [Res.bind_ok]
  rfl

/-! ### _law_draw -/
noncomputable def m_law_draw (xs0 : (List Int)) (a : (Ar Int Unit)) : Res (Int × (List Int)) :=
  ((((idx xs0 (0 : Int)).bind fun v55 => Res.ok (decide (v55 = (0 : Int)))).bind fun v57 => if v57 then Res.ok true else ((idx xs0 (1 : Int)).bind fun v56 => Res.ok (decide (v56 = (60 : Int))))).bind fun v113 => if v113 then ((setR xs0 (0 : Int) (0 : Int)).bind fun xs87 => (setR xs87 (1 : Int) (0 : Int)).bind fun xs89 => (((idx xs89 (2 : Int)).bind fun v90 => Res.ok (decide (v90 < (List.length xs89 : Int)))).bind fun v112 => if v112 then (((((idx xs89 (2 : Int)).bind fun v102 => idx xs89 v102).bind fun v103 => Res.ok (v103, xs89)).bind fun u105 => setR u105.2 (0 : Int) u105.1).bind fun xs106 => ((((idx xs106 (2 : Int)).bind fun v107 => Res.ok (v107 + (1 : Int))).bind fun v108 => Res.ok (v108, xs106)).bind fun u110 => setR u110.2 (2 : Int) u110.1).bind fun xs111 => Res.ok xs111) else (Res.ok xs89)).bind fun b101 => Res.ok b101) else (Res.ok xs0)).bind fun b85 => (((idx b85 (0 : Int)).bind fun v114 => Res.ok v114).bind fun v115 => need (0 < a.x) (Res.ok (v115 % a.x))).bind fun drawn_116 => (((((idx b85 (0 : Int)).bind fun v117 => Res.ok v117).bind fun v118 => need (CDivW v118 a.x) (Res.ok (v118 / a.x))).bind fun v119 => Res.ok (v119, b85)).bind fun u121 => setR u121.2 (0 : Int) u121.1).bind fun xs122 => ((((idx xs122 (1 : Int)).bind fun v123 => Res.ok (v123 + (1 : Int))).bind fun v124 => Res.ok (v124, xs122)).bind fun u126 => setR u126.2 (1 : Int) u126.1).bind fun xs127 => Res.ok (drawn_116, xs127)
abbrev s__law_draw : Stmt := topS 9
theorem sc__law_draw : FnScope ["pool", "size", "drawn"] ["pool", "size"] (defScope s__law_draw) := ⟨rfl, rfl, rfl, by decide +kernel, rfl, by decide +kernel, by decide +kernel⟩
theorem ok__law_draw {f : Addr} {fd : FuncData} (Fu : Fun K "_law_draw" "_law_draw" s__law_draw f fd) (z_int : mg "int" = none) (z_len : mg "len" = none) : FnOk P w K mg base CX0 1 f fd ["pool", "size"] (spI K mg m_law_draw) := by
  refine def_I (τ := (Ar Int Unit)) (ρ := Int) (ι := (List Int)) Fu sc__law_draw (fun p a => [rf p, vl K mg a.x, none]) (fun vs R p a h => by
    obtain ⟨v0, w0, e0, h0, e1⟩ := h
    cases e1; cases e0
    exact ⟨rfl, .cons rfl (.cons h0 (.cons trivial (.nil)))⟩) (fun cdv A outer s H Av E p0 xs0 a hr => ?_)
  refine tT_cast (b_N (s_ifS (Sp2.mk : Sp2 (fun b : ((List Int)) => [rf p0, vl K mg (a.x : Int), none]) (fun b : ((List Int)) => ([ow K mg p0 (b : (List Int))] : List Own))) (PW.pt (w_or (t_eq (n_idx (n_own 0 rfl List.mem_cons_self) (n_int (b := true))) (n_int (b := true))) (w_or1 (t_eq (n_idx (n_own 0 rfl List.mem_cons_self) (n_int (b := true))) (n_int (b := true)))))) (n_N (s_sub 0 rfl (fun _ => List.nil_sublist _) (e_p (List.nil_sublist _) (n_int (b := true))) (fun xs86 => (n_int (b := true)))) (fun xs87 => (n_N (s_sub 0 rfl (fun _ => List.nil_sublist _) (e_p (List.nil_sublist _) (n_int (b := true))) (fun xs88 => (n_int (b := true)))) (fun xs89 => (n_N (s_ifS (Sp2.mk : Sp2 (fun b : ((List Int)) => [rf p0, vl K mg (a.x : Int), none]) (fun b : ((List Int)) => ([ow K mg p0 (b : (List Int))] : List Own))) (t_lt (n_idx (n_own 0 rfl List.mem_cons_self) (n_int (b := true))) (n_len (b3 := true) (pe_callB call_len_seq (by rfl) z_len (by decide +kernel) (pa_cons (n_own 0 rfl List.mem_cons_self) pa_nil)) rfl)) (n_N (s_sub 0 rfl (fun _ => List.nil_sublist _) (e_p (List.nil_sublist _) (strong (b := false) (n_idx (n_own 0 rfl List.mem_cons_self) (n_idx (n_own 0 rfl List.mem_cons_self) (n_int (b := true)))))) (fun xs104 => (n_int (b := true)))) (fun xs106 => (n_N (s_sub 0 rfl (fun _ => List.nil_sublist _) (e_p (List.nil_sublist _) (n_add (b3 := true) (n_idx (n_own 0 rfl List.mem_cons_self) (n_int (b := true))) (n_int (b := true)))) (fun xs109 => (n_int (b := true)))) (fun xs111 => (n_end xs111 ⟨.inr rfl, .inr rfl, .inl rfl, trivial⟩ (List.Sublist.cons₂ _ (List.nil_sublist _))))))) (n_end xs89 ⟨.inr rfl, .inr rfl, .inl rfl, trivial⟩ (List.Sublist.cons₂ _ (List.nil_sublist _))) (List.nil_sublist _)) (fun b101 => (n_end b101 ⟨.inr rfl, .inr rfl, .inl rfl, trivial⟩ (List.Sublist.cons₂ _ (List.nil_sublist _))))))))) (n_end xs0 ⟨.inr rfl, .inr rfl, .inl rfl, trivial⟩ (List.Sublist.cons₂ _ (List.nil_sublist _))) (List.nil_sublist _)) (fun b85 => (b_N (s_set 2 sc__law_draw.nd (List.nil_sublist _) (n_mod (b3 := true) (n_int1 (b3 := true) (pe_callTy call_int1 (by rfl) z_int (by decide +kernel) (pa_cons (n_idx (n_own 0 rfl List.mem_cons_self) (n_int (b := true))) pa_nil)) rfl) (n_var 1))) (fun drawn_116 => (b_N (s_sub 0 rfl (fun _ => List.nil_sublist _) (e_p (List.nil_sublist _) (n_fdivW (b3 := true) (n_int1 (b3 := true) (pe_callTy call_int1 (by rfl) z_int (by decide +kernel) (pa_cons (n_idx (n_own 0 rfl List.mem_cons_self) (n_int (b := true))) pa_nil)) rfl) (n_var 1))) (fun xs120 => (n_int (b := true)))) (fun xs122 => (b_N (s_sub 0 rfl (fun _ => List.nil_sublist _) (e_p (List.nil_sublist _) (n_add (b3 := true) (n_idx (n_own 0 rfl List.mem_cons_self) (n_int (b := true))) (n_int (b := true)))) (fun xs125 => (n_int (b := true)))) (fun xs127 => (b_retI (n_var 2) (List.Sublist.cons₂ _ (List.nil_sublist _)) (List.nil_sublist _)))))))))) ?_
  try simp -implicitDefEqProofs only [Res.bind_ok]
  rfl

/-! ### _law_pairs -/
noncomputable def m_law_pairs (a : (Ar (List Int) Unit)) : Res (Tp (Int × Int)) :=
  (need (List.length ([] : List (Int × Int)) ≤ sizeLine) (Res.ok ([] : List (Int × Int)))).bind fun pairs_128 => (((need (List.length a.x + 1 < 4096) (Res.ok (sset a.x))).bind fun v130 => Res.ok v130).bind fun v155 => foldR (fun (a131 : Int) (b132 : ((List (Int × Int)))) => ((((need (List.length ([] : List Int) ≤ sizeLine) (Res.ok ([] : List Int))).bind fun v135 => need (shp b132 = true ∧ shp v135 = true) (Res.ok (!eqD b132 v135))).bind fun v138 => if v138 then (((idx b132 (-(1 : Int))).bind fun v136 => Res.ok v136.2).bind fun v137 => Res.ok (decide (v137 = a131))) else Res.ok false).bind fun v154 => if v154 then ((((((idx b132 (-(1 : Int))).bind fun v147 => Res.ok v147.1).bind fun v148 => Res.ok (v148, (a131 + (1 : Int)))).bind fun v149 => Res.ok (v149, b132)).bind fun u151 => setR u151.2 (-(1 : Int)) u151.1).bind fun xs152 => Res.ok xs152) else ((need (List.length b132 < sizeLine) (Res.ok (b132 ++ [(a131, (a131 + (1 : Int)))]))).bind fun pairs_153 => Res.ok pairs_153)).bind fun b146 => Res.ok b146) v155 pairs_128).bind fun b134 => Res.ok (Tp.mk b134)
abbrev s__law_pairs : Stmt := topS 10
theorem sc__law_pairs : FnScope ["places", "pairs", "place"] ["places"] (defScope s__law_pairs) := ⟨rfl, rfl, rfl, by decide +kernel, rfl, by decide +kernel, by decide +kernel⟩
theorem ok__law_pairs {f : Addr} {fd : FuncData} (Fu : Fun K "_law_pairs" "_law_pairs" s__law_pairs f fd) (z_set : mg "set" = none) (z_sorted : mg "sorted" = none) (z_tuple : mg "tuple" = none) : FnOk P w K mg base CX0 1 f fd ["places"] (spP K mg m_law_pairs) := by
  refine def_P (τ := (Ar (List Int) Unit)) (ρ := (Tp (Int × Int))) Fu sc__law_pairs (fun a => [vl K mg a.x, none, none]) (fun vs R a h => by
    obtain ⟨v0, w0, e0, h0, e1⟩ := h
    cases e1; cases e0
    exact ⟨rfl, .cons h0 (.cons trivial (.cons trivial (.nil)))⟩) (fun cdv A outer s H Av E a hr => ?_)
  refine tT_cast (b_Np (s_own 1 sc__law_pairs.nd (List.nil_sublist _) (f_lst (l_nil (α := (Int × Int))))) (fun pairs_128 p129 => (b_N (s_for (Sp3.mk : Sp3 (fun b : ((List (Int × Int))) => [vl K mg (a.x : (List Int)), rf p129, none]) (fun b : ((List (Int × Int))) => ([ow K mg p129 (b : (List (Int × Int)))] : List Own)) pairs_128) PassesOwn.never rfl (i_lk (f_val (f_sortedSet (b := true) (pe_callB (cr_sortedS rfl) (by rfl) z_sorted (by decide +kernel) (pa_cons (pe_callTy (cr_setL rfl) (by rfl) z_set (by decide +kernel) (pa_cons (n_var 0) pa_nil)) pa_nil)) rfl rfl))) (tg_name 2 sc__law_pairs.nd) (List.nil_sublist _) ⟨.inr rfl, .inr rfl, .inl rfl, trivial⟩ (List.Sublist.refl _) (fun z133 a131 b132 => (n_N (s_ifS (Sp2.mk : Sp2 (fun b : ((List (Int × Int))) => [vl K mg (a.x : (List Int)), rf p129, vl K mg (a131 : Int)]) (fun b : ((List (Int × Int))) => ([ow K mg p129 (b : (List (Int × Int)))] : List Own))) (PW.pt (w_and (t_neD (b1 := false) (b2 := true) (n_own 1 rfl List.mem_cons_self) (f_val (f_lst (l_nil (α := Int)))) hr.units) (w_and1 (t_eq (n_snd (n_idx (n_own 1 rfl List.mem_cons_self) (n_neg (b3 := true) (n_int (b := true))))) (n_var 2))))) (n_N (s_sub 1 rfl (fun _ => List.nil_sublist _) (e_p (List.nil_sublist _) (n_tup2 (strong (b := false) (n_fst (n_idx (n_own 1 rfl List.mem_cons_self) (n_neg (b3 := true) (n_int (b := true)))))) (n_add (b3 := true) (n_var 2) (n_int (b := true))))) (fun xs150 => (n_neg (b3 := true) (n_int (b := true))))) (fun xs152 => (n_end xs152 ⟨.inr rfl, .inr rfl, .inr rfl, trivial⟩ (List.Sublist.cons₂ _ (List.nil_sublist _))))) (n_N (s_app 1 rfl (fun _ => List.nil_sublist _) (n_tup2 (n_var 2) (n_add (b3 := true) (n_var 2) (n_int (b := true)))) (fun h1 h2 => pe_bm PySem.F.plainAttrs_list PySem.F.slot_list_append PySem.F.type_list_append mt_append h1 h2)) (fun pairs_153 => (n_end pairs_153 ⟨.inr rfl, .inr rfl, .inr rfl, trivial⟩ (List.Sublist.cons₂ _ (List.nil_sublist _))))) (List.nil_sublist _)) (fun b146 => (n_end b146 ⟨.inr rfl, .inr rfl, .inl rfl, trivial⟩ (List.Sublist.cons₂ _ (List.nil_sublist _))))))) (fun b134 => (b_ret (n_tupleOv (pe_callTy call_tuple_of (by rfl) z_tuple (by decide +kernel) (pa_cons (n_ownV 1 rfl List.mem_cons_self) pa_nil)) rfl) (List.nil_sublist _)))))) ?_
  try simp -implicitDefEqProofs only [Res.bind_ok]
  rfl

/-! ### _law_is -/
noncomputable def m_law_is (a : (Ar O_Stretches (Ar (List Int) Unit))) : Res Bool :=
  (if (!true) then Res.ok true else ((isT "tuple" (Ty.tyN a.x.f_pairs)).bind fun v156 => Res.ok (!v156))).bind fun v183 => if v183 then (Res.ok false) else (goOn (foldM (fun (a157 : (Int × Int)) (b158 : Unit) => (((isT "tuple" (Ty.tyN a157)).bind fun v161 => Res.ok (!v161)).bind fun v166 => if v166 then Res.ok true else ((need (List.length (Lk.its a157) ≤ sizeLine) (filtR (fun (a162 : Int) => Res.quiet (Res.ok true)) (fun (a162 : Int) => Res.quiet (isT "bool" (Ty.tyN a162))) (Lk.its a157))).bind fun v165 => Res.ok (decide (true ∈ (Lk.its v165 : List Bool))))).bind fun v167 => if v167 then ((Res.ok false).bind fun d => Res.ok (Sum.inr d)) else (Res.ok (Sum.inl ()))) (Lk.its a.x.f_pairs) ()) (fun b160 => (((m_law_pairs (Ar.mk a.r.x ())).bind fun v168 => need (shp a.x.f_pairs = true ∧ shp v168 = true) (Res.ok (!eqD a.x.f_pairs v168))).bind fun v173 => if v173 then Res.ok true else (((Res.quiet (m_Stretches___iter (Ar.mk a.x ()))).bind fun v169 => Res.ok (Tp.xs v169)).bind fun v171 => ((m_law_pairs (Ar.mk a.r.x ())).bind fun v170 => Res.ok (Lk.its v170)).bind fun v172 => need (shp v171 = true ∧ shp v172 = true) (Res.ok (!eqD v171 v172)))).bind fun v182 => if v182 then (Res.ok false) else ((((Res.quiet (m_Stretches_each_place (Ar.mk a.x ()))).bind fun v174 => need (List.length v174 ≤ sizeLine) (Res.ok v174)).bind fun v176 => (need (List.length a.r.x + 1 < 4096) (Res.ok (sset a.r.x))).bind fun v177 => need (shp v176 = true ∧ shp v177 = true) (Res.ok (!eqD v176 v177))).bind fun v181 => if v181 then (Res.ok false) else ((m_Stretches_total (Ar.mk a.x ())).bind fun v179 => (need (List.length a.r.x + 1 < 4096) (Res.ok (List.length (sset a.r.x) : Int))).bind fun v180 => Res.ok (decide (v179 = v180))))))
abbrev s__law_is : Stmt := topS 11
theorem sc__law_is : FnScope ["told", "places", "one", "x", "place"] ["told", "places"] (defScope s__law_is) := ⟨rfl, rfl, rfl, by decide +kernel, rfl, by decide +kernel, by decide +kernel⟩
theorem ok__law_is {f : Addr} {fd : FuncData} (Fu : Fun K "_law_is" "_law_is" s__law_is f fd) (ia_Stretches : InsAt K mg "Stretches") (cl_Stretches : ClsAt K mg "Stretches") (na_Stretches_pairs : NoAt K mg "Stretches" "pairs") (D__law_pairs : DefAt P w K mg base CX0 1 "_law_pairs" ["places"] (spP K mg m_law_pairs)) (IT_Stretches___iter : ItAt P w K mg base 1 "Stretches" ["self"] (spIt K mg m_Stretches___iter)) (GN_Stretches_each_place : MethG P w K mg base 1 "Stretches" "each_place" ["self"] (spN K mg m_Stretches_each_place)) (z_set : mg "set" = none) (M_Stretches_total : MethAt P w K mg base 1 "Stretches" "total" ["self"] (spP K mg m_Stretches_total)) (z_bool : mg "bool" = none) (z_isinstance : mg "isinstance" = none) (z_len : mg "len" = none) (z_list : mg "list" = none) (z_sorted : mg "sorted" = none) (z_tuple : mg "tuple" = none) : FnOk P w K mg base CX0 5 f fd ["told", "places"] (spP K mg m_law_is) := by
  refine def_P (τ := (Ar O_Stretches (Ar (List Int) Unit))) (ρ := Bool) Fu sc__law_is (fun a => [vl K mg a.x, vl K mg a.r.x, none, none, none]) (fun vs R a h => by
    obtain ⟨v0, w0, e0, h0, v1, w1, e1, h1, e2⟩ := h
    cases e2; cases e1; cases e0
    exact ⟨rfl, .cons h0 (.cons h1 (.cons trivial (.cons trivial (.cons trivial (.nil)))))⟩) (fun cdv A outer s H Av E a hr => ?_)
  refine tT_cast (b_if (PW.pt (w_or (t_not (t_val (n_isO (α := O_Stretches) (b1 := true) (b3 := true) (n_var 0) ia_Stretches rfl rfl rfl (by decide) rfl rfl (fun h1 h2 => pe_callB h1 (by rfl) z_isinstance (by decide +kernel) h2)))) (w_or1 (t_not (t_val (n_isi (b3 := true) (n := "tuple") (n_attr O_Stretches.f_pairs cl_Stretches na_Stretches_pairs (n_var 0)) (by decide +kernel) z_tuple z_isinstance rfl rfl rfl rfl (by decide) (by decide) rfl rfl (fun h1 h2 => pe_callB h1 (by rfl) z_isinstance (by decide +kernel) h2))))))) (b_ret (n_bl (b := true)) (List.nil_sublist _)) (b_M (s_forM (Sp3.mk : Sp3 (fun b : Unit => [vl K mg (a.x : O_Stretches), vl K mg (a.r.x : (List Int)), none, none, none]) (fun b : Unit => ([] : List Own)) ()) PassesOwn.never rfl (i_lk (n_attr O_Stretches.f_pairs cl_Stretches na_Stretches_pairs (n_var 0))) (tg_name 2 sc__law_is.nd) (List.nil_sublist _) ⟨.inr rfl, .inr rfl, .inl rfl, .inl rfl, .inl rfl, trivial⟩ (List.Sublist.refl _) (fun z159 a157 b158 => (m_if (PW.pt (w_or (t_not (t_val (n_isi (b3 := true) (n := "tuple") (n_var 2) (by decide +kernel) z_tuple z_isinstance rfl rfl rfl rfl (by decide) (by decide) rfl rfl (fun h1 h2 => pe_callB h1 (by rfl) z_isinstance (by decide +kernel) h2)))) (w_or1 (t_inQ (n_bl (b := true)) (f_val (f_lcf (own := [("x", 3)]) rfl sc__law_is.nd (i_lk (n_var 2)) (.inl rfl) (blkOk_by (N := ["told", "places", "one", "x", "place"]) (sc := defScope s__law_is) (by decide +kernel)) (tgok_name 3) (fun _ _ _ _ _ => (tg_name 3 sc__law_is.nd)) (fun _ _ _ _ _ a162 D163 ds164 => ts_nil) (fun _ _ _ _ _ a162 D163 ds164 => (n_isi (b3 := true) (n := "bool") (n_var 3) (by decide +kernel) z_bool z_isinstance rfl rfl rfl rfl (by decide) (by decide) rfl rfl (fun h1 h2 => pe_callB h1 (by rfl) z_isinstance (by decide +kernel) h2))))))))) (b_le (rV_le (.add (.refl _))) (b_ret (n_bl (b := true)) (List.nil_sublist _))) (m_end () ⟨.inr rfl, .inr rfl, .inl rfl, .inl rfl, .inl rfl, trivial⟩ (List.nil_sublist _)) (List.nil_sublist _)))) (fun b160 => (b_if (PW.pt (w_or (t_neD (b1 := true) (b2 := true) (n_attr O_Stretches.f_pairs cl_Stretches na_Stretches_pairs (n_var 0)) (nd_call D__law_pairs (hr.mono (by decide)) (a_cons (n_var 1) a_nil)) hr.units) (w_or1 (t_neD (b1 := true) (b2 := true) (f_val (f_listIt (α := O_Stretches) IT_Stretches___iter (hr.mono (by decide)) (n_var 0) rfl rfl (fun h1 h2 => pe_callTy h1 (by rfl) z_list (by decide +kernel) h2))) (f_val (f_list (pe_callTy call_list_of (by rfl) z_list (by decide +kernel) (pa_cons (nd_call D__law_pairs (hr.mono (by decide)) (a_cons (n_var 1) a_nil)) pa_nil)) rfl)) hr.units)))) (b_ret (n_bl (b := true)) (List.nil_sublist _)) (b_if (t_neD (b1 := true) (b2 := true) (f_val (f_lcG (α := O_Stretches) (own := [("place", 4)]) GN_Stretches_each_place (hr.mono (by decide)) (n_var 0) sc__law_is.nd (blkOk_by (N := ["told", "places", "one", "x", "place"]) (sc := defScope s__law_is) (by decide +kernel)))) (f_val (f_sortedSet (b := true) (pe_callB (cr_sortedS rfl) (by rfl) z_sorted (by decide +kernel) (pa_cons (pe_callTy (cr_setL rfl) (by rfl) z_set (by decide +kernel) (pa_cons (n_var 1) pa_nil)) pa_nil)) rfl rfl)) hr.units) (b_ret (n_bl (b := true)) (List.nil_sublist _)) (b_ret (n_eq (b3 := true) (n_meth0 (α := O_Stretches) M_Stretches_total (hr.mono (by decide)) (n_var 0)) (n_lenSet (b3 := true) (pe_callB cr_lenS (by rfl) z_len (by decide +kernel) (pa_cons (pe_callTy (cr_setL rfl) (by rfl) z_set (by decide +kernel) (pa_cons (n_var 1) pa_nil)) pa_nil)) rfl rfl)) (List.nil_sublist _)) (List.nil_sublist _)) (List.nil_sublist _)))) (List.nil_sublist _)) ?_
  try simp -implicitDefEqProofs only [Res.bind_ok]
  rfl

/-! ### _law_ordered -/
noncomputable def m_law_ordered (xs0 : (List Int)) (a : (Ar Int Unit)) : Res ((List (Option Int)) × (List Int)) :=
  (need (Rg62 0 ∧ Rg62 a.x ∧ (a.x - 0).toNat ≤ 16777216) (Res.ok (irange 0 a.x))).bind fun free_184 => (need (List.length ([] : List (Option Int)) ≤ sizeLine) (Res.ok ([] : List (Option Int)))).bind fun order_186 => ((need (Rg62 a.x) (Res.ok (irange 0 a.x))).bind fun v195 => foldR (fun (a188 : Int) (b189 : ((List (Option Int)) × (List Int) × (List Int))) => ((m_law_draw b189.2.2 (Ar.mk (List.length b189.2.1 : Int) ())).bind fun u194 => (popAtR b189.2.1 u194.1).bind fun w192 => need (List.length b189.1 < sizeLine) (Res.ok (u194.2, b189.1 ++ [some w192.1], w192.2))).bind fun z193 => Res.ok (z193.2.1, z193.2.2, z193.1)) v195 (order_186, free_184, xs0)).bind fun b191 => Res.ok (b191.1, b191.2.2)
abbrev s__law_ordered : Stmt := topS 12
theorem sc__law_ordered : FnScope ["pool", "many", "free", "order", "k"] ["pool", "many"] (defScope s__law_ordered) := ⟨rfl, rfl, rfl, by decide +kernel, rfl, by decide +kernel, by decide +kernel⟩
theorem ok__law_ordered {f : Addr} {fd : FuncData} (Fu : Fun K "_law_ordered" "_law_ordered" s__law_ordered f fd) (D__law_draw : DefAt P w K mg base CX0 1 "_law_draw" ["pool", "size"] (spI K mg m_law_draw)) (z_len : mg "len" = none) (z_list : mg "list" = none) (z_range : mg "range" = none) : FnOk P w K mg base CX0 2 f fd ["pool", "many"] (spI K mg m_law_ordered) := by
  refine def_I (τ := (Ar Int Unit)) (ρ := (List (Option Int))) (ι := (List Int)) Fu sc__law_ordered (fun p a => [rf p, vl K mg a.x, none, none, none]) (fun vs R p a h => by
    obtain ⟨v0, w0, e0, h0, e1⟩ := h
    cases e1; cases e0
    exact ⟨rfl, .cons rfl (.cons h0 (.cons trivial (.cons trivial (.cons trivial (.nil)))))⟩) (fun cdv A outer s H Av E p0 xs0 a hr => ?_)
  refine tT_cast (b_Np (s_own 2 sc__law_ordered.nd (List.nil_sublist _) (f_listRg1 (b' := true) (n_var 1) z_range z_list rfl)) (fun free_184 p185 => (b_Np (s_own 3 sc__law_ordered.nd (List.nil_sublist _) (f_lst (l_nil (α := (Option Int))))) (fun order_186 p187 => (b_N (s_for (Sp3.mk : Sp3 (fun b : ((List (Option Int)) × (List Int) × (List Int)) => [rf p0, vl K mg (a.x : Int), rf p185, rf p187, none]) (fun b : ((List (Option Int)) × (List Int) × (List Int)) => ([ow K mg p187 (b.1 : (List (Option Int))), ow K mg p185 (b.2.1 : (List Int)), ow K mg p0 (b.2.2 : (List Int))] : List Own)) (order_186, free_184, xs0)) PassesOwn.never rfl (i_range1 (b' := true) (n_var 1) z_range) (tg_name 4 sc__law_ordered.nd) (List.nil_sublist _) ⟨.inr rfl, .inr rfl, .inr rfl, .inr rfl, .inl rfl, trivial⟩ (List.Sublist.refl _) (fun z190 a188 b189 => (n_perm (((List.Perm.swap _ _ _).trans (List.Perm.swap _ _ _)).trans ((List.Perm.cons _ (List.Perm.swap _ _ _)).trans (List.Perm.swap _ _ _))) (n_N (s_appPop (ε := Int) (ζ := (Option Int)) some (fun h => h) 3 2 rfl rfl (e_call 0 D__law_draw (hr.mono (by decide)) rfl (ea_p (List.nil_sublist _) (a_cons (n_len (b3 := true) (pe_callB call_len_seq (by rfl) z_len (by decide +kernel) (pa_cons (n_own 2 rfl (List.mem_cons_of_mem _ (List.mem_cons_of_mem _ List.mem_cons_self))) pa_nil)) rfl) a_nil))) (fun h1 h2 => pe_bm PySem.F.plainAttrs_list PySem.F.slot_list_append PySem.F.type_list_append mt_append h1 h2) (fun h1 h2 => pe_bm PySem.F.plainAttrs_list PySem.F.slot_list_pop PySem.F.type_list_pop mt_popAt h1 h2)) (fun z193 => (n_perm (((List.Perm.cons _ (List.Perm.swap _ _ _)).trans (List.Perm.swap _ _ _)).trans ((List.Perm.cons _ (List.Perm.swap _ _ _)).trans (List.Perm.swap _ _ _))) (n_end (z193.2.1, z193.2.2, z193.1) ⟨.inr rfl, .inr rfl, .inr rfl, .inr rfl, .inl rfl, trivial⟩ (List.Sublist.cons₂ _ (List.Sublist.cons₂ _ (List.Sublist.cons₂ _ (List.nil_sublist _))))))))))) (fun b191 => (b_retOI 3 rfl List.mem_cons_self (List.Sublist.cons _ (List.Sublist.cons _ (List.Sublist.cons₂ _ (List.nil_sublist _)))) (.inr (List.Sublist.cons₂ _ (List.Sublist.cons _ (List.Sublist.cons₂ _ (List.nil_sublist _))))) (List.nil_sublist _)))))))) ?_
  try simp -implicitDefEqProofs only [Res.bind_ok]
  rfl

/-! ### _law_map -/
noncomputable def m_law_map (xs0 : (List Int)) (a : (Ar Int Unit)) : Res ((List (Option Int)) × (List Int)) :=
  (m_law_draw xs0 (Ar.mk (4 : Int) ())).bind fun kind_196 => if (decide (kind_196.1 = (0 : Int))) then (m_law_ordered kind_196.2 (Ar.mk a.x ())) else (if (decide (kind_196.1 = (1 : Int))) then ((m_law_ordered kind_196.2 (Ar.mk a.x ())).bind fun order_197 => (Res.ok (order_197.1, order_197.2)).bind fun u215 => need (List.length u215.1 ≤ sizeLine) (filtE (fun (a198 : (Option Int)) (xs201 : (List Int)) => Res.quiet (Res.ok (true, xs201))) (fun (a198 : (Option Int)) (xs201 : (List Int)) => Res.quiet (((need (List.length (a198 :: ((none : Option Int) :: [])) ≤ sizeLine) (Res.ok (a198 :: ((none : Option Int) :: [])))).bind fun v206 => Res.ok (v206, xs201)).bind fun u212 => (((m_law_draw u212.2 (Ar.mk (4 : Int) ())).bind fun u210 => Res.ok ((decide (u210.1 = (1 : Int))), u210.2)).bind fun u211 => Res.ok ((if u211.1 then (1 : Int) else 0), u211.2)).bind fun u213 => (idx u212.1 u213.1).bind fun v214 => Res.ok (v214, u213.2))) u215.1 u215.2)) else ((need (List.length ([] : List (Option Int)) ≤ sizeLine) (Res.ok ([] : List (Option Int)))).bind fun places_216 => (let kept_218 := (0 : Int)
  ((need (Rg62 a.x) (Res.ok (irange 0 a.x))).bind fun v337 => foldR (fun (a219 : Int) (b220 : (Int × (List Int) × (List (Option Int)))) => (m_law_draw b220.2.1 (Ar.mk (4 : Int) ())).bind fun pick_223 => (if (decide (pick_223.1 = (1 : Int))) then ((need (List.length b220.2.2 < sizeLine) (Res.ok (b220.2.2 ++ [(none : Option Int)]))).bind fun places_281 => Res.ok (b220.1, places_281, pick_223.2)) else ((if (decide (kind_196.1 = (2 : Int))) then ((need (List.length b220.2.2 < sizeLine) (Res.ok (b220.2.2 ++ [(some b220.1)]))).bind fun places_310 => (let kept_311 := (b220.1 + (1 : Int))
  Res.ok (kept_311, places_310, pick_223.2))) else ((if (decide (pick_223.1 = (2 : Int))) then (((((((need (CPow (10 : Int) (9 : Int)) (Res.ok ((10 : Int) ^ ((9 : Int)).toNat))).bind fun v326 => Res.ok (v326 - (1 : Int))).bind fun v327 => Res.ok (v327, pick_223.2)).bind fun u329 => (m_law_draw u329.2 (Ar.mk (5 : Int) ())).bind fun u330 => Res.ok ((u329.1 - u330.1), u330.2)).bind fun u331 => Res.ok ((some u331.1), u331.2)).bind fun u332 => need (List.length b220.2.2 < sizeLine) (Res.ok (b220.2.2 ++ [u332.1], u332.2))).bind fun w333 => Res.ok (w333.1, w333.2)) else ((((m_law_draw pick_223.2 (Ar.mk (a.x + (5 : Int)) ())).bind fun u334 => Res.ok ((some u334.1), u334.2)).bind fun u335 => need (List.length b220.2.2 < sizeLine) (Res.ok (b220.2.2 ++ [u335.1], u335.2))).bind fun w336 => Res.ok (w336.1, w336.2))).bind fun b324 => Res.ok (b220.1, b324.1, b324.2))).bind fun b309 => Res.ok (b309.1, b309.2.1, b309.2.2))).bind fun b280 => Res.ok (b280.1, b280.2.2, b280.2.1)) v337 (kept_218, kind_196.2, places_216)).bind fun b222 => Res.ok (b222.2.2, b222.2.1))))
abbrev s__law_map : Stmt := topS 13
theorem sc__law_map : FnScope ["pool", "many", "kind", "order", "places", "kept", "k", "pick", "one"] ["pool", "many"] (defScope s__law_map) := ⟨rfl, rfl, rfl, by decide +kernel, rfl, by decide +kernel, by decide +kernel⟩
theorem ok__law_map {f : Addr} {fd : FuncData} (Fu : Fun K "_law_map" "_law_map" s__law_map f fd) (D__law_draw : DefAt P w K mg base CX0 1 "_law_draw" ["pool", "size"] (spI K mg m_law_draw)) (D__law_ordered : DefAt P w K mg base CX0 2 "_law_ordered" ["pool", "many"] (spI K mg m_law_ordered)) (z_int : mg "int" = none) (z_range : mg "range" = none) : FnOk P w K mg base CX0 3 f fd ["pool", "many"] (spI K mg m_law_map) := by
  refine def_I (τ := (Ar Int Unit)) (ρ := (List (Option Int))) (ι := (List Int)) Fu sc__law_map (fun p a => [rf p, vl K mg a.x, none, none, none, none, none, none, none]) (fun vs R p a h => by
    obtain ⟨v0, w0, e0, h0, e1⟩ := h
    cases e1; cases e0
    exact ⟨rfl, .cons rfl (.cons h0 (.cons trivial (.cons trivial (.cons trivial (.cons trivial (.cons trivial (.cons trivial (.cons trivial (.nil)))))))))⟩) (fun cdv A outer s H Av E p0 xs0 a hr => ?_)
  refine tT_cast (b_N (s_setE 2 sc__law_map.nd (e_call 0 D__law_draw (hr.mono (by decide)) rfl (ea_p (List.nil_sublist _) (a_cons (n_int (b := true)) a_nil)))) (fun kind_196 => (b_if (t_eq (n_var 2) (n_int (b := true))) (b_retE (e_call 0 D__law_ordered (hr.mono (by decide)) rfl (ea_p (List.nil_sublist _) (a_cons (n_var 1) a_nil)))) (b_if (t_eq (n_var 2) (n_int (b := true))) (b_N (s_setE 3 sc__law_map.nd (e_call 0 D__law_ordered (hr.mono (by decide)) rfl (ea_p (List.nil_sublist _) (a_cons (n_var 1) a_nil)))) (fun order_197 => (b_retE (e_lc (own := [("one", 8)]) rfl sc__law_map.nd (i_pE (List.nil_sublist _) (i_lk (n_var 3))) (blkOk_by (N := ["pool", "many", "kind", "order", "places", "kept", "k", "pick", "one"]) (sc := defScope s__law_map) (by decide +kernel)) (tgok_name 8) (fun _ _ _ _ _ => (tg_name 8 sc__law_map.nd)) (fun _ _ _ _ _ a198 D199 ds200 xs201 => ts_nilE) (fun _ _ _ _ _ a198 D199 ds200 xs201 => (e_idx (e_p (List.nil_sublist _) (f_val (f_lst (l_cons (n_var 8) (l_cons (n_noneO (b3 := true) (n_non (b := true))) (l_nil (α := (Option Int)))))))) (fun xs207 => (e_intB (b3 := true) (pe_callTy call_int1 (by rfl) z_int (by decide +kernel) (pa_cons (en_eq (b3 := true) (e_call 0 D__law_draw (hr.mono (by decide)) rfl (ea_p (List.nil_sublist _) (a_cons (n_int (b := true)) a_nil))) (fun xs209 => (e_p (List.nil_sublist _) (n_int (b := true)))) (fun _ => List.nil_sublist _)) pa_nil)) rfl (fun _ => List.nil_sublist _))) (fun _ => List.nil_sublist _))))))) (b_Np (s_own 4 sc__law_map.nd (List.nil_sublist _) (f_lst (l_nil (α := (Option Int))))) (fun places_216 p217 => (b_N (s_set 5 sc__law_map.nd (List.nil_sublist _) (n_int (b := true))) (fun kept_218 => (b_N (s_for (Sp3.mk : Sp3 (fun b : (Int × (List Int) × (List (Option Int))) => [rf p0, vl K mg (a.x : Int), vl K mg (kind_196.1 : Int), none, rf p217, vl K mg (b.1 : Int), none, none, none]) (fun b : (Int × (List Int) × (List (Option Int))) => ([ow K mg p217 (b.2.2 : (List (Option Int))), ow K mg p0 (b.2.1 : (List Int))] : List Own)) (kept_218, kind_196.2, places_216)) PassesOwn.never rfl (i_range1 (b' := true) (n_var 1) z_range) (tg_name 6 sc__law_map.nd) (List.nil_sublist _) ⟨.inr rfl, .inr rfl, .inr rfl, .inl rfl, .inr rfl, .inr rfl, .inl rfl, .inl rfl, .inl rfl, trivial⟩ (List.Sublist.refl _) (fun z221 a219 b220 => (n_perm (List.Perm.swap _ _ _) (n_N (s_setE 7 sc__law_map.nd (e_call 0 D__law_draw (hr.mono (by decide)) rfl (ea_p (List.nil_sublist _) (a_cons (n_int (b := true)) a_nil)))) (fun pick_223 => (n_N (s_ifS (Sp2.mk : Sp2 (fun b : (Int × (List (Option Int)) × (List Int)) => [rf p0, vl K mg (a.x : Int), vl K mg (kind_196.1 : Int), none, rf p217, vl K mg (b.1 : Int), vl K mg (a219 : Int), vl K mg (pick_223.1 : Int), none]) (fun b : (Int × (List (Option Int)) × (List Int)) => ([ow K mg p0 (b.2.2 : (List Int)), ow K mg p217 (b.2.1 : (List (Option Int)))] : List Own))) (t_eq (n_var 7) (n_int (b := true))) (n_perm (List.Perm.swap _ _ _) (n_N (s_app 4 rfl (fun _ => List.nil_sublist _) (n_noneO (b3 := true) (n_non (b := true))) (fun h1 h2 => pe_bm PySem.F.plainAttrs_list PySem.F.slot_list_append PySem.F.type_list_append mt_append h1 h2)) (fun places_281 => (n_perm (List.Perm.swap _ _ _) (n_end (b220.1, places_281, pick_223.2) ⟨.inr rfl, .inr rfl, .inr rfl, .inl rfl, .inr rfl, .inr rfl, .inr rfl, .inr rfl, .inl rfl, trivial⟩ (List.Sublist.cons₂ _ (List.Sublist.cons₂ _ (List.nil_sublist _)))))))) (n_N (s_ifS (Sp2.mk : Sp2 (fun b : (Int × (List (Option Int)) × (List Int)) => [rf p0, vl K mg (a.x : Int), vl K mg (kind_196.1 : Int), none, rf p217, vl K mg (b.1 : Int), vl K mg (a219 : Int), vl K mg (pick_223.1 : Int), none]) (fun b : (Int × (List (Option Int)) × (List Int)) => ([ow K mg p0 (b.2.2 : (List Int)), ow K mg p217 (b.2.1 : (List (Option Int)))] : List Own))) (t_eq (n_var 2) (n_int (b := true))) (n_perm (List.Perm.swap _ _ _) (n_N (s_app 4 rfl (fun _ => List.nil_sublist _) (n_some (b3 := true) (n_var 5)) (fun h1 h2 => pe_bm PySem.F.plainAttrs_list PySem.F.slot_list_append PySem.F.type_list_append mt_append h1 h2)) (fun places_310 => (n_N (s_set 5 sc__law_map.nd (List.nil_sublist _) (n_add (b3 := true) (n_var 5) (n_int (b := true)))) (fun kept_311 => (n_perm (List.Perm.swap _ _ _) (n_end (kept_311, places_310, pick_223.2) ⟨.inr rfl, .inr rfl, .inr rfl, .inl rfl, .inr rfl, .inr rfl, .inr rfl, .inr rfl, .inl rfl, trivial⟩ (List.Sublist.cons₂ _ (List.Sublist.cons₂ _ (List.nil_sublist _)))))))))) (n_N (s_ifS (Sp2.mk : Sp2 (fun b : ((List (Option Int)) × (List Int)) => [rf p0, vl K mg (a.x : Int), vl K mg (kind_196.1 : Int), none, rf p217, vl K mg (b220.1 : Int), vl K mg (a219 : Int), vl K mg (pick_223.1 : Int), none]) (fun b : ((List (Option Int)) × (List Int)) => ([ow K mg p0 (b.2 : (List Int)), ow K mg p217 (b.1 : (List (Option Int)))] : List Own))) (t_eq (n_var 7) (n_int (b := true))) (n_N (s_appE 4 rfl (fun _ => List.nil_sublist _) (e_some (b3 := true) (e_sub (b3 := true) (e_p (List.nil_sublist _) (n_sub (b3 := true) (n_pow (b3 := true) (n_int (b := true)) (n_int (b := true))) (n_int (b := true)))) (fun xs328 => (e_call 0 D__law_draw (hr.mono (by decide)) rfl (ea_p (List.nil_sublist _) (a_cons (n_int (b := true)) a_nil)))) (fun _ => List.nil_sublist _))) (fun h1 h2 => pe_bm PySem.F.plainAttrs_list PySem.F.slot_list_append PySem.F.type_list_append mt_append h1 h2)) (fun w333 => (n_end (w333.1, w333.2) ⟨.inr rfl, .inr rfl, .inr rfl, .inl rfl, .inr rfl, .inr rfl, .inr rfl, .inr rfl, .inl rfl, trivial⟩ (List.Sublist.cons₂ _ (List.Sublist.cons₂ _ (List.nil_sublist _)))))) (n_N (s_appE 4 rfl (fun _ => List.nil_sublist _) (e_some (b3 := true) (e_call 0 D__law_draw (hr.mono (by decide)) rfl (ea_p (List.nil_sublist _) (a_cons (n_add (b3 := true) (n_var 1) (n_int (b := true))) a_nil)))) (fun h1 h2 => pe_bm PySem.F.plainAttrs_list PySem.F.slot_list_append PySem.F.type_list_append mt_append h1 h2)) (fun w336 => (n_end (w336.1, w336.2) ⟨.inr rfl, .inr rfl, .inr rfl, .inl rfl, .inr rfl, .inr rfl, .inr rfl, .inr rfl, .inl rfl, trivial⟩ (List.Sublist.cons₂ _ (List.Sublist.cons₂ _ (List.nil_sublist _)))))) (List.nil_sublist _)) (fun b324 => (n_end (b220.1, b324.1, b324.2) ⟨.inr rfl, .inr rfl, .inr rfl, .inl rfl, .inr rfl, .inr rfl, .inr rfl, .inr rfl, .inl rfl, trivial⟩ (List.Sublist.cons₂ _ (List.Sublist.cons₂ _ (List.nil_sublist _)))))) (List.nil_sublist _)) (fun b309 => (n_end (b309.1, b309.2.1, b309.2.2) ⟨.inr rfl, .inr rfl, .inr rfl, .inl rfl, .inr rfl, .inr rfl, .inr rfl, .inr rfl, .inl rfl, trivial⟩ (List.Sublist.cons₂ _ (List.Sublist.cons₂ _ (List.nil_sublist _)))))) (List.nil_sublist _)) (fun b280 => (n_perm (List.Perm.swap _ _ _) (n_end (b280.1, b280.2.2, b280.2.1) ⟨.inr rfl, .inr rfl, .inr rfl, .inl rfl, .inr rfl, .inr rfl, .inl rfl, .inl rfl, .inl rfl, trivial⟩ (List.Sublist.cons₂ _ (List.Sublist.cons₂ _ (List.nil_sublist _)))))))))))) (fun b222 => (b_retOI 4 rfl List.mem_cons_self (List.Sublist.cons _ (List.Sublist.cons₂ _ (List.nil_sublist _))) (.inr (List.Sublist.cons₂ _ (List.Sublist.cons₂ _ (List.nil_sublist _)))) (List.nil_sublist _)))))))) (List.nil_sublist _)) (List.nil_sublist _)))) ?_
  try simp -implicitDefEqProofs only [Res.bind_ok]
  rfl

/-! ### _law_led -/
noncomputable def m_law_led (a : (Ar (List (Option Int)) (Ar (List Int) Unit))) : Res (List Int) :=
  (need (List.length ([] : List Int) ≤ sizeLine) (Res.ok ([] : List Int))).bind fun found_338 => (foldR (fun (a340 : Int) (b341 : ((List Int))) => (((idx a.x a340).bind fun v344 => Res.ok (!IsN.isN v344)).bind fun v352 => if v352 then ((((idx a.x a340).bind fun v349 => unO v349).bind fun v350 => need (List.length b341 < sizeLine) (Res.ok (b341 ++ [v350]))).bind fun found_351 => Res.ok found_351) else (Res.ok b341)).bind fun b348 => Res.ok b348) a.r.x found_338).bind fun b343 => Res.ok b343
abbrev s__law_led : Stmt := topS 14
theorem sc__law_led : FnScope ["places", "old", "found", "place"] ["places", "old"] (defScope s__law_led) := ⟨rfl, rfl, rfl, by decide +kernel, rfl, by decide +kernel, by decide +kernel⟩
theorem ok__law_led {f : Addr} {fd : FuncData} (Fu : Fun K "_law_led" "_law_led" s__law_led f fd) : FnOk P w K mg base CX0 1 f fd ["places", "old"] (spF K mg m_law_led) := by
  refine def_F (τ := (Ar (List (Option Int)) (Ar (List Int) Unit))) (α := Int) Fu sc__law_led (fun a => [vl K mg a.x, vl K mg a.r.x, none, none]) (fun vs R a h => by
    obtain ⟨v0, w0, e0, h0, v1, w1, e1, h1, e2⟩ := h
    cases e2; cases e1; cases e0
    exact ⟨rfl, .cons h0 (.cons h1 (.cons trivial (.cons trivial (.nil))))⟩) (fun cdv A outer s H Av E a hr => ?_)
  refine tT_cast (b_Np (s_own 2 sc__law_led.nd (List.nil_sublist _) (f_lst (l_nil (α := Int)))) (fun found_338 p339 => (b_N (s_for (Sp3.mk : Sp3 (fun b : ((List Int)) => [vl K mg (a.x : (List (Option Int))), vl K mg (a.r.x : (List Int)), rf p339, none]) (fun b : ((List Int)) => ([ow K mg p339 (b : (List Int))] : List Own)) found_338) PassesOwn.never rfl (i_lk (n_var 1)) (tg_name 3 sc__law_led.nd) (List.nil_sublist _) ⟨.inr rfl, .inr rfl, .inr rfl, .inl rfl, trivial⟩ (List.Sublist.refl _) (fun z342 a340 b341 => (n_N (s_ifS (Sp2.mk : Sp2 (fun b : ((List Int)) => [vl K mg (a.x : (List (Option Int))), vl K mg (a.r.x : (List Int)), rf p339, vl K mg (a340 : Int)]) (fun b : ((List Int)) => ([ow K mg p339 (b : (List Int))] : List Own))) (t_notN (n_idx (n_var 0) (n_var 3))) (n_N (s_app 2 rfl (fun _ => List.nil_sublist _) (n_unO (b3 := true) (n_idx (n_var 0) (n_var 3))) (fun h1 h2 => pe_bm PySem.F.plainAttrs_list PySem.F.slot_list_append PySem.F.type_list_append mt_append h1 h2)) (fun found_351 => (n_end found_351 ⟨.inr rfl, .inr rfl, .inr rfl, .inr rfl, trivial⟩ (List.Sublist.cons₂ _ (List.nil_sublist _))))) (n_end b341 ⟨.inr rfl, .inr rfl, .inr rfl, .inr rfl, trivial⟩ (List.Sublist.cons₂ _ (List.nil_sublist _))) (List.nil_sublist _)) (fun b348 => (n_end b348 ⟨.inr rfl, .inr rfl, .inr rfl, .inl rfl, trivial⟩ (List.Sublist.cons₂ _ (List.nil_sublist _))))))) (fun b343 => (b_retO 2 rfl (List.Perm.refl _) rfl (List.nil_sublist _)))))) ?_
  try simp -implicitDefEqProofs only [Res.bind_ok]
  rfl

/-! ### _law_moved -/
noncomputable def m_law_moved (a : (Ar O_Stretches (Ar (List (Option Int)) (Ar (List Int) Unit)))) : Res Bool :=
  (let given_353 := a.r.x
  (m_Stretches_moved (Ar.mk a.x (Ar.mk (Sq.l given_353) ()))).bind fun moved_355 => ((need (shp given_353 = true ∧ shp a.r.x = true) (Res.ok (!eqD given_353 a.r.x))).bind fun v360 => if v360 then Res.ok true else (((((m_law_led (Ar.mk a.r.x (Ar.mk a.r.r.x ()))).bind fun v356 => Res.ok (Ar.mk v356 ())).bind fun r357 => Res.ok (Ar.mk moved_355 r357)).bind fun u358 => m_law_is u358).bind fun v359 => Res.ok (!v359))).bind fun v372 => if v372 then (Res.ok false) else ((Res.ok ()).bind fun given_361 => ((((m_Stretches_moved (Ar.mk a.x (Ar.mk (Sq.t (Tp.mk a.r.x).xs) ()))).bind fun v363 => ((m_law_led (Ar.mk a.r.x (Ar.mk a.r.r.x ()))).bind fun v362 => Res.ok (Ar.mk v362 ())).bind fun r364 => Res.ok (Ar.mk v363 r364)).bind fun u365 => m_law_is u365).bind fun v366 => Res.ok (!v366)).bind fun v371 => if v371 then (Res.ok false) else (((((m_law_led (Ar.mk a.r.x (Ar.mk a.r.r.x ()))).bind fun v367 => Res.ok (Ar.mk v367 ())).bind fun r368 => Res.ok (Ar.mk moved_355 r368)).bind fun u369 => m_law_is u369).bind fun v370 => if v370 then (m_law_is (Ar.mk a.x (Ar.mk a.r.r.x ()))) else Res.ok false)))
abbrev s__law_moved : Stmt := topS 15
theorem sc__law_moved : FnScope ["told", "places", "old", "given", "moved"] ["told", "places", "old"] (defScope s__law_moved) := ⟨rfl, rfl, rfl, by decide +kernel, rfl, by decide +kernel, by decide +kernel⟩
theorem ok__law_moved {f : Addr} {fd : FuncData} (Fu : Fun K "_law_moved" "_law_moved" s__law_moved f fd) (M_Stretches_moved : MethAt P w K mg base 5 "Stretches" "moved" ["self", "places"] (spP K mg m_Stretches_moved)) (D__law_led : DefAt P w K mg base CX0 1 "_law_led" ["places", "old"] (spF K mg m_law_led)) (D__law_is : DefAt P w K mg base CX0 5 "_law_is" ["told", "places"] (spP K mg m_law_is)) (z_list : mg "list" = none) (z_tuple : mg "tuple" = none) : FnOk P w K mg base CX0 6 f fd ["told", "places", "old"] (spP K mg m_law_moved) := by
  refine def_P (τ := (Ar O_Stretches (Ar (List (Option Int)) (Ar (List Int) Unit)))) (ρ := Bool) Fu sc__law_moved (fun a => [vl K mg a.x, vl K mg a.r.x, vl K mg a.r.r.x, none, none]) (fun vs R a h => by
    obtain ⟨v0, w0, e0, h0, v1, w1, e1, h1, v2, w2, e2, h2, e3⟩ := h
    cases e3; cases e2; cases e1; cases e0
    exact ⟨rfl, .cons h0 (.cons h1 (.cons h2 (.cons trivial (.cons trivial (.nil)))))⟩) (fun cdv A outer s H Av E a hr => ?_)
  refine tT_cast (b_Np (s_own 3 sc__law_moved.nd (List.nil_sublist _) (f_list (pe_callTy call_list_of (by rfl) z_list (by decide +kernel) (pa_cons (n_var 1) pa_nil)) rfl)) (fun given_353 p354 => (b_N (s_set 4 sc__law_moved.nd (List.nil_sublist _) (n_methOv (α := O_Stretches) (β := (Option Int)) (nol_obj (α := O_Stretches) (fun _ _ _ => ⟨fun h hp => NoL.no h hp, trivial⟩)) 3 M_Stretches_moved (hr.mono (by decide)) (n_var 0) rfl List.mem_cons_self)) (fun moved_355 => (b_if (PW.pt (w_or (t_neD (b1 := false) (b2 := true) (n_own 3 rfl List.mem_cons_self) (n_var 1) hr.units) (w_or1 (t_not (t_val (b1 := true) (nd_call D__law_is (hr.mono (by decide)) (a_cons (n_var 4) (a_cons (f_val (fd_call D__law_led (hr.mono (by decide)) (a_cons (n_var 1) (a_cons (n_var 2) a_nil)))) a_nil)))))))) (b_ret (n_bl (b := true)) (List.nil_sublist _)) (b_N (s_clear 3 rfl (List.nil_sublist _) (fun h1 => pe_bm0 PySem.F.plainAttrs_list PySem.F.slot_list_clear PySem.F.type_list_clear mt_clear h1)) (fun given_361 => (b_if (t_not (t_val (b1 := true) (nd_call D__law_is (hr.mono (by decide)) (a_cons (n_meth (α := O_Stretches) M_Stretches_moved (hr.mono (by decide)) (n_var 0) (a_cons (n_sqt (n_tupleOf (pe_callTy call_tuple_of (by rfl) z_tuple (by decide +kernel) (pa_cons (n_var 1) pa_nil)) rfl)) a_nil)) (a_cons (f_val (fd_call D__law_led (hr.mono (by decide)) (a_cons (n_var 1) (a_cons (n_var 2) a_nil)))) a_nil))))) (b_ret (n_bl (b := true)) (List.nil_sublist _)) (b_ret (n_and (b3 := true) (nd_call D__law_is (hr.mono (by decide)) (a_cons (n_var 4) (a_cons (f_val (fd_call D__law_led (hr.mono (by decide)) (a_cons (n_var 1) (a_cons (n_var 2) a_nil)))) a_nil))) (n_one (nd_call D__law_is (hr.mono (by decide)) (a_cons (n_var 0) (a_cons (n_var 2) a_nil))))) (List.nil_sublist _)) (List.nil_sublist _)))) (List.nil_sublist _)))))) ?_
  try simp -implicitDefEqProofs only [Res.bind_ok]
  rfl

/-! ### _law_back -/
noncomputable def m_law_back (a : (Ar O_Stretches (Ar (List (Option Int)) (Ar (List Int) Unit)))) : Res Bool :=
  ((need (List.length a.r.x ≤ sizeLine) (filtR (fun (a373 : (Option Int)) => Res.quiet (Res.ok (!IsN.isN a373))) (fun (a373 : (Option Int)) => Res.quiet (unO a373)) a.r.x)).bind fun v376 => Res.ok (srtI v376)).bind fun order_377 => ((need (Rg62 0 ∧ Rg62 (List.length a.r.x : Int) ∧ ((List.length a.r.x : Int) - 0).toNat ≤ 16777216) (Res.ok (irange 0 (List.length a.r.x : Int)))).bind fun v378 => need (shp order_377 = true ∧ shp v378 = true) (Res.ok (!eqD order_377 v378))).bind fun v388 => if v388 then (Res.ok true) else ((need (List.length order_377 ≤ sizeLine) (filtR (fun (a379 : Int) => Res.quiet (Res.ok true)) (fun (a379 : Int) => Res.quiet ((need (List.all a.r.x Option.isSome = true) (Res.ok (List.filterMap id a.r.x))).bind fun v382 => indexR v382 a379)) order_377)).bind fun inverse_383 => ((((m_Stretches_moved (Ar.mk a.x (Ar.mk (Sq.l a.r.x) ()))).bind fun v384 => Res.ok (Ar.mk v384 (Ar.mk (Sq.l (List.map some inverse_383)) ()))).bind fun u385 => m_Stretches_moved u385).bind fun v386 => Res.ok (Ar.mk v386 (Ar.mk a.r.r.x ()))).bind fun u387 => m_law_is u387)
abbrev s__law_back : Stmt := topS 16
theorem sc__law_back : FnScope ["told", "places", "old", "order", "inverse", "place", "k"] ["told", "places", "old"] (defScope s__law_back) := ⟨rfl, rfl, rfl, by decide +kernel, rfl, by decide +kernel, by decide +kernel⟩
theorem ok__law_back {f : Addr} {fd : FuncData} (Fu : Fun K "_law_back" "_law_back" s__law_back f fd) (M_Stretches_moved : MethAt P w K mg base 5 "Stretches" "moved" ["self", "places"] (spP K mg m_Stretches_moved)) (D__law_is : DefAt P w K mg base CX0 5 "_law_is" ["told", "places"] (spP K mg m_law_is)) (z_len : mg "len" = none) (z_list : mg "list" = none) (z_range : mg "range" = none) (z_sorted : mg "sorted" = none) : FnOk P w K mg base CX0 6 f fd ["told", "places", "old"] (spP K mg m_law_back) := by
  refine def_P (τ := (Ar O_Stretches (Ar (List (Option Int)) (Ar (List Int) Unit)))) (ρ := Bool) Fu sc__law_back (fun a => [vl K mg a.x, vl K mg a.r.x, vl K mg a.r.r.x, none, none, none, none]) (fun vs R a h => by
    obtain ⟨v0, w0, e0, h0, v1, w1, e1, h1, v2, w2, e2, h2, e3⟩ := h
    cases e3; cases e2; cases e1; cases e0
    exact ⟨rfl, .cons h0 (.cons h1 (.cons h2 (.cons trivial (.cons trivial (.cons trivial (.cons trivial (.nil)))))))⟩) (fun cdv A outer s H Av E a hr => ?_)
  refine tT_cast (b_N (s_set 3 sc__law_back.nd (List.nil_sublist _) (f_val (f_sortedI (b := true) (pe_callB cr_sortedI (by rfl) z_sorted (by decide +kernel) (pa_cons (f_val (f_lcf (own := [("place", 5)]) rfl sc__law_back.nd (i_lk (n_var 1)) (.inl rfl) (blkOk_by (N := ["told", "places", "old", "order", "inverse", "place", "k"]) (sc := defScope s__law_back) (by decide +kernel)) (tgok_name 5) (fun _ _ _ _ _ => (tg_name 5 sc__law_back.nd)) (fun _ _ _ _ _ a373 D374 ds375 => (ts_one (t_notN (n_var 5)))) (fun _ _ _ _ _ a373 D374 ds375 => (n_unO (b3 := true) (n_var 5))))) pa_nil)) rfl))) (fun order_377 => (b_if (t_neD (b1 := true) (b2 := true) (n_var 3) (f_val (f_listRg1 (b' := true) (n_len (b3 := true) (pe_callB call_len_seq (by rfl) z_len (by decide +kernel) (pa_cons (n_var 1) pa_nil)) rfl) z_range z_list rfl)) hr.units) (b_ret (n_bl (b := true)) (List.nil_sublist _)) (b_N (s_setLc 4 (own := [("k", 6)]) rfl sc__law_back.nd (List.nil_sublist _) (i_lk (n_var 3)) (.inl rfl) (blkOk_by (N := ["told", "places", "old", "order", "inverse", "place", "k"]) (sc := defScope s__law_back) (by decide +kernel)) (tgok_name 6) (fun _ _ _ _ _ => (tg_name 6 sc__law_back.nd)) (fun _ _ _ _ _ a379 D380 ds381 => ts_nil) (fun _ _ _ _ _ a379 D380 ds381 => (n_index (b3 := true) (n_unOL (n_var 1)) (n_var 6) (fun h1 h2 => pe_bm PySem.F.plainAttrs_list PySem.F.slot_list_index PySem.F.type_list_index mt_index h1 h2)))) (fun inverse_383 => (b_ret (nd_call D__law_is (hr.mono (by decide)) (a_cons (n_meth (α := O_Stretches) M_Stretches_moved (hr.mono (by decide)) (n_meth (α := O_Stretches) M_Stretches_moved (hr.mono (by decide)) (n_var 0) (a_cons (n_sql (f_val (f_list (pe_callTy call_list_of (by rfl) z_list (by decide +kernel) (pa_cons (n_var 1) pa_nil)) rfl))) a_nil)) (a_cons (n_sql (n_upOL (n_var 4))) a_nil)) (a_cons (n_var 2) a_nil))) (List.nil_sublist _)))) (List.nil_sublist _)))) ?_
  try simp -implicitDefEqProofs only [Res.bind_ok]
  rfl

/-! ### law -/
noncomputable def m_law (a : (Ar Scr Unit)) : Res Bool :=
  (m_law_cells (Ar.mk (cut a.x.ns none (some (63 : Int))) ())).bind fun pool_389 => ((((m_law_draw pool_389 (Ar.mk (31 : Int) ())).bind fun u396 => Res.ok (((12 : Int) + u396.1), u396.2)).bind fun u397 => Res.ok (u397.1, u397.2)).bind fun u399 => (need (0 < (31 : Int)) (Res.ok (u399.1 % (31 : Int)))).bind fun v400 => Res.ok (v400, u399.2)).bind fun many_401 => (need (List.length ([] : List (Int × Int)) ≤ sizeLine) (Res.ok ([] : List (Int × Int)))).bind fun pairs_402 => (((((need (List.length ((2 : Int) :: ((1 : Int) :: ((3 : Int) :: ((4 : Int) :: ((5 : Int) :: ((0 : Int) :: [])))))) ≤ sizeLine) (Res.ok ((2 : Int) :: ((1 : Int) :: ((3 : Int) :: ((4 : Int) :: ((5 : Int) :: ((0 : Int) :: [])))))))).bind fun v404 => Res.ok (v404, many_401.2)).bind fun u406 => (m_law_draw u406.2 (Ar.mk (6 : Int) ())).bind fun u407 => (idx u406.1 u407.1).bind fun v408 => Res.ok (v408, u407.2)).bind fun u409 => need (Rg62 u409.1) (Res.ok (irange 0 u409.1, u409.2))).bind fun u457 => foldR (fun (a410 : Int) (b411 : ((List Int) × (List (Int × Int)))) => (if (decide ((0 : Int) < many_401.1)) then ((((((need (CMul (5 : Int) a410) (Res.ok ((5 : Int) * a410))).bind fun v442 => Res.ok (v442, b411.1)).bind fun u444 => (m_law_draw u444.2 (Ar.mk many_401.1 ())).bind fun u445 => Res.ok ((u444.1 + u445.1), u445.2)).bind fun u446 => Res.ok (u446.1, u446.2)).bind fun u448 => (need (0 < many_401.1) (Res.ok (u448.1 % many_401.1))).bind fun v449 => Res.ok (v449, u448.2)).bind fun start_450 => ((((m_law_draw start_450.2 (Ar.mk (many_401.1 - start_450.1) ())).bind fun u453 => Res.ok (((start_450.1 + (1 : Int)) + u453.1), u453.2)).bind fun u454 => Res.ok ((start_450.1, u454.1), u454.2)).bind fun u455 => need (List.length b411.2 < sizeLine) (Res.ok (b411.2 ++ [u455.1], u455.2))).bind fun w456 => Res.ok (w456.2, w456.1)) else (Res.ok (b411.1, b411.2))).bind fun b435 => Res.ok (b435.1, b435.2)) u457.1 (u457.2, pairs_402)).bind fun b413 => (need (List.length ([] : List Int) ≤ sizeLine) (Res.ok ([] : List Int))).bind fun old_459 => ((need (Rg62 many_401.1) (Res.ok (irange 0 many_401.1))).bind fun v474 => foldR (fun (a461 : Int) (b462 : ((List Int))) => (((need (List.length b413.2 ≤ sizeLine) (filtR (fun (a465 : (Int × Int)) => Res.quiet (if (decide (a465.1 ≤ a461)) then (Res.ok (decide (a461 < a465.2))) else Res.ok false)) (fun (a465 : (Int × Int)) => Res.quiet (Res.ok a465)) b413.2)).bind fun v468 => (need (List.length ([] : List Int) ≤ sizeLine) (Res.ok ([] : List Int))).bind fun v469 => need (shp v468 = true ∧ shp v469 = true) (Res.ok (!eqD v468 v469))).bind fun v473 => if v473 then ((need (List.length b462 < sizeLine) (Res.ok (b462 ++ [a461]))).bind fun old_472 => Res.ok old_472) else (Res.ok b462)).bind fun b471 => Res.ok b471) v474 old_459).bind fun b464 => (m_law_map b413.1 (Ar.mk many_401.1 ())).bind fun first_475 => (m_law_map first_475.2 (Ar.mk many_401.1 ())).bind fun second_476 => (m_Stretches___init (Ar.mk (Sq.l b413.2) ())).bind fun told_477 => ((m_law_is (Ar.mk told_477 (Ar.mk b464 ()))).bind fun v478 => Res.ok (!v478)).bind fun v533 => if v533 then (Res.ok false) else (goOn (((need (List.length (first_475.1 :: (second_476.1 :: (first_475.1 :: []))) ≤ sizeLine) (Res.ok (first_475.1 :: (second_476.1 :: (first_475.1 :: []))))).bind fun v479 => Res.ok v479).bind fun v488 => foldM (fun (a480 : (List (Option Int))) (b481 : Unit) => (((m_law_moved (Ar.mk told_477 (Ar.mk a480 (Ar.mk b464 ())))).bind fun v484 => Res.ok (!v484)).bind fun v486 => if v486 then Res.ok true else ((m_law_back (Ar.mk told_477 (Ar.mk a480 (Ar.mk b464 ())))).bind fun v485 => Res.ok (!v485))).bind fun v487 => if v487 then ((Res.ok false).bind fun d => Res.ok (Sum.inr d)) else (Res.ok (Sum.inl ()))) v488 ()) (fun b483 => (m_law_led (Ar.mk first_475.1 (Ar.mk b464 ()))).bind fun between_489 => goOn (((need (List.length between_489 ≤ sizeLine) (filtR (fun (a490 : Int) => Res.quiet (Res.ok (decide (many_401.1 ≤ a490)))) (fun (a490 : Int) => Res.quiet (Res.ok a490)) between_489)).bind fun v493 => (need (List.length ([] : List Int) ≤ sizeLine) (Res.ok ([] : List Int))).bind fun v494 => need (shp v493 = true ∧ shp v494 = true) (Res.ok (eqD v493 v494))).bind fun v532 => if v532 then (((((m_Stretches_moved (Ar.mk told_477 (Ar.mk (Sq.t (Tp.mk first_475.1).xs) ()))).bind fun v497 => (((need (List.length between_489 + 1 < 4096) (Res.ok (sset between_489))).bind fun v495 => Res.ok (Ar.mk v495 ())).bind fun r496 => Res.ok (Ar.mk second_476.1 r496)).bind fun r498 => Res.ok (Ar.mk v497 r498)).bind fun u499 => m_law_moved u499).bind fun v500 => Res.ok (!v500)).bind fun v501 => if v501 then ((Res.ok false).bind fun d => Res.ok (Sum.inr d)) else (Res.ok (Sum.inl ()))) else Res.ok (Sum.inl ())) (fun _ => (m_law_draw second_476.2 (Ar.mk ((List.length b464 : Int) + (1 : Int)) ())).bind fun at_502 => (need (List.length (cut b464 (some at_502.1) none) + List.length (cut b464 none (some at_502.1)) ≤ sizeLine) (Res.ok ((cut b464 (some at_502.1) none) ++ (cut b464 none (some at_502.1))))).bind fun mixed_503 => (((m_law_draw at_502.2 (Ar.mk ((List.length b464 : Int) + (1 : Int)) ())).bind fun u506 => Res.ok ((cut mixed_503 none (some u506.1)), u506.2)).bind fun u507 => need (List.length mixed_503 + List.length u507.1 ≤ sizeLine) (Res.ok (mixed_503 ++ u507.1, u507.2))).bind fun mixed_508 => (Res.ok ()).bind fun mixed_510 => (let given_511 := (List.reverse mixed_508.1)
  (((((m_Stretches_covering (Ar.mk given_511 ())).bind fun v512 => Res.ok (Ar.mk v512 (Ar.mk b464 ()))).bind fun u513 => m_law_is u513).bind fun v514 => Res.ok (!v514)).bind fun v515 => if v515 then Res.ok true else (need (shp given_511 = true ∧ shp (List.reverse mixed_508.1) = true) (Res.ok (!eqD given_511 (List.reverse mixed_508.1))))).bind fun v531 => if v531 then (Res.ok false) else (((Res.quiet (m_Stretches_each_place (Ar.mk told_477 ()))).bind fun v516 => need (List.length v516 ≤ sizeLine) (mapR (fun (n517 : Int) => Res.quiet (Res.ok n517)) v516)).bind fun places_518 => (((((m_Stretches_covering (Ar.mk places_518 ())).bind fun v519 => Res.ok (Ar.mk v519 (Ar.mk b464 ()))).bind fun u520 => m_law_is u520).bind fun v521 => Res.ok (!v521)).bind fun v529 => if v529 then Res.ok true else ((((((need (List.length ([] : List Int) ≤ sizeLine) (Res.ok ([] : List Int))).bind fun v522 => Res.ok (Ar.mk v522 ())).bind fun u523 => m_Stretches_covering u523).bind fun v525 => ((need (List.length ([] : List Int) ≤ sizeLine) (Res.ok ([] : List Int))).bind fun v524 => Res.ok (Ar.mk v524 ())).bind fun r526 => Res.ok (Ar.mk v525 r526)).bind fun u527 => m_law_is u527).bind fun v528 => Res.ok (!v528))).bind fun v530 => if v530 then (Res.ok false) else (m_law_is (Ar.mk told_477 (Ar.mk b464 ()))))))))
abbrev s_law : Stmt := topS 17
theorem sc_law : FnScope ["script", "pool", "many", "pairs", "k", "start", "old", "place", "first", "second", "told", "places", "between", "at", "mixed", "given", "one"] ["script"] (defScope s_law) := ⟨rfl, rfl, rfl, by decide +kernel, rfl, by decide +kernel, by decide +kernel⟩
theorem ok_law {f : Addr} {fd : FuncData} (Fu : Fun K "law" "law" s_law f fd) (D__law_cells : DefAt P w K mg base CX0 1 "_law_cells" ["script"] (spF K mg m_law_cells)) (D__law_draw : DefAt P w K mg base CX0 1 "_law_draw" ["pool", "size"] (spI K mg m_law_draw)) (D__law_map : DefAt P w K mg base CX0 3 "_law_map" ["pool", "many"] (spI K mg m_law_map)) (K_Stretches___init : MkAt P w K mg base 2 "Stretches" ["self", "pairs"] m_Stretches___init) (D__law_is : DefAt P w K mg base CX0 5 "_law_is" ["told", "places"] (spP K mg m_law_is)) (D__law_moved : DefAt P w K mg base CX0 6 "_law_moved" ["told", "places", "old"] (spP K mg m_law_moved)) (D__law_back : DefAt P w K mg base CX0 6 "_law_back" ["told", "places", "old"] (spP K mg m_law_back)) (D__law_led : DefAt P w K mg base CX0 1 "_law_led" ["places", "old"] (spF K mg m_law_led)) (M_Stretches_moved : MethAt P w K mg base 5 "Stretches" "moved" ["self", "places"] (spP K mg m_Stretches_moved)) (z_set : mg "set" = none) (SA_Stretches_covering : StatAt P w K mg base 4 "Stretches" "covering" ["places"] (spP K mg m_Stretches_covering)) (GN_Stretches_each_place : MethG P w K mg base 1 "Stretches" "each_place" ["self"] (spN K mg m_Stretches_each_place)) (z_int : mg "int" = none) (z_len : mg "len" = none) (z_list : mg "list" = none) (z_range : mg "range" = none) (z_sorted : mg "sorted" = none) (z_tuple : mg "tuple" = none) : FnOk P w K mg base CX0 7 f fd ["script"] (spP K mg m_law) := by
  refine def_P (τ := (Ar Scr Unit)) (ρ := Bool) Fu sc_law (fun a => [vl K mg a.x, none, none, none, none, none, none, none, none, none, none, none, none, none, none, none, none]) (fun vs R a h => by
    obtain ⟨v0, w0, e0, h0, e1⟩ := h
    cases e1; cases e0
    exact ⟨rfl, .cons h0 (.cons trivial (.cons trivial (.cons trivial (.cons trivial (.cons trivial (.cons trivial (.cons trivial (.cons trivial (.cons trivial (.cons trivial (.cons trivial (.cons trivial (.cons trivial (.cons trivial (.cons trivial (.cons trivial (.nil)))))))))))))))))⟩) (fun cdv A outer s H Av E a hr => ?_)
  refine tT_cast (b_Np (s_own 1 sc_law.nd (List.nil_sublist _) (fd_call D__law_cells (hr.mono (by decide)) (a_cons (f_val (f_sliceS (n_var 0) o_none (o_some (n_int (b := true))))) a_nil))) (fun pool_389 p390 => (b_N (s_setE 2 sc_law.nd (e_mod (b3 := true) (e_int1 (b3 := true) (pe_callTy call_int1 (by rfl) z_int (by decide +kernel) (pa_cons (e_add (b3 := true) (e_p (List.nil_sublist _) (n_int (b := true))) (fun xs395 => (e_call 1 D__law_draw (hr.mono (by decide)) rfl (ea_p (List.nil_sublist _) (a_cons (n_int (b := true)) a_nil)))) (fun _ => List.nil_sublist _)) pa_nil)) rfl (fun _ => List.nil_sublist _)) (fun xs398 => (e_p (List.nil_sublist _) (n_int (b := true)))) (fun _ => List.nil_sublist _))) (fun many_401 => (b_Np (s_own 3 sc_law.nd (List.nil_sublist _) (f_lst (l_nil (α := (Int × Int))))) (fun pairs_402 p403 => (b_perm (List.Perm.swap _ _ _) (b_N (s_forE (b0 := fun xs458 => (xs458, pairs_402)) (fun _ => (Sp3.mk : Sp3 (fun b : ((List Int) × (List (Int × Int))) => [vl K mg (a.x : Scr), rf p390, vl K mg (many_401.1 : Int), rf p403, none, none, none, none, none, none, none, none, none, none, none, none, none]) (fun b : ((List Int) × (List (Int × Int))) => ([ow K mg p390 (b.1 : (List Int)), ow K mg p403 (b.2 : (List (Int × Int)))] : List Own)) _)) PassesOwn.never rfl (i_range1E (e_idx (e_p (List.nil_sublist _) (f_val (f_lst (l_cons (n_int (b := true)) (l_cons (n_int (b := true)) (l_cons (n_int (b := true)) (l_cons (n_int (b := true)) (l_cons (n_int (b := true)) (l_cons (n_int (b := true)) (l_nil (α := Int))))))))))) (fun xs405 => (e_call 1 D__law_draw (hr.mono (by decide)) rfl (ea_p (List.nil_sublist _) (a_cons (n_int (b := true)) a_nil)))) (fun _ => List.nil_sublist _)) z_range) (tg_name 4 sc_law.nd) (fun _ => (List.nil_sublist _)) (fun _ => ⟨.inr rfl, .inr rfl, .inr rfl, .inr rfl, .inl rfl, .inl rfl, .inl rfl, .inl rfl, .inl rfl, .inl rfl, .inl rfl, .inl rfl, .inl rfl, .inl rfl, .inl rfl, .inl rfl, .inl rfl, trivial⟩) (fun _ => List.Sublist.refl _) (fun z412 a410 b411 => (n_N (s_ifS (Sp2.mk : Sp2 (fun b : ((List Int) × (List (Int × Int))) => [vl K mg (a.x : Scr), rf p390, vl K mg (many_401.1 : Int), rf p403, vl K mg (a410 : Int), none, none, none, none, none, none, none, none, none, none, none, none]) (fun b : ((List Int) × (List (Int × Int))) => ([ow K mg p390 (b.1 : (List Int)), ow K mg p403 (b.2 : (List (Int × Int)))] : List Own))) (t_gt (n_var 2) (n_int (b := true))) (n_N (s_setE 5 sc_law.nd (e_mod (b3 := true) (e_int1 (b3 := true) (pe_callTy call_int1 (by rfl) z_int (by decide +kernel) (pa_cons (e_add (b3 := true) (e_p (List.nil_sublist _) (n_mul (b3 := true) (n_int (b := true)) (n_var 4))) (fun xs443 => (e_call 1 D__law_draw (hr.mono (by decide)) rfl (ea_p (List.nil_sublist _) (a_cons (n_var 2) a_nil)))) (fun _ => List.nil_sublist _)) pa_nil)) rfl (fun _ => List.nil_sublist _)) (fun xs447 => (e_p (List.nil_sublist _) (n_var 2))) (fun _ => List.nil_sublist _))) (fun start_450 => (n_N (s_appE 3 rfl (fun _ => List.nil_sublist _) (e_tup2 (e_p (List.nil_sublist _) (n_var 5)) (fun xs451 => (e_add (b3 := true) (e_p (List.nil_sublist _) (n_add (b3 := true) (n_var 5) (n_int (b := true)))) (fun xs452 => (e_call 1 D__law_draw (hr.mono (by decide)) rfl (ea_p (List.nil_sublist _) (a_cons (n_sub (b3 := true) (n_var 2) (n_var 5)) a_nil)))) (fun _ => List.nil_sublist _)))) (fun h1 h2 => pe_bm PySem.F.plainAttrs_list PySem.F.slot_list_append PySem.F.type_list_append mt_append h1 h2)) (fun w456 => (n_end (w456.2, w456.1) ⟨.inr rfl, .inr rfl, .inr rfl, .inr rfl, .inr rfl, .inl rfl, .inl rfl, .inl rfl, .inl rfl, .inl rfl, .inl rfl, .inl rfl, .inl rfl, .inl rfl, .inl rfl, .inl rfl, .inl rfl, trivial⟩ (List.Sublist.cons₂ _ (List.Sublist.cons₂ _ (List.nil_sublist _)))))))) (n_end (b411.1, b411.2) ⟨.inr rfl, .inr rfl, .inr rfl, .inr rfl, .inr rfl, .inl rfl, .inl rfl, .inl rfl, .inl rfl, .inl rfl, .inl rfl, .inl rfl, .inl rfl, .inl rfl, .inl rfl, .inl rfl, .inl rfl, trivial⟩ (List.Sublist.cons₂ _ (List.Sublist.cons₂ _ (List.nil_sublist _)))) (List.nil_sublist _)) (fun b435 => (n_end (b435.1, b435.2) ⟨.inr rfl, .inr rfl, .inr rfl, .inr rfl, .inl rfl, .inl rfl, .inl rfl, .inl rfl, .inl rfl, .inl rfl, .inl rfl, .inl rfl, .inl rfl, .inl rfl, .inl rfl, .inl rfl, .inl rfl, trivial⟩ (List.Sublist.cons₂ _ (List.Sublist.cons₂ _ (List.nil_sublist _)))))))) (fun b413 => (b_frz (as := (b413.2 : List (Int × Int))) 3 (List.Perm.swap _ _ _) rfl (b_Np (s_own 6 sc_law.nd (List.nil_sublist _) (f_lst (l_nil (α := Int)))) (fun old_459 p460 => (b_N (s_for (Sp3.mk : Sp3 (fun b : ((List Int)) => [vl K mg (a.x : Scr), rf p390, vl K mg (many_401.1 : Int), vl K mg (b413.2 : (List (Int × Int))), none, none, rf p460, none, none, none, none, none, none, none, none, none, none]) (fun b : ((List Int)) => ([ow K mg p460 (b : (List Int)), ow K mg p390 (b413.1 : (List Int))] : List Own)) old_459) PassesOwn.never rfl (i_range1 (b' := true) (n_var 2) z_range) (tg_name 7 sc_law.nd) (List.nil_sublist _) ⟨.inr rfl, .inr rfl, .inr rfl, .inr rfl, .inl rfl, .inl rfl, .inr rfl, .inl rfl, .inl rfl, .inl rfl, .inl rfl, .inl rfl, .inl rfl, .inl rfl, .inl rfl, .inl rfl, .inl rfl, trivial⟩ (List.Sublist.refl _) (fun z463 a461 b462 => (n_N (s_ifS (Sp2.mk : Sp2 (fun b : ((List Int)) => [vl K mg (a.x : Scr), rf p390, vl K mg (many_401.1 : Int), vl K mg (b413.2 : (List (Int × Int))), none, none, rf p460, vl K mg (a461 : Int), none, none, none, none, none, none, none, none, none]) (fun b : ((List Int)) => ([ow K mg p460 (b : (List Int)), ow K mg p390 (b413.1 : (List Int))] : List Own))) (t_neD (b1 := true) (b2 := true) (f_val (f_lcf (own := [("one", 16)]) rfl sc_law.nd (i_lk (n_var 3)) (.inl rfl) (blkOk_by (N := ["script", "pool", "many", "pairs", "k", "start", "old", "place", "first", "second", "told", "places", "between", "at", "mixed", "given", "one"]) (sc := defScope s_law) (by decide +kernel)) (tgok_name 16) (fun _ _ _ _ _ => (tg_name 16 sc_law.nd)) (fun _ _ _ _ _ a465 D466 ds467 => (ts_one (nf_chainT (fun i j => decide (i ≤ j)) (fun i j => decide (i < j)) (pt_chain op_le op_lt (n_fst (n_var 16)) (n_var 7) (n_snd (n_var 16)))))) (fun _ _ _ _ _ a465 D466 ds467 => (n_var 16)))) (f_val (f_lst (l_nil (α := Int)))) hr.units) (n_N (s_app 6 rfl (fun _ => List.nil_sublist _) (n_var 7) (fun h1 h2 => pe_bm PySem.F.plainAttrs_list PySem.F.slot_list_append PySem.F.type_list_append mt_append h1 h2)) (fun old_472 => (n_end old_472 ⟨.inr rfl, .inr rfl, .inr rfl, .inr rfl, .inl rfl, .inl rfl, .inr rfl, .inr rfl, .inl rfl, .inl rfl, .inl rfl, .inl rfl, .inl rfl, .inl rfl, .inl rfl, .inl rfl, .inl rfl, trivial⟩ (List.Sublist.cons₂ _ (List.Sublist.cons₂ _ (List.nil_sublist _)))))) (n_end b462 ⟨.inr rfl, .inr rfl, .inr rfl, .inr rfl, .inl rfl, .inl rfl, .inr rfl, .inr rfl, .inl rfl, .inl rfl, .inl rfl, .inl rfl, .inl rfl, .inl rfl, .inl rfl, .inl rfl, .inl rfl, trivial⟩ (List.Sublist.cons₂ _ (List.Sublist.cons₂ _ (List.nil_sublist _)))) (List.nil_sublist _)) (fun b471 => (n_end b471 ⟨.inr rfl, .inr rfl, .inr rfl, .inr rfl, .inl rfl, .inl rfl, .inr rfl, .inl rfl, .inl rfl, .inl rfl, .inl rfl, .inl rfl, .inl rfl, .inl rfl, .inl rfl, .inl rfl, .inl rfl, trivial⟩ (List.Sublist.cons₂ _ (List.Sublist.cons₂ _ (List.nil_sublist _)))))))) (fun b464 => (b_frz (as := (b464 : List Int)) 6 (List.Perm.refl _) rfl (b_N (s_setE 8 sc_law.nd (e_call 1 D__law_map (hr.mono (by decide)) rfl (ea_p (List.nil_sublist _) (a_cons (n_var 2) a_nil)))) (fun first_475 => (b_N (s_setE 9 sc_law.nd (e_call 1 D__law_map (hr.mono (by decide)) rfl (ea_p (List.nil_sublist _) (a_cons (n_var 2) a_nil)))) (fun second_476 => (b_N (s_set 10 sc_law.nd (List.nil_sublist _) (fo_val (fo_make (α := O_Stretches) K_Stretches___init (hr.mono (by decide)) (a_cons (n_sql (f_val (f_list (pe_callTy call_list_of (by rfl) z_list (by decide +kernel) (pa_cons (n_var 3) pa_nil)) rfl))) a_nil)))) (fun told_477 => (b_if (t_not (t_val (b1 := true) (nd_call D__law_is (hr.mono (by decide)) (a_cons (n_var 10) (a_cons (n_var 6) a_nil))))) (b_ret (n_bl (b := true)) (List.nil_sublist _)) (b_M (s_forM (Sp3.mk : Sp3 (fun b : Unit => [vl K mg (a.x : Scr), rf p390, vl K mg (many_401.1 : Int), vl K mg (b413.2 : (List (Int × Int))), none, none, vl K mg (b464 : (List Int)), none, vl K mg (first_475.1 : (List (Option Int))), vl K mg (second_476.1 : (List (Option Int))), vl K mg (told_477 : O_Stretches), none, none, none, none, none, none]) (fun b : Unit => ([ow K mg p390 (second_476.2 : (List Int))] : List Own)) ()) PassesOwn.never rfl (i_lk (f_val (f_lst (l_cons (n_var 8) (l_cons (n_var 9) (l_cons (n_var 8) (l_nil (α := (List (Option Int)))))))))) (tg_name 11 sc_law.nd) (List.nil_sublist _) ⟨.inr rfl, .inr rfl, .inr rfl, .inr rfl, .inl rfl, .inl rfl, .inr rfl, .inl rfl, .inr rfl, .inr rfl, .inr rfl, .inl rfl, .inl rfl, .inl rfl, .inl rfl, .inl rfl, .inl rfl, trivial⟩ (List.Sublist.refl _) (fun z482 a480 b481 => (m_if (PW.pt (w_or (t_not (t_val (b1 := true) (nd_call D__law_moved (hr.mono (by decide)) (a_cons (n_var 10) (a_cons (n_var 11) (a_cons (n_var 6) a_nil)))))) (w_or1 (t_not (t_val (b1 := true) (nd_call D__law_back (hr.mono (by decide)) (a_cons (n_var 10) (a_cons (n_var 11) (a_cons (n_var 6) a_nil))))))))) (b_le (rV_le (.add (.refl _))) (b_ret (n_bl (b := true)) (List.nil_sublist _))) (m_end () ⟨.inr rfl, .inr rfl, .inr rfl, .inr rfl, .inl rfl, .inl rfl, .inr rfl, .inl rfl, .inr rfl, .inr rfl, .inr rfl, .inl rfl, .inl rfl, .inl rfl, .inl rfl, .inl rfl, .inl rfl, trivial⟩ (List.Sublist.cons₂ _ (List.nil_sublist _))) (List.nil_sublist _)))) (fun b483 => (b_N (s_set 12 sc_law.nd (List.nil_sublist _) (f_val (fd_call D__law_led (hr.mono (by decide)) (a_cons (n_var 8) (a_cons (n_var 6) a_nil))))) (fun between_489 => (b_ifM (t_eqD (b1 := true) (b2 := true) (f_val (f_lcf (own := [("place", 7)]) rfl sc_law.nd (i_lk (n_var 12)) (.inl rfl) (blkOk_by (N := ["script", "pool", "many", "pairs", "k", "start", "old", "place", "first", "second", "told", "places", "between", "at", "mixed", "given", "one"]) (sc := defScope s_law) (by decide +kernel)) (tgok_name 7) (fun _ _ _ _ _ => (tg_name 7 sc_law.nd)) (fun _ _ _ _ _ a490 D491 ds492 => (ts_one (t_ge (n_var 7) (n_var 2)))) (fun _ _ _ _ _ a490 D491 ds492 => (n_var 7)))) (f_val (f_lst (l_nil (α := Int)))) hr.units) (m_if (t_not (t_val (b1 := true) (nd_call D__law_moved (hr.mono (by decide)) (a_cons (n_meth (α := O_Stretches) M_Stretches_moved (hr.mono (by decide)) (n_var 10) (a_cons (n_sqt (n_tupleOf (pe_callTy call_tuple_of (by rfl) z_tuple (by decide +kernel) (pa_cons (n_var 8) pa_nil)) rfl)) a_nil)) (a_cons (n_var 9) (a_cons (f_val (f_sortedSet (b := true) (pe_callB (cr_sortedS rfl) (by rfl) z_sorted (by decide +kernel) (pa_cons (pe_callTy (cr_setL rfl) (by rfl) z_set (by decide +kernel) (pa_cons (n_var 12) pa_nil)) pa_nil)) rfl rfl)) a_nil)))))) (b_ret (n_bl (b := true)) (List.nil_sublist _)) m_end0 (List.nil_sublist _)) (b_N (s_setE 13 sc_law.nd (e_call 1 D__law_draw (hr.mono (by decide)) rfl (ea_p (List.nil_sublist _) (a_cons (n_add (b3 := true) (n_len (b3 := true) (pe_callB call_len_seq (by rfl) z_len (by decide +kernel) (pa_cons (n_var 6) pa_nil)) rfl) (n_int (b := true))) a_nil)))) (fun at_502 => (b_N (s_set 14 sc_law.nd (List.nil_sublist _) (f_val (f_cat (f_val (f_slice (n_var 6) (o_some (n_var 13)) o_none)) (f_val (f_slice (n_var 6) o_none (o_some (n_var 13))))))) (fun mixed_503 => (b_Np (s_ownCatE (i := 14) sc_law.nd (e_p (List.nil_sublist _) (n_var 14)) (fun xs504 => (e_sliceHi (e_p (List.nil_sublist _) (n_var 14)) (fun xs505 => (e_call 1 D__law_draw (hr.mono (by decide)) rfl (ea_p (List.nil_sublist _) (a_cons (n_add (b3 := true) (n_len (b3 := true) (pe_callB call_len_seq (by rfl) z_len (by decide +kernel) (pa_cons (n_var 6) pa_nil)) rfl) (n_int (b := true))) a_nil))))))) (fun mixed_508 p509 => (b_N (s_reverse 14 rfl (List.nil_sublist _) (fun h1 => pe_bm0 PySem.F.plainAttrs_list PySem.F.slot_list_reverse PySem.F.type_list_reverse mt_reverse h1)) (fun mixed_510 => (b_N (s_set 15 sc_law.nd (List.nil_sublist _) (f_val (f_strong (b := false) (b' := true) (f_list (pe_callTy call_list_of (by rfl) z_list (by decide +kernel) (pa_cons (n_own 14 rfl List.mem_cons_self) pa_nil)) rfl)))) (fun given_511 => (b_if (PW.pt (w_or (t_not (t_val (b1 := true) (nd_call D__law_is (hr.mono (by decide)) (a_cons (nd_stat SA_Stretches_covering (hr.mono (by decide)) (a_cons (n_var 15) a_nil)) (a_cons (n_var 6) a_nil))))) (w_or1 (t_neD (b1 := true) (b2 := false) (n_var 15) (n_own 14 rfl List.mem_cons_self) hr.units)))) (b_ret (n_bl (b := true)) (List.nil_sublist _)) (b_N (s_setLcG (α := O_Stretches) (own := [("place", 7)]) 11 GN_Stretches_each_place (hr.mono (by decide)) (List.nil_sublist _) (n_var 10) sc_law.nd (blkOk_by (N := ["script", "pool", "many", "pairs", "k", "start", "old", "place", "first", "second", "told", "places", "between", "at", "mixed", "given", "one"]) (sc := defScope s_law) (by decide +kernel)) (NG.elti_name (by rfl) (by rfl)) eln_name) (fun places_518 => (b_if (PW.pt (w_or (t_not (t_val (b1 := true) (nd_call D__law_is (hr.mono (by decide)) (a_cons (nd_stat SA_Stretches_covering (hr.mono (by decide)) (a_cons (n_var 11) a_nil)) (a_cons (n_var 6) a_nil))))) (w_or1 (t_not (t_val (b1 := true) (nd_call D__law_is (hr.mono (by decide)) (a_cons (nd_stat SA_Stretches_covering (hr.mono (by decide)) (a_cons (f_val (f_lst (l_nil (α := Int)))) a_nil)) (a_cons (f_val (f_lst (l_nil (α := Int)))) a_nil)))))))) (b_ret (n_bl (b := true)) (List.nil_sublist _)) (b_ret (nd_call D__law_is (hr.mono (by decide)) (a_cons (n_var 10) (a_cons (n_var 6) a_nil))) (List.nil_sublist _)) (List.nil_sublist _)))) (List.nil_sublist _)))))))))))) (List.nil_sublist _)))))) (List.nil_sublist _))))))))))))))))))))))) ?_
  unfold m_law
  simp -implicitDefEqProofs only [Res.bind_ok, Res.bind_assoc]
  all_goals rfl

end
end K22
set_option linter.all false
/-! St: stretches, without any program: lists of pairs, what places they have. -/
namespace ST
abbrev Ps := List (Int × Int)
/-- the place x lies in one of the pairs -/
def mem (ps : Ps) (x : Int) : Prop := ∃ p ∈ ps, p.1 ≤ x ∧ x < p.2
theorem mem_nil (x : Int) : ¬ mem [] x := fun ⟨_, h, _⟩ => (List.not_mem_nil h).elim
theorem mem_cons {p : Int × Int} {r : Ps} {x : Int} : mem (p :: r) x ↔ (p.1 ≤ x ∧ x < p.2) ∨ mem r x := by
  constructor
  · rintro ⟨q, h, h2⟩
    rcases List.mem_cons.mp h with e | e
    · subst e; exact .inl h2
    · exact .inr ⟨q, e, h2⟩
  · rintro (h | ⟨q, h, h2⟩)
    · exact ⟨p, List.mem_cons_self, h⟩
    · exact ⟨q, List.mem_cons_of_mem _ h, h2⟩
theorem mem_app {a b : Ps} {x : Int} : mem (a ++ b) x ↔ mem a x ∨ mem b x := by
  induction a with
  | nil => exact ⟨.inr, fun h => h.elim (fun z => (mem_nil x z).elim) id⟩
  | cons p r ih =>
    rw [List.cons_append, mem_cons, mem_cons, ih]
    exact ⟨fun h => h.elim (fun z => .inl (.inl z)) fun z => z.elim (fun z => .inl (.inr z)) .inr, fun h => h.elim (fun z => z.elim .inl fun z => .inr (.inl z)) fun z => .inr (.inr z)⟩
theorem mem_one {p : Int × Int} {x : Int} : mem [p] x ↔ p.1 ≤ x ∧ x < p.2 := by rw [mem_cons]; exact ⟨fun h => h.elim id fun z => (mem_nil x z).elim, .inl⟩
theorem mem_perm {a b : Ps} (h : a.Perm b) (x : Int) : mem a x ↔ mem b x := ⟨fun ⟨p, h1, h2⟩ => ⟨p, h.mem_iff.mp h1, h2⟩, fun ⟨p, h1, h2⟩ => ⟨p, h.mem_iff.mpr h1, h2⟩⟩
/-- ascending stretches behind lo, none touching another one -/
def Can : Int → Ps → Prop
  | _, [] => True
  | lo, p :: r => lo < p.1 ∧ p.1 < p.2 ∧ Can p.2 r
theorem Can.low {lo : Int} : ∀ {ps : Ps} {lo : Int}, Can lo ps → ∀ {x : Int}, mem ps x → lo < x
  | [], _, _, x, h => (mem_nil x h).elim
  | p :: r, lo, h, x, hx => by
    rcases mem_cons.mp hx with z | z
    · have := h.1; omega
    · have := Can.low (lo := lo) h.2.2 z
      have := h.1
      have := h.2.1
      omega
theorem Can.weak {lo lo' : Int} (h : lo' ≤ lo) : ∀ {ps : Ps}, Can lo ps → Can lo' ps
  | [], _ => trivial
  | p :: r, c => ⟨by have := c.1; omega, c.2⟩
theorem can_eq : ∀ {a b : Ps} {lo lo' : Int}, Can lo a → Can lo' b → (∀ x, mem a x ↔ mem b x) → a = b
  | [], [], _, _, _, _, _ => rfl
  | [], q :: s, _, _, _, hb, h => by
    have : mem ([] : Ps) q.1 := (h q.1).mpr (mem_cons.mpr (.inl ⟨Int.le_refl _, hb.2.1⟩))
    exact (mem_nil _ this).elim
  | p :: r, [], _, _, ha, _, h => by
    have : mem ([] : Ps) p.1 := (h p.1).mp (mem_cons.mpr (.inl ⟨Int.le_refl _, ha.2.1⟩))
    exact (mem_nil _ this).elim
  | p :: r, q :: s, lo, lo', ha, hb, h => by
    have l1 : ∀ {t : Ps} {u : Int × Int} {l : Int}, Can l (u :: t) → ∀ {x : Int}, mem (u :: t) x → u.1 ≤ x := fun c x hx => by
      rcases mem_cons.mp hx with z | z
      · exact z.1
      · have a := Can.low (lo := 0) c.2.2 z
        have b := c.2.1
        omega
    have e1 : p.1 = q.1 := by
      have a := l1 hb ((h p.1).mp (mem_cons.mpr (.inl ⟨Int.le_refl _, ha.2.1⟩)))
      have b := l1 ha ((h q.1).mpr (mem_cons.mpr (.inl ⟨Int.le_refl _, hb.2.1⟩)))
      omega
    have no : ∀ {t : Ps} {u : Int × Int} {l : Int}, Can l (u :: t) → ¬ mem (u :: t) u.2 := fun c hx => by
      rcases mem_cons.mp hx with z | z
      · omega
      · have a := Can.low (lo := 0) c.2.2 z
        omega
    have e2 : p.2 = q.2 := by
      rcases Int.lt_trichotomy p.2 q.2 with z | z | z
      · exact (no ha ((h p.2).mpr (mem_cons.mpr (.inl ⟨by have := ha.2.1; omega, z⟩)))).elim
      · exact z
      · exact (no hb ((h q.2).mp (mem_cons.mpr (.inl ⟨by have := hb.2.1; omega, z⟩)))).elim
    have e : p = q := Prod.ext e1 e2
    subst e
    have := can_eq ha.2.2 hb.2.2 fun x => by
      constructor
      · intro hx
        rcases mem_cons.mp ((h x).mp (mem_cons.mpr (.inr hx))) with z | z
        · have := Can.low (lo := 0) ha.2.2 hx
          omega
        · exact z
      · intro hx
        rcases mem_cons.mp ((h x).mpr (mem_cons.mpr (.inr hx))) with z | z
        · have := Can.low (lo := 0) hb.2.2 hx
          omega
        · exact z
    rw [this]
/-- where a list ends -/
def eo : Int → Ps → Int
  | lo, [] => lo
  | _, p :: r => eo p.2 r
theorem can_app : ∀ {a b : Ps} {lo : Int}, Can lo (a ++ b) ↔ Can lo a ∧ Can (eo lo a) b
  | [], b, lo => ⟨fun h => ⟨trivial, h⟩, fun h => h.2⟩
  | p :: r, b, lo => by
    show (lo < p.1 ∧ p.1 < p.2 ∧ Can p.2 (r ++ b)) ↔ (lo < p.1 ∧ p.1 < p.2 ∧ Can p.2 r) ∧ Can (eo p.2 r) b
    rw [can_app]
    exact ⟨fun ⟨a, b, c, d⟩ => ⟨⟨a, b, c⟩, d⟩, fun ⟨⟨a, b, c⟩, d⟩ => ⟨a, b, c, d⟩⟩
theorem eo_app : ∀ (a b : Ps) (lo : Int), eo lo (a ++ b) = eo (eo lo a) b
  | [], _, _ => rfl
  | p :: r, b, lo => eo_app r b p.2
theorem can_last {a : Ps} {p : Int × Int} {lo : Int} : Can lo (a ++ [p]) ↔ Can lo a ∧ eo lo a < p.1 ∧ p.1 < p.2 := by
  rw [can_app]
  exact ⟨fun ⟨a, b, c, _⟩ => ⟨a, b, c⟩, fun ⟨a, b, c⟩ => ⟨a, b, c, trivial⟩⟩
theorem Can.hi : ∀ {ps : Ps} {lo : Int}, Can lo ps → lo ≤ eo lo ps ∧ ∀ {x : Int}, mem ps x → x < eo lo ps
  | [], lo, _ => ⟨Int.le_refl _, fun h => (mem_nil _ h).elim⟩
  | p :: r, lo, h => by
    have ⟨a, b⟩ := Can.hi h.2.2
    have h1 := h.1
    have h2 := h.2.1
    refine ⟨by show lo ≤ eo p.2 r; omega, fun {x} hx => ?_⟩
    show x < eo p.2 r
    rcases mem_cons.mp hx with z | z
    · omega
    · exact b z
/-! merged -/
def mgStep (acc : Ps) (p : Int × Int) : Ps := match acc.getLast? with
  | some l => if p.1 ≤ l.2 then acc.dropLast ++ [(l.1, max p.2 l.2)] else acc ++ [p]
  | none => [p]
theorem mgStep_snoc (a : Ps) (l p : Int × Int) : mgStep (a ++ [l]) p = if p.1 ≤ l.2 then a ++ [(l.1, max p.2 l.2)] else (a ++ [l]) ++ [p] := by
  unfold mgStep
  rw [List.getLast?_concat, List.dropLast_concat]
theorem mgStep_nil (p : Int × Int) : mgStep [] p = [p] := rfl
/-- the start of the last pair -/
def ls (lo : Int) (a : Ps) : Int := match a.getLast? with | some l => l.1 | none => lo
theorem ls_snoc (lo : Int) (a : Ps) (l : Int × Int) : ls lo (a ++ [l]) = l.1 := by unfold ls; rw [List.getLast?_concat]
theorem mg_step {acc : Ps} {p : Int × Int} {lo : Int} (h : Can lo acc) (h1 : lo < p.1) (h2 : p.1 < p.2) (h3 : ∀ q ∈ acc, q.1 ≤ p.1) : Can lo (mgStep acc p) ∧ (∀ x, mem (mgStep acc p) x ↔ mem acc x ∨ (p.1 ≤ x ∧ x < p.2)) ∧ ∀ q ∈ mgStep acc p, q.1 ≤ p.1 := by
  rcases List.eq_nil_or_concat acc with e | ⟨a, l, e⟩
  · subst e
    rw [mgStep_nil]
    exact ⟨⟨h1, h2, trivial⟩, fun x => by rw [mem_one]; exact ⟨.inr, fun z => z.elim (fun z => (mem_nil x z).elim) id⟩, fun q hq => by rw [List.mem_singleton.mp hq]; exact Int.le_refl _⟩
  · rw [List.concat_eq_append] at e
    subst e
    have hl := h3 l (List.mem_append_right _ List.mem_cons_self)
    rw [mgStep_snoc]
    have hc := can_last.mp h
    by_cases q : p.1 ≤ l.2
    · rw [if_pos q]
      refine ⟨can_last.mpr ⟨hc.1, hc.2.1, by show l.1 < max p.2 l.2; have := hc.2.2; omega⟩, fun x => ?_, fun q hq => ?_⟩
      · rw [mem_app, mem_app, mem_one, mem_one]
        dsimp only
        constructor
        · rintro (z | z)
          · exact .inl (.inl z)
          · by_cases y : x < l.2
            · exact .inl (.inr ⟨z.1, y⟩)
            · exact .inr ⟨by omega, by omega⟩
        · rintro ((z | z) | z)
          · exact .inl z
          · exact .inr ⟨z.1, by omega⟩
          · exact .inr ⟨by omega, by omega⟩
      · rcases List.mem_append.mp hq with z | z
        · exact h3 q (List.mem_append_left _ z)
        · rw [List.mem_singleton.mp z]; exact hl
    · rw [if_neg q]
      refine ⟨can_last.mpr ⟨h, by rw [eo_app]; show l.2 < p.1; omega, h2⟩, fun x => ?_, fun q hq => ?_⟩
      · rw [mem_app, mem_one]
      · rcases List.mem_append.mp hq with z | z
        · exact h3 q z
        · rw [List.mem_singleton.mp z]; exact Int.le_refl _
def mg (ps : Ps) : Ps := ps.foldl mgStep []
theorem mg_loop {lo : Int} : ∀ (ps acc : Ps), Can lo acc → (∀ p ∈ ps, lo < p.1 ∧ p.1 < p.2) → ps.Pairwise (fun p q => p.1 ≤ q.1) → (∀ q ∈ acc, ∀ p ∈ ps, q.1 ≤ p.1) → Can lo (ps.foldl mgStep acc) ∧ ∀ x, mem (ps.foldl mgStep acc) x ↔ mem acc x ∨ mem ps x
  | [], acc, h, _, _, _ => ⟨h, fun x => ⟨.inl, fun z => z.elim id fun z => (mem_nil x z).elim⟩⟩
  | p :: ps, acc, h, h1, h2, h3 => by
    have hp := h1 p List.mem_cons_self
    rw [List.pairwise_cons] at h2
    obtain ⟨a, b, c⟩ := mg_step h hp.1 hp.2 fun q hq => h3 q hq p List.mem_cons_self
    obtain ⟨d, e⟩ := mg_loop ps (mgStep acc p) a (fun q hq => h1 q (List.mem_cons_of_mem _ hq)) h2.2 fun q hq r hr => Int.le_trans (c q hq) (h2.1 r hr)
    refine ⟨d, fun x => ?_⟩
    rw [List.foldl_cons, e x, b x, mem_cons]
    exact ⟨fun z => z.elim (fun z => z.elim .inl fun z => .inr (.inl z)) fun z => .inr (.inr z), fun z => z.elim (fun z => .inl (.inl z)) fun z => z.elim (fun z => .inl (.inr z)) .inr⟩
theorem mg_ok {lo : Int} {ps : Ps} (h : ∀ p ∈ ps, lo < p.1 ∧ p.1 < p.2) (hs : ps.Pairwise (fun p q => p.1 ≤ q.1)) : Can lo (mg ps) ∧ ∀ x, mem (mg ps) x ↔ mem ps x := by
  obtain ⟨a, b⟩ := mg_loop ps [] trivial h hs fun q hq => (List.not_mem_nil hq).elim
  exact ⟨a, fun x => by rw [show mg ps = ps.foldl mgStep [] from rfl, b x]; exact ⟨fun z => z.elim (fun z => (mem_nil x z).elim) id, .inr⟩⟩
/-! shared -/
def sh : Ps → Ps → Ps
  | [], _ => []
  | _ :: _, [] => []
  | p :: r, q :: s => (if max p.1 q.1 < min p.2 q.2 then [(max p.1 q.1, min p.2 q.2)] else []) ++ (if p.2 = min p.2 q.2 then sh r (q :: s) else sh (p :: r) s)
termination_by a b => a.length + b.length
theorem sh_nil (b : Ps) : sh [] b = [] := by unfold sh; rfl
theorem sh_nil2 (a : Ps) : sh a [] = [] := by cases a <;> (unfold sh; rfl)
theorem sh_cons (p q : Int × Int) (r s : Ps) : sh (p :: r) (q :: s) = (if max p.1 q.1 < min p.2 q.2 then [(max p.1 q.1, min p.2 q.2)] else []) ++ (if p.2 = min p.2 q.2 then sh r (q :: s) else sh (p :: r) s) := by
  rw [sh]
theorem sh_mem : ∀ (n : Nat) (a b : Ps) (lo lo' : Int), a.length + b.length ≤ n → Can lo a → Can lo' b → ∀ x, mem (sh a b) x ↔ mem a x ∧ mem b x
  | _, [], b, _, _, _, _, _, x => by
    rw [sh_nil]
    exact ⟨fun z => (mem_nil x z).elim, fun z => (mem_nil x z.1).elim⟩
  | _, p :: r, [], _, _, _, _, _, x => by
    rw [sh_nil2]
    exact ⟨fun z => (mem_nil x z).elim, fun z => (mem_nil x z.2).elim⟩
  | 0, p :: r, q :: s, _, _, h, _, _, _ => by simp at h
  | n + 1, p :: r, q :: s, lo, lo', h, ha, hb, x => by
    rw [List.length_cons, List.length_cons] at h
    have front : mem (if max p.1 q.1 < min p.2 q.2 then [(max p.1 q.1, min p.2 q.2)] else []) x ↔ (p.1 ≤ x ∧ x < p.2) ∧ (q.1 ≤ x ∧ x < q.2) := by
      split
      · rw [mem_one]; dsimp only; omega
      · rename_i hn
        exact ⟨fun z => (mem_nil x z).elim, fun z => by omega⟩
    have la : ∀ {x : Int}, mem r x → p.2 < x := fun z => Can.low (lo := 0) ha.2.2 z
    have lb : ∀ {x : Int}, mem s x → q.2 < x := fun z => Can.low (lo := 0) hb.2.2 z
    rw [sh_cons, mem_app, front, mem_cons, mem_cons]
    by_cases e : p.2 = min p.2 q.2
    · rw [if_pos e, sh_mem n r (q :: s) p.2 lo' (by simp; omega) ha.2.2 hb x, mem_cons]
      constructor
      · rintro (z | z)
        · exact ⟨.inl z.1, .inl z.2⟩
        · exact ⟨.inr z.1, z.2⟩
      · rintro ⟨z1 | z1, z2⟩
        · rcases z2 with z2 | z2
          · exact .inl ⟨z1, z2⟩
          · have := lb z2
            omega
        · exact .inr ⟨z1, z2⟩
    · rw [if_neg e, sh_mem n (p :: r) s lo q.2 (by simp; omega) ha hb.2.2 x, mem_cons]
      constructor
      · rintro (z | z)
        · exact ⟨.inl z.1, .inl z.2⟩
        · exact ⟨z.1, .inr z.2⟩
      · rintro ⟨z1, z2 | z2⟩
        · rcases z1 with z1 | z1
          · exact .inl ⟨z1, z2⟩
          · have := la z1
            omega
        · exact .inr ⟨z1, z2⟩
theorem sh_pairs : ∀ (n : Nat) (a b : Ps) (lo lo' : Int), a.length + b.length ≤ n → Can lo a → Can lo' b → ∀ p ∈ sh a b, lo < p.1 ∧ p.1 < p.2
  | _, [], b, _, _, _, _, _, p, hp => by rw [sh_nil] at hp; exact (List.not_mem_nil hp).elim
  | _, c :: r, [], _, _, _, _, _, p, hp => by rw [sh_nil2] at hp; exact (List.not_mem_nil hp).elim
  | 0, c :: r, q :: s, _, _, h, _, _, _, _ => by simp at h
  | n + 1, c :: r, q :: s, lo, lo', h, ha, hb, p, hp => by
    rw [List.length_cons, List.length_cons] at h
    rw [sh_cons] at hp
    have h1 := ha.1
    have h2 := ha.2.1
    rcases List.mem_append.mp hp with z | z
    · split at z
      · rw [List.mem_singleton.mp z]
        exact ⟨by show lo < max c.1 q.1; omega, by assumption⟩
      · exact (List.not_mem_nil z).elim
    · split at z
      · have := sh_pairs n r (q :: s) c.2 lo' (by simp; omega) ha.2.2 hb p z
        omega
      · exact sh_pairs n (c :: r) s lo q.2 (by simp; omega) ha hb.2.2 p z
/-! gaps -/
def gp (count : Int) : Int → Ps → Ps
  | free, [] => if free < count then [(free, count)] else []
  | free, p :: r => (if free < min p.1 count then [(free, min p.1 count)] else []) ++ gp count p.2 r
theorem gp_mem (count : Int) : ∀ (ps : Ps) (free : Int), Can (free - 1) ps → ∀ x, mem (gp count free ps) x ↔ (free ≤ x ∧ x < count) ∧ ¬ mem ps x
  | [], free, _, x => by
    unfold gp
    split
    · rw [mem_one]; exact ⟨fun z => ⟨z, mem_nil x⟩, fun z => z.1⟩
    · exact ⟨fun z => (mem_nil x z).elim, fun z => by omega⟩
  | p :: r, free, h, x => by
    have h1 := h.1
    have h2 := h.2.1
    have lr : ∀ {x : Int}, mem r x → p.2 < x := fun z => Can.low (lo := 0) h.2.2 z
    have front : mem (if free < min p.1 count then [(free, min p.1 count)] else []) x ↔ free ≤ x ∧ x < min p.1 count := by
      split
      · rw [mem_one]
      · exact ⟨fun z => (mem_nil x z).elim, fun z => by omega⟩
    show mem ((if free < min p.1 count then [(free, min p.1 count)] else []) ++ gp count p.2 r) x ↔ _
    rw [mem_app, front, gp_mem count r p.2 (Can.weak (by omega) h.2.2) x, mem_cons]
    constructor
    · rintro (z | z)
      · exact ⟨by omega, fun y => y.elim (fun y => by omega) fun y => by have := lr y; omega⟩
      · exact ⟨by omega, fun y => y.elim (fun y => by omega) z.2⟩
    · rintro ⟨z1, z2⟩
      by_cases y : x < p.1
      · exact .inl (by omega)
      · refine .inr ⟨⟨?_, z1.2⟩, fun w => z2 (.inr w)⟩
        exact Int.not_lt.mp fun w => z2 (.inl ⟨by omega, w⟩)
theorem gp_can (count : Int) : ∀ (ps : Ps) (free lo : Int), lo < free → Can (free - 1) ps → Can lo (gp count free ps)
  | [], free, lo, h, _ => by
    unfold gp
    split
    · exact ⟨h, by assumption, trivial⟩
    · trivial
  | p :: r, free, lo, h, hc => by
    have h1 := hc.1
    have h2 := hc.2.1
    show Can lo ((if free < min p.1 count then [(free, min p.1 count)] else []) ++ gp count p.2 r)
    split
    · exact ⟨h, by assumption, gp_can count r p.2 (min p.1 count) (by omega) (Can.weak (by omega) hc.2.2)⟩
    · exact gp_can count r p.2 lo (by omega) (Can.weak (by omega) hc.2.2)
/-! without -/
def wo (a b : Ps) : Ps := match a.getLast? with
  | some l => sh a (gp l.2 0 b)
  | none => []
theorem wo_mem {a b : Ps} (ha : Can (-1) a) (hb : Can (-1) b) (x : Int) : mem (wo a b) x ↔ mem a x ∧ ¬ mem b x := by
  rcases List.eq_nil_or_concat a with e | ⟨c, l, e⟩
  · subst e
    exact ⟨fun z => (mem_nil x z).elim, fun z => (mem_nil x z.1).elim⟩
  · rw [List.concat_eq_append] at e
    subst e
    have ew : wo (c ++ [l]) b = sh (c ++ [l]) (gp l.2 0 b) := by unfold wo; rw [List.getLast?_concat]
    rw [ew, sh_mem _ _ _ (-1) (-1) (Nat.le_refl _) ha (gp_can _ _ _ _ (by decide) hb) x, gp_mem _ _ _ hb x]
    refine ⟨fun z => ⟨z.1, z.2.2⟩, fun z => ⟨z.1, ⟨?_, ?_⟩, z.2⟩⟩
    · have := Can.low (lo := 0) ha z.1; omega
    · have := (Can.hi ha).2 z.1
      rw [eo_app] at this
      exact this
theorem wo_pairs {a b : Ps} (ha : Can (-1) a) (hb : Can (-1) b) : ∀ p ∈ wo a b, -1 < p.1 ∧ p.1 < p.2 := by
  rcases List.eq_nil_or_concat a with e | ⟨c, l, e⟩
  · subst e
    exact fun p hp => (List.not_mem_nil hp).elim
  · rw [List.concat_eq_append] at e
    subst e
    have ew : wo (c ++ [l]) b = sh (c ++ [l]) (gp l.2 0 b) := by unfold wo; rw [List.getLast?_concat]
    rw [ew]
    exact sh_pairs _ _ _ (-1) (-1) (Nat.le_refl _) ha (gp_can _ _ _ _ (by decide) hb)
theorem can_pairs : ∀ {a : Ps} {lo : Int}, Can lo a → ∀ p ∈ a, lo < p.1 ∧ p.1 < p.2
  | [], _, _, p, h => (List.not_mem_nil h).elim
  | q :: r, lo, c, p, h => by
    have h1 := c.1
    have h2 := c.2.1
    rcases List.mem_cons.mp h with z | z
    · rw [z]; exact ⟨h1, h2⟩
    · have := can_pairs c.2.2 p z
      omega
end ST

set_option Elab.async false
set_option linter.all false
set_option maxRecDepth 100000
/-! M22a: k22: what the program's stretches are. -/
namespace K22
open PySem PySem.Spec PyProof.Rows L2 NF
open NF.Data (toD)
open ST (Ps)
theorem need_nil {α : Type} : (need (List.length ([] : List α) ≤ sizeLine) (Res.ok ([] : List α))) = .ok [] := need_ok (by simp)
theorem idx_last {α : Type} (a : List α) (l : α) : idx (a ++ [l]) (-1) = .ok l := by unfold idx; rw [atI_last]
theorem setR_last {α : Type} [Rep α] (a : List α) (l v : α) : setR (a ++ [l]) (-1) v = .ok (a ++ [v]) := by
  unfold setR ixN
  have hl : (a ++ [l]).length = a.length + 1 := by simp
  rw [hl, if_neg (by decide), if_pos (by omega)]
  have e : ((((a.length + 1 : Nat) : Int) + -1).toNat) = a.length := by omega
  first
    | rw [e]; dsimp only; rw [List.set_append_right _ _ (Nat.le_refl _), Nat.sub_self]; rfl
    | (dsimp only; rw [show (-1 + ((a.length + 1 : Nat) : Int)).toNat = a.length by omega, List.set_append_right _ _ (Nat.le_refl _), Nat.sub_self]; rfl)
/-! merged -/
noncomputable def fM : Int × Int → Ps → Res Ps := (fun (a3 : (Int × Int)) (b4 : ((List (Int × Int)))) => ((if (!List.isEmpty b4) then (((idx b4 (-(1 : Int))).bind fun v7 => Res.ok v7.2).bind fun v8 => Res.ok (decide (a3.1 ≤ v8))) else Res.ok false).bind fun v30 => if v30 then ((((((idx b4 (-(1 : Int))).bind fun v20 => Res.ok v20.1).bind fun v23 => (((idx b4 (-(1 : Int))).bind fun v21 => Res.ok v21.2).bind fun v22 => Res.ok (if v22 > a3.2 then v22 else a3.2)).bind fun v24 => Res.ok (v23, v24)).bind fun v25 => Res.ok (v25, b4)).bind fun u27 => setR u27.2 (-(1 : Int)) u27.1).bind fun xs28 => Res.ok xs28) else ((need (List.length b4 < sizeLine) (Res.ok (b4 ++ [(a3.1, a3.2)]))).bind fun merged_29 => Res.ok merged_29)).bind fun b19 => Res.ok b19)
theorem fM_ok (p : Int × Int) (acc : Ps) (h : acc.length < 100000) : fM p acc = .ok (ST.mgStep acc p) := by
  have hs := sl_ge
  rcases List.eq_nil_or_concat acc with e | ⟨a, l, e⟩
  · subst e
    unfold fM
    rw [if_neg (by decide), Res.bind_ok, if_neg (by decide), need_ok (by show 0 < sizeLine; omega)]
    rfl
  · rw [List.concat_eq_append] at e
    subst e
    have hne : (!List.isEmpty (a ++ [l])) = true := by cases a <;> rfl
    unfold fM
    rw [if_pos hne, idx_last, Res.bind_ok, Res.bind_ok, Res.bind_ok, ST.mgStep_snoc]
    by_cases q : p.1 ≤ l.2
    · rw [if_pos (by simpa using q), Res.bind_ok, Res.bind_ok, Res.bind_ok, Res.bind_ok, Res.bind_ok]
      rw [Res.bind_ok, setR_last, Res.bind_ok, Res.bind_ok, if_pos q]
      have e2 : (if l.2 > p.2 then l.2 else p.2) = max p.2 l.2 := by
        split <;> omega
      rw [e2]
    · rw [if_neg (by simpa using q), need_ok (by omega), if_neg q]
      rfl
theorem mgStep_len (acc : Ps) (p : Int × Int) : (ST.mgStep acc p).length ≤ acc.length + 1 := by
  rcases List.eq_nil_or_concat acc with e | ⟨a, l, e⟩
  · subst e; exact Nat.le_refl _
  · rw [List.concat_eq_append] at e
    subst e
    rw [ST.mgStep_snoc]
    split <;> simp
theorem foldM_ok : ∀ (ps acc : Ps), acc.length + ps.length ≤ 100000 → foldR fM ps acc = .ok (ps.foldl ST.mgStep acc)
  | [], acc, _ => rfl
  | p :: ps, acc, h => by
    rw [List.length_cons] at h
    show (fM p acc).bind _ = _
    rw [fM_ok p acc (by omega), Res.bind_ok, foldM_ok ps _ (by have := mgStep_len acc p; omega)]
    rfl
theorem merged_ok (xs : Sq (Int × Int)) (h : (Lk.its xs : Ps).length ≤ 100000) : m_merged ⟨xs, ()⟩ = .ok (Tp.mk (ST.mg (srt ltII (Lk.its xs)))) := by
  have e : m_merged ⟨xs, ()⟩ = (need (List.length ([] : List (Int × Int)) ≤ sizeLine) (Res.ok ([] : List (Int × Int)))).bind fun m => (foldR fM (srt ltII (Lk.its xs)) m).bind fun b => Res.ok (Tp.mk b) := rfl
  rw [e, need_nil, Res.bind_ok, foldM_ok _ _ (by rw [(srt_perm (Lk.its xs : Ps)).length_eq]; simpa using h)]
  rfl
theorem srt_starts (xs : Ps) : (srt ltII xs).Pairwise (fun p q => p.1 ≤ q.1) := (srt_srtd swoII xs).imp fun {p q} h => by
  have : ¬ (q.1 < p.1 ∨ (q.1 = p.1 ∧ q.2 < p.2)) := fun z => by rw [ltII_iff.mpr z] at h; cases h
  omega
theorem mgs_ok {lo : Int} {xs : Ps} (h : ∀ p ∈ xs, lo < p.1 ∧ p.1 < p.2) : ST.Can lo (ST.mg (srt ltII xs)) ∧ ∀ x, ST.mem (ST.mg (srt ltII xs)) x ↔ ST.mem xs x := by
  have hp := srt_perm (lt := ltII) xs
  obtain ⟨a, b⟩ := ST.mg_ok (lo := lo) (ps := srt ltII xs) (fun p hp' => h p (hp.mem_iff.mp hp')) (srt_starts xs)
  exact ⟨a, fun x => (b x).trans (ST.mem_perm hp x)⟩
theorem mem_ir {lo hi x : Int} : x ∈ irange lo hi ↔ lo ≤ x ∧ x < hi := by
  unfold irange
  rw [List.mem_map]
  constructor
  · rintro ⟨i, hi, rfl⟩
    rw [List.mem_range] at hi
    omega
  · rintro ⟨h1, h2⟩
    exact ⟨(x - lo).toNat, List.mem_range.mpr (by omega), by omega⟩
theorem ir_asc (lo hi : Int) : (irange lo hi).Pairwise (· < ·) := by
  unfold irange
  rw [List.pairwise_map]
  exact List.pairwise_lt_range.imp fun {a b} h => by omega

/-- places, ascending -/
structure Ax (xs : List Int) : Prop where
  asc : xs.Pairwise (· < ·)
  rg : ∀ u ∈ xs, 0 ≤ u ∧ u < 2 ^ 40
  len : xs.length ≤ 1000
def sc (xs : List Int) : Ps := xs.map fun u => (u, u + 1)
def PL (xs : List Int) : Ps := ST.mg (sc xs)
theorem mem_sc {xs : List Int} {x : Int} : ST.mem (sc xs) x ↔ x ∈ xs := by
  constructor
  · rintro ⟨p, hp, h1⟩
    obtain ⟨u, hu, rfl⟩ := List.mem_map.mp hp
    have : u = x := by dsimp only at h1; omega
    exact this ▸ hu
  · exact fun z => ⟨_, List.mem_map.mpr ⟨_, z, rfl⟩, Int.le_refl _, by dsimp only; omega⟩
theorem sc_le {xs : List Int} (hx : xs.Pairwise (· < ·)) : (sc xs).Pairwise (fun p q => p.1 ≤ q.1) := by
  unfold sc
  rw [List.pairwise_map]
  exact hx.imp fun {a b} z => by show a ≤ b; omega
theorem sc_pos {xs : List Int} (hx : ∀ u ∈ xs, 0 ≤ u) : ∀ p ∈ sc xs, -1 < p.1 ∧ p.1 < p.2 := fun p hp => by
  obtain ⟨u, hu, rfl⟩ := List.mem_map.mp hp
  have := hx u hu
  dsimp only
  omega
theorem PL_ok {xs : List Int} (hx : Ax xs) : ST.Can (-1) (PL xs) ∧ ∀ x, ST.mem (PL xs) x ↔ x ∈ xs := by
  obtain ⟨a, b⟩ := ST.mg_ok (lo := -1) (ps := sc xs) (sc_pos fun u hu => (hx.rg u hu).1) (sc_le hx.asc)
  exact ⟨a, fun x => (b x).trans mem_sc⟩
theorem insS_len (x : Int) : ∀ l : List Int, (insS x l).length ≤ l.length + 1
  | [] => Nat.le_refl _
  | y :: l => by
    unfold insS
    split
    · exact Nat.le_refl _
    · split
      · exact Nat.le_succ _
      · have := insS_len x l
        simp only [List.length_cons]
        omega
theorem sset_len : ∀ l : List Int, (sset l).length ≤ l.length
  | [] => Nat.le_refl _
  | x :: l => by
    have := insS_len x (sset l)
    have := sset_len l
    show (insS x (sset l)).length ≤ _
    simp only [List.length_cons]
    omega
theorem ax_sset {ps : List Int} (h : ∀ u ∈ ps, 0 ≤ u ∧ u < 2 ^ 40) (hl : ps.length ≤ 1000) : Ax (sset ps) := ⟨sset_lt _, fun u hu => h u (mem_sset.mp hu), Nat.le_trans (sset_len _) hl⟩
theorem sset_ax {xs : List Int} (h : Ax xs) : sset xs = xs := (sset_is h.asc fun _ => Iff.rfl).symm
theorem sset_eq {xs ps : List Int} (h : Ax xs) (hm : ∀ u, u ∈ ps ↔ u ∈ xs) : sset ps = xs := (sset_is h.asc fun k => (hm k).symm).symm
theorem mgf_len : ∀ (ps acc : Ps), (ps.foldl ST.mgStep acc).length ≤ acc.length + ps.length
  | [], acc => Nat.le_refl _
  | p :: ps, acc => by
    rw [List.foldl_cons, List.length_cons]
    have := mgf_len ps (ST.mgStep acc p)
    have := mgStep_len acc p
    omega

theorem PL_len {xs : List Int} (h : Ax xs) : (PL xs).length ≤ 1000 := by
  have h1 := mgf_len (sc xs) []
  have h2 := h.len
  unfold sc at h1
  rw [List.length_map] at h1
  exact Nat.le_trans h1 (by simpa using h2)
def SO (ps : Ps) : O_Stretches := ⟨⟨ps⟩⟩
/-- making one -/
theorem init_ok {lo : Int} (xs : Sq (Int × Int)) {zs : Ps} (hl : (Lk.its xs : Ps).length ≤ 100000) (hp : ∀ p ∈ (Lk.its xs : Ps), lo < p.1 ∧ p.1 < p.2) {lo' : Int} (hc : ST.Can lo' zs) (hm : ∀ x, ST.mem zs x ↔ ST.mem (Lk.its xs : Ps) x) : m_Stretches___init ⟨xs, ()⟩ = .ok (SO zs) := by
  unfold m_Stretches___init
  dsimp only
  rw [merged_ok xs hl, Res.bind_ok]
  obtain ⟨a, b⟩ := mgs_ok hp
  rw [ST.can_eq a hc fun x => (b x).trans (hm x).symm]
  rfl
theorem filtP_ok {α β : Type} {p : α → Bool} {g : α → β} : ∀ as : List α, filtR (fun a => Res.quiet (Res.ok (p a))) (fun a => Res.quiet (Res.ok (g a))) as = .ok ((as.filter p).map g)
  | [] => rfl
  | a :: as => by
    show ((Res.ok (p a)).bind fun c => if c then (Res.ok (g a)).bind fun y => (filtR (fun a => Res.quiet (Res.ok (p a))) (fun a => Res.quiet (Res.ok (g a))) as).bind fun ys => .ok (y :: ys) else filtR (fun a => Res.quiet (Res.ok (p a))) (fun a => Res.quiet (Res.ok (g a))) as) = _
    rw [Res.bind_ok, filtP_ok as, List.filter_cons]
    cases p a <;> rfl
theorem filtG_ok {α β : Type} {p : α → Res Bool} {f : α → Res β} {pb : α → Bool} {g : α → β} : ∀ {as : List α}, (∀ a ∈ as, p a = .ok (pb a)) → (∀ a ∈ as, f a = .ok (g a)) → filtR (fun a => Res.quiet (p a)) (fun a => Res.quiet (f a)) as = .ok ((as.filter pb).map g)
  | [], _, _ => rfl
  | a :: as, h1, h2 => by
    show ((Res.quiet (p a)).bind fun c => if c then (Res.quiet (f a)).bind fun y => (filtR (fun a => Res.quiet (p a)) (fun a => Res.quiet (f a)) as).bind fun ys => .ok (y :: ys) else filtR (fun a => Res.quiet (p a)) (fun a => Res.quiet (f a)) as) = _
    rw [h1 a List.mem_cons_self, h2 a List.mem_cons_self, filtG_ok (fun b hb => h1 b (List.mem_cons_of_mem _ hb)) fun b hb => h2 b (List.mem_cons_of_mem _ hb), List.filter_cons]
    show (if pb a = true then _ else _) = _
    cases pb a <;> rfl
/-! shapes -/
theorem lay_ps : ∀ b : Ps, PyData.canLayAll0 (b.map toD) = true ∧ PyData.depthAll (b.map toD) ≤ 1
  | [] => ⟨rfl, Nat.zero_le _⟩
  | p :: b => by
    obtain ⟨h1, h2⟩ := lay_ps b
    refine ⟨?_, ?_⟩
    · show ((PyData.tuple [.int p.1, .int p.2]).canLay0 && PyData.canLayAll0 (b.map toD)) = true
      rw [h1]; rfl
    · show max (PyData.tuple [.int p.1, .int p.2]).depth (PyData.depthAll (b.map toD)) ≤ 1
      have : (PyData.tuple [.int p.1, .int p.2]).depth = 1 := rfl
      omega
theorem shp_ps (b : Ps) : shp b = true := by
  obtain ⟨h1, h2⟩ := lay_ps b
  show (PyData.canLayAll0 (b.map toD) && decide (PyData.depthAll (b.map toD) + 1 ≤ 64)) = true
  rw [h1, decide_eq_true (by omega)]; rfl
theorem shp_tp (b : Ps) : shp (Tp.mk b) = true := shp_ps b
theorem shp_tn : shp (Tp.mk ([] : List Int)) = true := rfl
theorem eqv_ps : ∀ a b : Ps, PyData.eqvAll (a.map toD) (b.map toD) = decide (a = b)
  | [], [] => rfl
  | [], _ :: _ => rfl
  | _ :: _, [] => rfl
  | p :: a, q :: b => by
    show (((p.1 == q.1) && ((p.2 == q.2) && true)) && PyData.eqvAll (a.map toD) (b.map toD)) = _
    rw [eqv_ps a b]
    obtain ⟨p1, p2⟩ := p
    obtain ⟨q1, q2⟩ := q
    by_cases h : p1 = q1
    · by_cases h2 : p2 = q2
      · subst h; subst h2; simp
      · simp [h, h2]
    · simp [h]
theorem eqD_ps (a b : Ps) : eqD a b = decide (a = b) := eqv_ps a b
theorem eqD_tp (a b : Ps) : eqD (Tp.mk a) (Tp.mk b) = decide (a = b) := eqv_ps a b
theorem eqD_tn (a : Ps) : eqD (Tp.mk a) (Tp.mk ([] : List Int)) = List.isEmpty a := by cases a <;> rfl
theorem eqD_nilX (b : Ps) : eqD b ([] : List Int) = List.isEmpty b := by cases b <;> rfl
theorem eqD_bb (b : Bool) : eqD b b = true := by cases b <;> rfl
theorem ne_snoc {α : Type} (a : List α) (l : α) : List.isEmpty (a ++ [l]) = false := by cases a <;> rfl

theorem filtH_ok {α β : Type} {p : α → Res Bool} {f : α → Res β} {pb : α → Bool} {g : α → β} : ∀ {as : List α}, (∀ a ∈ as, p a = .ok (pb a)) → (∀ a ∈ as, pb a = true → f a = .ok (g a)) → filtR (fun a => Res.quiet (p a)) (fun a => Res.quiet (f a)) as = .ok ((as.filter pb).map g)
  | [], _, _ => rfl
  | a :: as, h1, h2 => by
    show ((Res.quiet (p a)).bind fun c => if c then (Res.quiet (f a)).bind fun y => (filtR (fun a => Res.quiet (p a)) (fun a => Res.quiet (f a)) as).bind fun ys => .ok (y :: ys) else filtR (fun a => Res.quiet (p a)) (fun a => Res.quiet (f a)) as) = _
    rw [h1 a List.mem_cons_self, filtH_ok (fun b hb => h1 b (List.mem_cons_of_mem _ hb)) fun b hb => h2 b (List.mem_cons_of_mem _ hb), List.filter_cons]
    show (if pb a = true then _ else _) = _
    cases e : pb a with
    | false => rfl
    | true => rw [if_pos rfl, if_pos rfl, h2 a List.mem_cons_self e]; rfl
/-! covering -/
theorem covering_ok {ps : List Int} (h : ∀ u ∈ ps, 0 ≤ u ∧ u < 2 ^ 40) (hl : ps.length ≤ 1000) : m_Stretches_covering ⟨ps, ()⟩ = .ok (SO (PL (sset ps))) := by
  have hs := sl_ge
  unfold m_Stretches_covering
  dsimp only
  rw [need_ok (by omega), filtQ_ok (g := fun u : Int => (u, u + 1)) fun a _ => rfl, Res.bind_ok, Res.bind_ok, Res.bind_ok]
  obtain ⟨a, b⟩ := PL_ok (ax_sset h hl)
  exact init_ok (lo := -1) (Sq.l (sc ps)) (by show (sc ps).length ≤ _; unfold sc; rw [List.length_map]; omega) (sc_pos fun u hu => (h u hu).1) a fun x => (b x).trans (mem_sset.trans mem_sc.symm)
/-! _law_pairs -/
noncomputable def fP : Int → Ps → Res Ps := (fun (a131 : Int) (b132 : ((List (Int × Int)))) => ((((need (List.length ([] : List Int) ≤ sizeLine) (Res.ok ([] : List Int))).bind fun v135 => need (shp b132 = true ∧ shp v135 = true) (Res.ok (!eqD b132 v135))).bind fun v138 => if v138 then (((idx b132 (-(1 : Int))).bind fun v136 => Res.ok v136.2).bind fun v137 => Res.ok (decide (v137 = a131))) else Res.ok false).bind fun v154 => if v154 then ((((((idx b132 (-(1 : Int))).bind fun v147 => Res.ok v147.1).bind fun v148 => Res.ok (v148, (a131 + (1 : Int)))).bind fun v149 => Res.ok (v149, b132)).bind fun u151 => setR u151.2 (-(1 : Int)) u151.1).bind fun xs152 => Res.ok xs152) else ((need (List.length b132 < sizeLine) (Res.ok (b132 ++ [(a131, (a131 + (1 : Int)))]))).bind fun pairs_153 => Res.ok pairs_153)).bind fun b146 => Res.ok b146)
theorem fP_ok (u : Int) (acc : Ps) (h : acc.length < 100000) (he : ∀ q ∈ acc, q.2 ≤ u) : fP u acc = .ok (ST.mgStep acc (u, u + 1)) := by
  have hs := sl_ge
  unfold fP
  rw [need_nil, Res.bind_ok, need_ok ⟨shp_ps _, shp_ints _⟩, Res.bind_ok, eqD_nilX]
  rcases List.eq_nil_or_concat acc with e | ⟨a, l, e⟩
  · subst e
    rw [if_neg (by decide), Res.bind_ok, if_neg (by decide), need_ok (by show 0 < sizeLine; omega)]
    rfl
  · rw [List.concat_eq_append] at e
    subst e
    have hl := he l (List.mem_append_right _ List.mem_cons_self)
    rw [ne_snoc, if_pos (by decide), idx_last, Res.bind_ok, Res.bind_ok, Res.bind_ok, ST.mgStep_snoc]
    by_cases q : l.2 = u
    · rw [if_pos (by simpa using q), Res.bind_ok, Res.bind_ok, Res.bind_ok, Res.bind_ok, setR_last, Res.bind_ok, Res.bind_ok, if_pos (by show u ≤ l.2; omega)]
      rw [show max ((u, u + 1) : Int × Int).2 l.2 = u + 1 by show max (u + 1) l.2 = u + 1; omega]
    · rw [if_neg (by simpa using q), need_ok (by omega), if_neg (by show ¬ u ≤ l.2; omega)]
      rfl
theorem mg_ends {acc : Ps} {x s y : Int} (h0 : 0 < s) (hy : x + s ≤ y) (he : ∀ q ∈ acc, q.2 ≤ x) : ∀ q ∈ ST.mgStep acc (x, x + s), q.2 ≤ y := by
  intro q hq
  rcases List.eq_nil_or_concat acc with e | ⟨a, l, e⟩
  · subst e
    rw [ST.mgStep_nil] at hq
    rw [List.mem_singleton.mp hq]
    exact hy
  · rw [List.concat_eq_append] at e
    subst e
    rw [ST.mgStep_snoc] at hq
    have hl := he l (List.mem_append_right _ List.mem_cons_self)
    split at hq
    · rcases List.mem_append.mp hq with z | z
      · have := he q (List.mem_append_left _ z); omega
      · rw [List.mem_singleton.mp z]
        show max (x + s) l.2 ≤ y; omega
    · rcases List.mem_append.mp hq with z | z
      · have := he q z; omega
      · rw [List.mem_singleton.mp z]
        exact hy

theorem foldP_ok : ∀ (xs : List Int) (acc : Ps), acc.length + xs.length ≤ 100000 → xs.Pairwise (· < ·) → (∀ q ∈ acc, ∀ u ∈ xs, q.2 ≤ u) → foldR fP xs acc = .ok ((sc xs).foldl ST.mgStep acc)
  | [], acc, _, _, _ => rfl
  | u :: xs, acc, h, hs, he => by
    rw [List.length_cons] at h
    rw [List.pairwise_cons] at hs
    show (fP u acc).bind _ = _
    have h1 : ∀ q ∈ acc, q.2 ≤ u := fun q hq => he q hq u List.mem_cons_self
    rw [fP_ok u acc (by omega) h1, Res.bind_ok, foldP_ok xs _ (by have := mgStep_len acc (u, u + 1); omega) hs.2 ?_]
    · rfl
    · intro q hq v hv
      exact mg_ends (by decide) (by have := hs.1 v hv; omega) h1 q hq
theorem set_need {ps : List Int} (hl : ps.length ≤ 1000) {α : Type} {m : Res α} : need (List.length ps + 1 < 4096) m = m := need_ok (by omega)
theorem pairs_ok {ps : List Int} (hl : ps.length ≤ 1000) : m_law_pairs ⟨ps, ()⟩ = .ok ⟨PL (sset ps)⟩ := by
  have e : m_law_pairs ⟨ps, ()⟩ = (need (List.length ([] : List (Int × Int)) ≤ sizeLine) (Res.ok ([] : List (Int × Int)))).bind fun p => (((need (List.length ps + 1 < 4096) (Res.ok (sset ps))).bind fun v130 => Res.ok v130).bind fun v => foldR fP v p).bind fun b => Res.ok (Tp.mk b) := rfl
  have := sset_len ps
  rw [e, need_nil, Res.bind_ok, set_need hl, Res.bind_ok, Res.bind_ok, foldP_ok (sset ps) [] (by simp; omega) (sset_lt ps) fun q hq => (List.not_mem_nil hq).elim, Res.bind_ok]
  rfl
/-! _law_is -/
theorem isT_tps (b : Tp (Int × Int)) : isT "tuple" (Ty.tyN b) = .ok true := by show isT "tuple" "tuple" = _; unfold isT; rw [show kitB "tuple" "tuple" = some true by decide +kernel]
theorem isT_pr (p : Int × Int) : isT "tuple" (Ty.tyN p) = .ok true := by show isT "tuple" "tuple" = _; unfold isT; rw [show kitB "tuple" "tuple" = some true by decide +kernel]
theorem isT_ib (x : Int) : isT "bool" (Ty.tyN x) = .ok false := by show isT "bool" "int" = _; unfold isT; rw [show kitB "int" "bool" = some false by decide +kernel]
theorem isT_ii (x : Int) : isT "int" (Ty.tyN x) = .ok true := by show isT "int" "int" = _; unfold isT; rw [show kitB "int" "int" = some true by decide +kernel]

noncomputable def fI : Int × Int → Unit → Res (Sum Unit Bool) := (fun (a157 : (Int × Int)) (b158 : Unit) => (((isT "tuple" (Ty.tyN a157)).bind fun v161 => Res.ok (!v161)).bind fun v166 => if v166 then Res.ok true else ((need (List.length (Lk.its a157) ≤ sizeLine) (filtR (fun (a162 : Int) => Res.quiet (Res.ok true)) (fun (a162 : Int) => Res.quiet (isT "bool" (Ty.tyN a162))) (Lk.its a157))).bind fun v165 => Res.ok (decide (true ∈ (Lk.its v165 : List Bool))))).bind fun v167 => if v167 then ((Res.ok false).bind fun d => Res.ok (Sum.inr d)) else (Res.ok (Sum.inl ())))
theorem fI_ok (p : Int × Int) : fI p () = .ok (.inl ()) := by
  have hs := sl_ge
  unfold fI
  rw [isT_pr, Res.bind_ok, Res.bind_ok, if_neg (by decide), need_ok (by show 2 ≤ sizeLine; omega), filtQ_ok (g := fun _ => false) fun a _ => isT_ib a]
  rfl
theorem foldI : ∀ ps : Ps, foldM fI ps () = .ok (.inl ())
  | [] => rfl
  | p :: ps => by
    show (fI p ()).bind _ = _
    rw [fI_ok, Res.bind_ok]
    exact foldI ps
theorem total_ok {ps : Ps} (hl : ps.length ≤ 1000) : m_Stretches_total ⟨SO ps, ()⟩ = .ok (List.sum (ps.map fun p => p.2 - p.1)) := by
  have hs := sl_ge
  unfold m_Stretches_total
  dsimp only
  rw [need_ok (by show ps.length ≤ _; omega), filtQ_ok (g := fun p : Int × Int => p.2 - p.1) fun p _ => rfl]
  rfl
theorem sum_step {acc : Ps} {x s : Int} (h0 : 0 < s) (he : ∀ q ∈ acc, q.2 ≤ x) : List.sum ((ST.mgStep acc (x, x + s)).map fun p => p.2 - p.1) = List.sum (acc.map fun p => p.2 - p.1) + s := by
  rcases List.eq_nil_or_concat acc with e | ⟨a, l, e⟩
  · subst e
    rw [ST.mgStep_nil]
    simp
    omega
  · rw [List.concat_eq_append] at e
    subst e
    have hl := he l (List.mem_append_right _ List.mem_cons_self)
    rw [ST.mgStep_snoc]
    split
    · rename_i hq
      have hq : x ≤ l.2 := hq
      simp
      omega
    · simp
      omega
theorem catR_ok {α β : Type} {f : α → Res (List β)} {k : α → List β} : ∀ {as : List α}, (∀ a ∈ as, f a = .ok (k a)) → catR f as = .ok (as.flatMap k)
  | [], _ => rfl
  | a :: as, h => by
    show (f a).bind _ = _
    rw [h a List.mem_cons_self, Res.bind_ok, catR_ok fun b hb => h b (List.mem_cons_of_mem _ hb), Res.bind_ok]
    rfl
theorem flat_one : ∀ bs : List Int, bs.flatMap (fun i => [i]) = bs
  | [] => rfl
  | b :: bs => by
    show [b] ++ bs.flatMap (fun i => [i]) = _
    rw [flat_one bs]; rfl
def fl (ps : Ps) : List Int := ps.flatMap fun p => irange p.1 p.2
theorem each_ok {ps : Ps} (h : ∀ p ∈ ps, Rg62 p.1 ∧ Rg62 p.2) : m_Stretches_each_place ⟨SO ps, ()⟩ = .ok (fl ps) := by
  have e : m_Stretches_each_place ⟨SO ps, ()⟩ = catR (fun (p : Int × Int) => ((Res.ok p.1).bind fun lo => (Res.ok p.2).bind fun hi => need (Rg62 lo ∧ Rg62 hi) (Res.ok (irange lo hi))).bind fun bs => catR (fun (i : Int) => (Res.ok i).bind fun n => Res.ok [n]) bs) ps := rfl
  rw [e]
  refine catR_ok fun p hp => ?_
  rw [Res.bind_ok, Res.bind_ok, need_ok (h p hp), Res.bind_ok]
  exact (catR_ok (k := fun i => [i]) fun i _ => rfl).trans (by rw [flat_one])
theorem ir_app {a b c : Int} (h1 : a ≤ b) (h2 : b ≤ c) : irange a b ++ irange b c = irange a c := by
  obtain ⟨m, rfl⟩ := Int.le.dest h1
  obtain ⟨n, rfl⟩ := Int.le.dest h2
  unfold irange
  rw [show (a + (m : Int) - a).toNat = m by omega, show (a + (m : Int) + (n : Int) - (a + (m : Int))).toNat = n by omega, show (a + (m : Int) + (n : Int) - a).toNat = m + n by omega, List.range_add, List.map_append, List.map_map]
  congr 1
  apply List.map_congr_left
  intro i _
  show a + (m : Int) + (i : Int) = a + ((m + i : Nat) : Int)
  omega
theorem fl_app (a b : Ps) : fl (a ++ b) = fl a ++ fl b := by unfold fl; rw [List.flatMap_append]
theorem fl_one (p : Int × Int) : fl [p] = irange p.1 p.2 := by unfold fl; simp
theorem mg_wide {acc : Ps} {x s : Int} (h0 : 0 < s) (hw : ∀ q ∈ acc, q.1 ≤ q.2) : ∀ q ∈ ST.mgStep acc (x, x + s), q.1 ≤ q.2 := by
  intro q hq
  rcases List.eq_nil_or_concat acc with e | ⟨a, l, e⟩
  · subst e
    rw [ST.mgStep_nil] at hq
    rw [List.mem_singleton.mp hq]
    show x ≤ x + s; omega
  · rw [List.concat_eq_append] at e
    subst e
    rw [ST.mgStep_snoc] at hq
    have hl := hw l (List.mem_append_right _ List.mem_cons_self)
    split at hq
    · rcases List.mem_append.mp hq with z | z
      · exact hw q (List.mem_append_left _ z)
      · rw [List.mem_singleton.mp z]
        show l.1 ≤ max (x + s) l.2; omega
    · rcases List.mem_append.mp hq with z | z
      · exact hw q z
      · rw [List.mem_singleton.mp z]
        show x ≤ x + s; omega
theorem fl_step {acc : Ps} {x s : Int} (h0 : 0 < s) (he : ∀ q ∈ acc, q.2 ≤ x) (hw : ∀ q ∈ acc, q.1 ≤ q.2) : fl (ST.mgStep acc (x, x + s)) = fl acc ++ irange x (x + s) := by
  rcases List.eq_nil_or_concat acc with e | ⟨a, l, e⟩
  · subst e
    rw [ST.mgStep_nil, fl_one]
    rfl
  · rw [List.concat_eq_append] at e
    subst e
    have hl := he l (List.mem_append_right _ List.mem_cons_self)
    have hl2 := hw l (List.mem_append_right _ List.mem_cons_self)
    rw [ST.mgStep_snoc]
    split
    · rename_i hq
      have hq : x ≤ l.2 := hq
      have el : l.2 = x := by omega
      rw [fl_app, fl_app, fl_one, fl_one, List.append_assoc, show max ((x, x + s) : Int × Int).2 l.2 = x + s by show max (x + s) l.2 = x + s; omega]
      dsimp only
      rw [el, ir_app (by omega) (by omega)]
    · rw [fl_app, fl_one]

theorem fl_fold : ∀ (xs : List Int) (acc : Ps), xs.Pairwise (· < ·) → (∀ q ∈ acc, ∀ u ∈ xs, q.2 ≤ u) → (∀ q ∈ acc, q.1 ≤ q.2) → fl ((sc xs).foldl ST.mgStep acc) = fl acc ++ xs
  | [], acc, _, _, _ => by simp [sc]
  | u :: xs, acc, hs, he, hw => by
    rw [List.pairwise_cons] at hs
    have h1 : ∀ q ∈ acc, q.2 ≤ u := fun q hq => he q hq u List.mem_cons_self
    show fl ((sc xs).foldl ST.mgStep (ST.mgStep acc (u, u + 1))) = _
    have e1 : irange u (u + 1) = [u] := by
      unfold irange
      rw [show (u + 1 - u).toNat = 1 by omega]
      simp
    rw [fl_fold xs _ hs.2 (fun q hq v hv => mg_ends (by decide) (by have := hs.1 v hv; omega) h1 q hq) (mg_wide (by decide) hw), fl_step (by decide) h1 hw, List.append_assoc, e1]
    rfl
theorem PL_fl {xs : List Int} (hx : Ax xs) : fl (PL xs) = xs := (fl_fold xs [] hx.asc (fun q hq => (List.not_mem_nil hq).elim) fun q hq => (List.not_mem_nil hq).elim)
theorem PL_r62 {xs : List Int} (hx : Ax xs) : ∀ p ∈ PL xs, Rg62 p.1 ∧ Rg62 p.2 := fun p hp => by
  obtain ⟨c, m⟩ := PL_ok hx
  have h1 := ST.can_pairs c p hp
  have h2 := hx.rg _ ((m (p.2 - 1)).mp ⟨p, hp, by omega, by omega⟩)
  unfold Rg62
  omega
theorem places_ok {xs : List Int} (hx : Ax xs) : m_Stretches_each_place ⟨SO (PL xs), ()⟩ = .ok xs := (each_ok (PL_r62 hx)).trans (by rw [PL_fl hx])
theorem sum_fold : ∀ (xs : List Int) (acc : Ps), xs.Pairwise (· < ·) → (∀ q ∈ acc, ∀ u ∈ xs, q.2 ≤ u) → List.sum (((sc xs).foldl ST.mgStep acc).map fun p => p.2 - p.1) = List.sum (acc.map fun p => p.2 - p.1) + xs.length
  | [], acc, _, _ => by simp [sc]
  | u :: xs, acc, hs, he => by
    rw [List.pairwise_cons] at hs
    have h1 : ∀ q ∈ acc, q.2 ≤ u := fun q hq => he q hq u List.mem_cons_self
    show List.sum (((sc xs).foldl ST.mgStep (ST.mgStep acc (u, u + 1))).map fun p => p.2 - p.1) = _
    rw [sum_fold xs _ hs.2 fun q hq v hv => mg_ends (by decide) (by have := hs.1 v hv; omega) h1 q hq, sum_step (by decide) h1, List.length_cons, Int.natCast_add]
    omega
theorem PL_sum {xs : List Int} (hx : Ax xs) : List.sum ((PL xs).map fun p => p.2 - p.1) = xs.length := by
  have := sum_fold xs [] hx.asc fun q hq => (List.not_mem_nil hq).elim
  unfold PL ST.mg
  rw [this]
  simp
theorem goOn_inl {B D' : Type} (b : B) (f : B → Res D') : goOn (Res.ok (Sum.inl b)) f = f b := rfl
theorem iter_ok (ps : Ps) : (m_Stretches___iter ⟨SO ps, ()⟩).quiet = .ok (Tp.mk ps) := rfl
theorem is_ok {xs ps : List Int} (hx : Ax xs) (hl : ps.length ≤ 1000) (he : sset ps = xs) : m_law_is ⟨SO (PL xs), ps, ()⟩ = .ok true := by
  have hs := sl_ge
  have hxl := hx.len
  unfold m_law_is
  dsimp only
  rw [show (foldM (fun (a157 : (Int × Int)) (b158 : Unit) => (((isT "tuple" (Ty.tyN a157)).bind fun v161 => Res.ok (!v161)).bind fun v166 => if v166 then Res.ok true else ((need (List.length (Lk.its a157) ≤ sizeLine) (filtR (fun (a162 : Int) => Res.quiet (Res.ok true)) (fun (a162 : Int) => Res.quiet (isT "bool" (Ty.tyN a162))) (Lk.its a157))).bind fun v165 => Res.ok (decide (true ∈ (Lk.its v165 : List Bool))))).bind fun v167 => if v167 then ((Res.ok false).bind fun d => Res.ok (Sum.inr d)) else (Res.ok (Sum.inl ()))) (Lk.its (SO (PL xs)).f_pairs) ()) = .ok (.inl ()) from foldI (PL xs)]
  rw [if_neg (by decide), isT_tps, Res.bind_ok, Res.bind_ok, if_neg (by decide)]
  rw [goOn_inl, show (SO (PL xs)).f_pairs = Tp.mk (PL xs) from rfl, pairs_ok hl, Res.bind_ok, he, need_ok ⟨shp_tp _, shp_tp _⟩, eqD_tp, decide_eq_true rfl, Res.bind_ok, if_neg (by decide), iter_ok, Res.bind_ok, Res.bind_ok, Res.bind_ok, Res.bind_ok, need_ok ⟨shp_ps _, shp_ps _⟩, show eqD (Tp.mk (PL xs)).xs (Lk.its (Tp.mk (PL xs))) = true from (eqD_ps _ _).trans (decide_eq_true rfl), Res.bind_ok, if_neg (by decide), places_ok hx, quiet_ok, Res.bind_ok, need_ok (by omega), Res.bind_ok, set_need hl, Res.bind_ok, need_ok ⟨shp_ints _, shp_ints _⟩, eqD_refl, Res.bind_ok, if_neg (by decide), total_ok (PL_len hx), Res.bind_ok, set_need hl, Res.bind_ok, PL_sum hx, decide_eq_true rfl]
end K22

set_option Elab.async false
set_option linter.all false
set_option maxRecDepth 100000
/-! M22b: k22: places led on, there and back. -/
namespace K22
open PySem PySem.Spec PyProof.Rows L2 NF
open NF.Data (toD)
open ST (Ps)
def at_ (ps : List (Option Int)) (i : Int) : Option Int := (ps[i.toNat]?).join
def led (ps : List (Option Int)) (old : List Int) : List Int := old.filterMap (at_ ps)
def Vp (ps : List (Option Int)) : Prop := ∀ v, some v ∈ ps → 0 ≤ v ∧ v < 2 ^ 40
theorem idx_at {ps : List (Option Int)} {i : Int} (h0 : 0 ≤ i) (h1 : i < ps.length) : idx ps i = .ok (at_ ps i) := by
  obtain ⟨k, rfl⟩ := Int.eq_ofNat_of_zero_le h0
  have hk : k < ps.length := by omega
  rw [idx_nat (List.getElem?_eq_getElem hk)]
  unfold at_
  rw [Int.toNat_natCast, List.getElem?_eq_getElem hk]
  rfl
theorem at_mem {ps : List (Option Int)} {i v : Int} (h : at_ ps i = some v) : some v ∈ ps := by
  unfold at_ at h
  cases e : ps[i.toNat]? with
  | none => rw [e] at h; cases h
  | some o =>
    rw [e] at h
    have h : o = some v := h
    subst h
    exact List.mem_of_getElem? e
theorem led_mem {ps : List (Option Int)} {old : List Int} {v : Int} : v ∈ led ps old ↔ ∃ i ∈ old, at_ ps i = some v := by unfold led; rw [List.mem_filterMap]
theorem led_len (ps : List (Option Int)) (old : List Int) : (led ps old).length ≤ old.length := List.length_filterMap_le _ _
theorem led_v {ps : List (Option Int)} (h : Vp ps) {old : List Int} : ∀ v ∈ led ps old, 0 ≤ v ∧ v < 2 ^ 40 := fun v hv => by
  obtain ⟨i, _, e⟩ := led_mem.mp hv
  exact h v (at_mem e)
noncomputable def fL (ps : List (Option Int)) : Int → List Int → Res (List Int) := (fun (a340 : Int) (b341 : ((List Int))) => (((idx ps a340).bind fun v344 => Res.ok (!IsN.isN v344)).bind fun v352 => if v352 then ((((idx ps a340).bind fun v349 => unO v349).bind fun v350 => need (List.length b341 < sizeLine) (Res.ok (b341 ++ [v350]))).bind fun found_351 => Res.ok found_351) else (Res.ok b341)).bind fun b348 => Res.ok b348)
theorem foldL {ps : List (Option Int)} : ∀ (old acc : List Int), (∀ i ∈ old, 0 ≤ i ∧ i < ps.length) → acc.length + old.length ≤ 100000 → foldR (fL ps) old acc = .ok (acc ++ led ps old)
  | [], acc, _, _ => by show Res.ok acc = _; simp [led]
  | i :: old, acc, h, hl => by
    have hs := sl_ge
    have hi := h i List.mem_cons_self
    rw [List.length_cons] at hl
    have e : fL ps i acc = .ok (acc ++ (at_ ps i).toList) := by
      unfold fL
      rw [idx_at hi.1 hi.2, Res.bind_ok]
      cases at_ ps i with
      | none =>
        rw [Res.bind_ok, if_neg (by decide), Res.bind_ok]
        show Res.ok acc = .ok (acc ++ [])
        rw [List.append_nil]
      | some v =>
        rw [Res.bind_ok, if_pos (show (!IsN.isN (some v)) = true from rfl), Res.bind_ok]
        show (((Res.ok v).bind fun v350 => need (List.length acc < sizeLine) (Res.ok (acc ++ [v350]))).bind fun f => Res.ok f).bind (fun b => Res.ok b) = _
        rw [Res.bind_ok, need_ok (by omega)]
        rfl
    have hk : (at_ ps i).toList.length ≤ 1 := by cases at_ ps i <;> simp
    show (fL ps i acc).bind _ = _
    rw [e, Res.bind_ok, foldL old _ (fun j hj => h j (List.mem_cons_of_mem _ hj)) (by rw [List.length_append]; omega), List.append_assoc]
    congr 2
    unfold led
    rw [List.filterMap_cons]
    cases at_ ps i <;> rfl
theorem led_ok {ps : List (Option Int)} {old : List Int} (h : ∀ i ∈ old, 0 ≤ i ∧ i < ps.length) (hl : old.length ≤ 1000) : m_law_led ⟨ps, old, ()⟩ = .ok (led ps old) := by
  have e : m_law_led ⟨ps, old, ()⟩ = (need (List.length ([] : List Int) ≤ sizeLine) (Res.ok ([] : List Int))).bind fun b => (foldR (fL ps) old b).bind fun b => Res.ok b := rfl
  have e0 : (need (List.length ([] : List Int) ≤ sizeLine) (Res.ok ([] : List Int))) = .ok [] := need_nil
  rw [e, e0, Res.bind_ok, foldL old [] h (by simp; omega)]
  rfl
theorem mapQ_ok {α β : Type} {f : α → Res β} {g : α → β} : ∀ {as : List α}, (∀ a ∈ as, f a = .ok (g a)) → mapR (fun a => Res.quiet (f a)) as = .ok (as.map g)
  | [], _ => rfl
  | a :: as, h => by
    show (Res.quiet (f a)).bind _ = _
    rw [h a List.mem_cons_self, quiet_ok, Res.bind_ok, mapQ_ok fun b hb => h b (List.mem_cons_of_mem _ hb), Res.bind_ok]
    rfl
theorem some_ok (os : List (Option Int)) : filtR (fun (a45 : (Option Int)) => Res.quiet (Res.ok (!IsN.isN a45))) (fun (a45 : (Option Int)) => Res.quiet (unO a45)) os = .ok (os.filterMap id) := by
  rw [filtH_ok (pb := fun o => !IsN.isN o) (g := fun o => o.getD 0) (fun a _ => rfl) fun a _ h => by
    cases a with
    | none => cases h
    | some v => rfl]
  congr 1
  induction os with
  | nil => rfl
  | cons o os ih =>
    rw [List.filter_cons, List.filterMap_cons]
    cases o with
    | none => exact ih
    | some v =>
      show (v : Int) :: _ = v :: _
      rw [ih]
theorem moved_ok {xs : List Int} (hx : Ax xs) (places : Sq (Option Int)) {ps : List (Option Int)} (ep : (Lk.its places : List (Option Int)) = ps) (hr : ∀ i ∈ xs, i < ps.length) (hv : Vp ps) : m_Stretches_moved ⟨SO (PL xs), places, ()⟩ = .ok (SO (PL (sset (led ps xs)))) := by
  have hs := sl_ge
  have hl := hx.len
  unfold m_Stretches_moved
  dsimp only
  rw [places_ok hx, quiet_ok, Res.bind_ok, need_ok (by omega), ep, mapQ_ok (g := at_ ps) fun i hi => idx_at (hx.rg i hi).1 (hr i hi), Res.bind_ok, need_ok (by rw [List.length_map]; omega), some_ok, Res.bind_ok, Res.bind_ok]
  have e : (xs.map (at_ ps)).filterMap id = led ps xs := by unfold led; rw [List.filterMap_map]; rfl
  rw [e]
  exact covering_ok (led_v hv) (Nat.le_trans (led_len ps xs) hl)
theorem ax_led {ps : List (Option Int)} (hv : Vp ps) {xs : List Int} (hl : xs.length ≤ 1000) : Ax (sset (led ps xs)) := ax_sset (led_v hv) (Nat.le_trans (led_len ps xs) hl)
/-! shapes of lists of Optional ints -/
theorem lay_os : ∀ b : List (Option Int), PyData.canLayAll0 (b.map toD) = true ∧ PyData.depthAll (b.map toD) = 0
  | [] => ⟨rfl, rfl⟩
  | o :: b => by
    obtain ⟨h1, h2⟩ := lay_os b
    cases o with
    | none =>
      refine ⟨?_, ?_⟩
      · show (PyData.none.canLay0 && PyData.canLayAll0 (b.map toD)) = true
        rw [h1]; rfl
      · show max PyData.none.depth (PyData.depthAll (b.map toD)) = 0
        rw [h2]; rfl
    | some v =>
      refine ⟨?_, ?_⟩
      · show ((PyData.int v).canLay0 && PyData.canLayAll0 (b.map toD)) = true
        rw [h1]; rfl
      · show max (PyData.int v).depth (PyData.depthAll (b.map toD)) = 0
        rw [h2]; rfl
theorem shp_os (b : List (Option Int)) : shp b = true := by
  obtain ⟨h1, h2⟩ := lay_os b
  show (PyData.canLayAll0 (b.map toD) && decide (PyData.depthAll (b.map toD) + 1 ≤ 64)) = true
  rw [h1, h2]; rfl
theorem eqv_os : ∀ a : List (Option Int), PyData.eqvAll (a.map toD) (a.map toD) = true
  | [] => rfl
  | o :: a => by
    cases o with
    | none =>
      show (PyData.none.eqv PyData.none && PyData.eqvAll (a.map toD) (a.map toD)) = true
      rw [eqv_os a]; rfl
    | some v =>
      show ((v == v) && PyData.eqvAll (a.map toD) (a.map toD)) = true
      rw [eqv_os a]; simp
theorem eqD_os (a : List (Option Int)) : eqD a a = true := eqv_os a
theorem lmoved_ok {xs : List Int} (hx : Ax xs) {ps : List (Option Int)} (hr : ∀ i ∈ xs, i < ps.length) (hv : Vp ps) : m_law_moved ⟨SO (PL xs), ps, xs, ()⟩ = .ok true := by
  have hl := hx.len
  have hll := led_len ps xs
  have a := ax_led hv hl
  have h2 : ∀ i ∈ xs, 0 ≤ i ∧ i < ps.length := fun i hi => ⟨(hx.rg i hi).1, hr i hi⟩
  unfold m_law_moved
  dsimp only
  rw [moved_ok (ps := ps) hx (Sq.l ps) rfl hr hv, Res.bind_ok, need_ok ⟨shp_os _, shp_os _⟩, eqD_os, Res.bind_ok, if_neg (by decide), led_ok h2 hl, Res.bind_ok, Res.bind_ok, Res.bind_ok, is_ok a (by omega) rfl, Res.bind_ok, Res.bind_ok, if_neg (by decide), Res.bind_ok, moved_ok (ps := ps) hx (Sq.t ps) rfl hr hv, Res.bind_ok, Res.bind_ok, Res.bind_ok, Res.bind_ok, is_ok a (by omega) rfl, Res.bind_ok, Res.bind_ok, if_neg (by decide), if_pos rfl, is_ok hx hl (sset_ax hx)]
/-! there and back -/
theorem all_some : ∀ {ps : List (Option Int)}, (ps.filterMap id).length = ps.length → ps = (ps.filterMap id).map some
  | [], _ => rfl
  | none :: ps, h => by
    have := List.length_filterMap_le (id : Option Int → Option Int) ps
    rw [List.filterMap_cons] at h
    simp only [id, List.length_cons] at h
    have h : (ps.filterMap id).length = ps.length + 1 := h
    omega
  | some v :: ps, h => by
    rw [List.filterMap_cons] at h
    simp only [id, List.length_cons] at h
    have h : (ps.filterMap id).length = ps.length := by omega
    rw [List.filterMap_cons]
    show some v :: ps = some v :: (ps.filterMap id).map some
    rw [← all_some h]
theorem index_at {vs : List Int} (hn : vs.Nodup) {i : Nat} {v : Int} (h : vs[i]? = some v) : indexR vs v = .ok (i : Int) := by
  obtain ⟨hi, e⟩ := List.getElem?_eq_some_iff.mp h
  have : vs.findIdx? (· == v) = some i := by
    rw [List.findIdx?_eq_some_iff_getElem]
    refine ⟨hi, by rw [e]; simp, fun j hj hc => ?_⟩
    have hc : vs[j] = v := by simpa using hc
    have := List.pairwise_iff_getElem.mp hn j i (by omega) hi hj
    exact this (hc.trans e.symm)
  unfold indexR
  rw [this]
def invF (vs : List Int) (k : Int) : Int := match indexR vs k with | .ok j => j | _ => 0
theorem back_ok {xs : List Int} (hx : Ax xs) {ps : List (Option Int)} (hr : ∀ i ∈ xs, i < ps.length) (hv : Vp ps) (hp : ps.length ≤ 1000) : m_law_back ⟨SO (PL xs), ps, xs, ()⟩ = .ok true := by
  have hs := sl_ge
  have hl := hx.len
  have hll := led_len ps xs
  unfold m_law_back
  dsimp only
  rw [need_ok (by omega), some_ok, Res.bind_ok, Res.bind_ok, need_ok ⟨by unfold Rg62; omega, by unfold Rg62; omega, by omega⟩, Res.bind_ok, need_ok ⟨shp_ints _, shp_ints _⟩, eqD_ints, Res.bind_ok]
  by_cases hq : srtI (ps.filterMap id) = irange 0 (ps.length : Int)
  · rw [if_neg (by simpa using hq)]
    have hpm : (ps.filterMap id).Perm (irange 0 (ps.length : Int)) := by rw [← hq]; exact (srt_perm _).symm
    have hlen : (ps.filterMap id).length = ps.length := by rw [hpm.length_eq, irange_len]; omega
    have hall : List.all ps Option.isSome = true := by
      rw [all_some hlen, List.all_map, List.all_eq_true]
      intro z _; rfl
    generalize hvs : ps.filterMap id = vs at *
    have eps : ps = vs.map some := by rw [← hvs]; exact all_some (by rw [hvs]; exact hlen)
    have hnd : vs.Nodup := hpm.nodup_iff.mpr ((ir_asc 0 _).imp fun {a b} h => by omega)
    have hmem : ∀ k, k ∈ vs ↔ 0 ≤ k ∧ k < (ps.length : Int) := fun k => hpm.mem_iff.trans mem_ir
    have hat : ∀ i : Int, 0 ≤ i → at_ ps i = vs[i.toNat]? := fun i h0 => by
      unfold at_
      rw [eps, List.getElem?_map]
      cases vs[i.toNat]? <;> rfl
    -- the inverse
    have hinv : ∀ k ∈ vs, ∃ j : Nat, j < vs.length ∧ vs[j]? = some k ∧ indexR vs k = .ok (j : Int) := fun k hk => by
      obtain ⟨j, hj, e⟩ := List.getElem_of_mem hk
      have e2 : vs[j]? = some k := List.getElem?_eq_some_iff.mpr ⟨hj, e⟩
      exact ⟨j, hj, e2, index_at hnd e2⟩
    obtain ⟨inv, hinv2⟩ : ∃ inv : Int → Int, ∀ k ∈ vs, indexR vs k = .ok (inv k) ∧ 0 ≤ inv k ∧ inv k < ps.length ∧ vs[(inv k).toNat]? = some k := by
      refine ⟨invF vs, fun k hk => ?_⟩
      obtain ⟨j, hj, e1, e2⟩ := hinv k hk
      have e3 : invF vs k = (j : Int) := by unfold invF; rw [e2]
      rw [e2, e3]
      exact ⟨rfl, by omega, by omega, by rw [Int.toNat_natCast]; exact e1⟩
    have hml : (irange 0 (ps.length : Int)).length = ps.length := by rw [irange_len]; omega
    rw [hq, need_ok (by rw [hml]; omega), filtQ_ok (g := inv) fun k hk => by rw [need_ok hall, Res.bind_ok]; exact (hinv2 k ((hmem k).mpr (mem_ir.mp hk))).1]
    rw [Res.bind_ok]
    generalize hI : (List.map inv (irange 0 (ps.length : Int))).map some = I
    have hIl : I.length = ps.length := by rw [← hI, List.length_map, List.length_map, hml]
    have hIat : ∀ k, k ∈ vs → at_ I k = some (inv k) := fun k hk => by
      have h := (hmem k).mp hk
      unfold at_
      rw [← hI, List.getElem?_map, List.getElem?_map]
      have : (irange 0 (ps.length : Int))[k.toNat]? = some k := by
        unfold irange
        rw [List.getElem?_map, List.getElem?_range (by omega)]
        show some ((0 : Int) + (k.toNat : Int)) = some k
        congr 1; omega
      rw [this]; rfl
    have hvI : Vp I := fun v hv => by
      rw [← hI, List.map_map] at hv
      obtain ⟨k, hk, e⟩ := List.mem_map.mp hv
      have e : some (inv k) = some v := e
      cases e
      have := hinv2 k ((hmem k).mpr (mem_ir.mp hk))
      omega
    have ay := ax_led hv (xs := xs) hl
    have hy : ∀ k, k ∈ sset (led ps xs) ↔ ∃ i ∈ xs, vs[i.toNat]? = some k := fun k => by
      rw [mem_sset, led_mem]
      exact ⟨fun ⟨i, hi, e⟩ => ⟨i, hi, by rw [← hat i (hx.rg i hi).1]; exact e⟩, fun ⟨i, hi, e⟩ => ⟨i, hi, by rw [hat i (hx.rg i hi).1]; exact e⟩⟩
    have hyv : ∀ k ∈ sset (led ps xs), k ∈ vs := fun k hk => by
      obtain ⟨i, _, e⟩ := (hy k).mp hk
      exact List.mem_of_getElem? e
    have hb : sset (led I (sset (led ps xs))) = xs := sset_eq hx fun u => by
      rw [led_mem]
      constructor
      · rintro ⟨k, hk, e⟩
        have hkv := hyv k hk
        rw [hIat k hkv] at e
        cases e
        obtain ⟨i, hi, e2⟩ := (hy k).mp hk
        have h1 := index_at hnd e2
        rw [(hinv2 k hkv).1] at h1
        have h1 : inv k = (i.toNat : Int) := by injection h1
        have := (hx.rg i hi).1
        rw [h1, show ((i.toNat : Nat) : Int) = i by omega]
        exact hi
      · intro hu
        have h0 := (hx.rg u hu).1
        have h1 := hr u hu
        have hlt : u.toNat < vs.length := by omega
        have e2 : vs[u.toNat]? = some vs[u.toNat] := List.getElem?_eq_getElem hlt
        have hkv : vs[u.toNat] ∈ vs := List.getElem_mem hlt
        refine ⟨vs[u.toNat], (hy _).mpr ⟨u, hu, e2⟩, ?_⟩
        rw [hIat _ hkv]
        have h3 := index_at hnd e2
        rw [(hinv2 _ hkv).1] at h3
        have h3 : inv vs[u.toNat] = (u.toNat : Int) := by injection h3
        rw [h3]
        congr 1; omega
    rw [moved_ok (ps := ps) hx (Sq.l ps) rfl hr hv, Res.bind_ok, Res.bind_ok, moved_ok (ps := I) ay (Sq.l I) rfl (fun k hk => by
      have := (hmem k).mp (hyv k hk)
      rw [hIl]; exact this.2) hvI, Res.bind_ok, Res.bind_ok, hb, is_ok hx hl (sset_ax hx)]
  · rw [if_pos (by simpa using hq)]
end K22

set_option Elab.async false
set_option linter.all false
set_option maxRecDepth 100000
/-! M22c: k22: what is drawn. -/
namespace K22
open PySem PySem.Spec PyProof.Rows L2 NF
open NF.Data (toD)
open ST (Ps)
theorem idx_in {α : Type} {xs : List α} {d : Int} (h0 : 0 ≤ d) (h1 : d < xs.length) : ∃ a, idx xs d = .ok a ∧ a ∈ xs := by
  obtain ⟨k, rfl⟩ := Int.eq_ofNat_of_zero_le h0
  have hk : k < xs.length := by omega
  exact ⟨xs[k], idx_nat (List.getElem?_eq_getElem hk), List.getElem_mem hk⟩
theorem setN {xs : List Int} {k : Nat} (y : Int) (h : k < xs.length) : setR xs (k : Int) y = .ok (xs.set k y) := by
  unfold setR
  rw [show ixN xs.length (k : Int) = some k by
    unfold ixN
    rw [if_pos (by omega), if_pos (by omega)]
    congr 1]
/-- a pool: what is left, how often, where next -/
def Pl (p : List Int) : Prop := ∃ (a b : Int) (c : Nat) (r : List Int), p = a :: b :: (c : Int) :: r
section
variable (a b c y : Int) (r : List Int)
theorem ix0 : idx (a :: b :: c :: r) (0 : Int) = .ok a := idx_nat (k := 0) rfl
theorem ix1 : idx (a :: b :: c :: r) (1 : Int) = .ok b := idx_nat (k := 1) rfl
theorem ix2 : idx (a :: b :: c :: r) (2 : Int) = .ok c := idx_nat (k := 2) rfl
theorem st0 : setR (a :: b :: c :: r) (0 : Int) y = .ok (y :: b :: c :: r) := setN (k := 0) y (by simp)
theorem st1 : setR (a :: b :: c :: r) (1 : Int) y = .ok (a :: y :: c :: r) := setN (k := 1) y (by simp)
theorem st2 : setR (a :: b :: c :: r) (2 : Int) y = .ok (a :: b :: y :: r) := setN (k := 2) y (by simp)
end
theorem draw_ok {p : List Int} (hp : Pl p) {m : Int} (h0 : 0 < m) (h1 : m < 2 ^ 40) : ∃ d p', m_law_draw p ⟨m, ()⟩ = .ok (d, p') ∧ 0 ≤ d ∧ d < m ∧ Pl p' := by
  have hw : ∀ x, CDivW x m := fun x => wide_div (b := 40) h0 (by omega) (by decide) (by decide)
  have fin : ∀ q : List Int, Pl q → ∃ d p', ((((idx q (0 : Int)).bind fun v181 => Res.ok v181).bind fun v182 => need (0 < m) (Res.ok (v182 % m))).bind fun drawn_183 => (((((idx q (0 : Int)).bind fun v184 => Res.ok v184).bind fun v185 => need (CDivW v185 m) (Res.ok (v185 / m))).bind fun v186 => Res.ok (v186, q)).bind fun u188 => setR u188.2 (0 : Int) u188.1).bind fun xs189 => ((((idx xs189 (1 : Int)).bind fun v190 => Res.ok (v190 + (1 : Int))).bind fun v191 => Res.ok (v191, xs189)).bind fun u193 => setR u193.2 (1 : Int) u193.1).bind fun xs194 => Res.ok (drawn_183, xs194)) = .ok (d, p') ∧ 0 ≤ d ∧ d < m ∧ Pl p' := fun q hq => by
    obtain ⟨a, b, c, r, rfl⟩ := hq
    refine ⟨a % m, (a / m) :: (b + 1) :: (c : Int) :: r, ?_, Int.emod_nonneg _ (by omega), Int.emod_lt_of_pos _ h0, ⟨_, _, c, r, rfl⟩⟩
    rw [ix0, Res.bind_ok, Res.bind_ok, need_ok h0, Res.bind_ok, Res.bind_ok, need_ok (hw a), Res.bind_ok, Res.bind_ok, st0, Res.bind_ok, ix1, Res.bind_ok, Res.bind_ok, Res.bind_ok, st1, Res.bind_ok]
  obtain ⟨a, b, c, r, rfl⟩ := hp
  unfold m_law_draw
  dsimp only
  have e1 : (((idx (a :: b :: (c : Int) :: r) (0 : Int)).bind fun v122 => Res.ok (decide (v122 = (0 : Int)))).bind fun v124 => if v124 then Res.ok true else ((idx (a :: b :: (c : Int) :: r) (1 : Int)).bind fun v123 => Res.ok (decide (v123 = (60 : Int))))) = .ok (decide (a = 0 ∨ b = 60)) := by
    rw [ix0, Res.bind_ok, Res.bind_ok]
    by_cases z : a = 0
    · rw [if_pos (by simpa using z), decide_eq_true (Or.inl z)]
    · rw [if_neg (by simpa using z), ix1, Res.bind_ok]
      congr 1
      exact decide_eq_decide.mpr ⟨.inr, fun w => w.elim (fun w => (z w).elim) id⟩
  rw [e1, Res.bind_ok]
  by_cases z : a = 0 ∨ b = 60
  · rw [if_pos (by simpa using z), st0, Res.bind_ok, st1, Res.bind_ok, ix2, Res.bind_ok, Res.bind_ok]
    by_cases hc : (c : Int) < ((0 :: 0 :: (c : Int) :: r : List Int).length : Int)
    · obtain ⟨v, ev, _⟩ := idx_in (xs := (0 :: 0 :: (c : Int) :: r : List Int)) (d := (c : Int)) (by omega) hc
      rw [if_pos (decide_eq_true hc), Res.bind_ok, ev, Res.bind_ok, Res.bind_ok, st0, Res.bind_ok, ix2, Res.bind_ok, Res.bind_ok, Res.bind_ok, st2, Res.bind_ok, Res.bind_ok, Res.bind_ok]
      exact fin _ ⟨v, 0, c + 1, r, by congr 3⟩
    · rw [if_neg (by simpa using hc), Res.bind_ok, Res.bind_ok]
      exact fin _ ⟨0, 0, c, r, rfl⟩
  · rw [if_neg (by simpa using z), Res.bind_ok]
    exact fin _ ⟨a, b, c, r, rfl⟩
theorem cells_ok {ns : List Int} (hl : ns.length ≤ 1000) : ∃ p, m_law_cells ⟨ns, ()⟩ = .ok p ∧ Pl p := by
  have hs := sl_ge
  unfold m_law_cells
  dsimp only
  rw [need_ok (by show 3 ≤ sizeLine; omega), Res.bind_ok, need_ok (by omega), filtQ_ok (g := fun a : Int => if a < 0 then -a else a) fun a _ => rfl, Res.bind_ok, need_ok (by rw [List.length_map]; show 3 + ns.length ≤ sizeLine; omega)]
  exact ⟨_, rfl, 0, 0, 3, _, rfl⟩

/-! the pairs -/
def Pr (many : Int) (p : Int × Int) : Prop := 0 ≤ p.1 ∧ p.1 < p.2 ∧ p.2 ≤ many
noncomputable def fA (many : Int) : Int → List Int × Ps → Res (List Int × Ps) := (fun (a410 : Int) (b411 : ((List Int) × (List (Int × Int)))) => (if (decide ((0 : Int) < many)) then ((((((need (CMul (5 : Int) a410) (Res.ok ((5 : Int) * a410))).bind fun v442 => Res.ok (v442, b411.1)).bind fun u444 => (m_law_draw u444.2 (Ar.mk many ())).bind fun u445 => Res.ok ((u444.1 + u445.1), u445.2)).bind fun u446 => Res.ok (u446.1, u446.2)).bind fun u448 => (need (0 < many) (Res.ok (u448.1 % many))).bind fun v449 => Res.ok (v449, u448.2)).bind fun start_450 => ((((m_law_draw start_450.2 (Ar.mk (many - start_450.1) ())).bind fun u453 => Res.ok (((start_450.1 + (1 : Int)) + u453.1), u453.2)).bind fun u454 => Res.ok ((start_450.1, u454.1), u454.2)).bind fun u455 => need (List.length b411.2 < sizeLine) (Res.ok (b411.2 ++ [u455.1], u455.2))).bind fun w456 => Res.ok (w456.2, w456.1)) else (Res.ok (b411.1, b411.2))).bind fun b435 => Res.ok (b435.1, b435.2))
theorem fA_ok {many k : Int} {p : List Int} {ps : Ps} (h0 : 0 ≤ many) (h1 : many < 31) (hp : Pl p) (hl : ps.length < 1000) : ∃ p' qs, fA many k (p, ps) = .ok (p', ps ++ qs) ∧ Pl p' ∧ qs.length ≤ 1 ∧ ∀ q ∈ qs, Pr many q := by
  have hs := sl_ge
  unfold fA
  by_cases hm : 0 < many
  · obtain ⟨d, p1, e1, d0, d1, hp1⟩ := draw_ok hp (m := many) hm (by omega)
    have s0 := Int.emod_nonneg (5 * k + d) (show many ≠ 0 by omega)
    have s1 := Int.emod_lt_of_pos (5 * k + d) hm
    obtain ⟨e, p2, e2, f0, f1, hp2⟩ := draw_ok hp1 (m := many - (5 * k + d) % many) (by omega) (by omega)
    refine ⟨p2, [((5 * k + d) % many, (5 * k + d) % many + 1 + e)], ?_, hp2, Nat.le_refl _, fun q hq => by
      rw [List.mem_singleton.mp hq]
      unfold Pr
      dsimp only
      omega⟩
    rw [if_pos (decide_eq_true hm), need_ok (by unfold CMul; omega), Res.bind_ok, Res.bind_ok, e1, Res.bind_ok, Res.bind_ok, Res.bind_ok, need_ok hm, Res.bind_ok, Res.bind_ok, e2, Res.bind_ok, Res.bind_ok, Res.bind_ok, need_ok (by show ps.length < sizeLine; omega), Res.bind_ok, Res.bind_ok]
  · refine ⟨p, [], ?_, hp, Nat.zero_le _, fun q hq => (List.not_mem_nil hq).elim⟩
    rw [if_neg (by simpa using hm), Res.bind_ok, List.append_nil]
theorem foldA {many : Int} (h0 : 0 ≤ many) (h1 : many < 31) : ∀ (ks : List Int) (p : List Int) (ps : Ps), Pl p → ps.length + ks.length ≤ 1000 → (∀ q ∈ ps, Pr many q) → ∃ p' qs, foldR (fA many) ks (p, ps) = .ok (p', qs) ∧ Pl p' ∧ qs.length ≤ ps.length + ks.length ∧ ∀ q ∈ qs, Pr many q
  | [], p, ps, hp, hl, h => ⟨p, ps, rfl, hp, Nat.le_refl _, h⟩
  | k :: ks, p, ps, hp, hl, h => by
    rw [List.length_cons] at hl
    obtain ⟨p', qs, e, hp', hq, h'⟩ := fA_ok (k := k) h0 h1 hp (ps := ps) (by omega)
    obtain ⟨p2, rs, e2, hp2, hr, h2⟩ := foldA h0 h1 ks p' (ps ++ qs) hp' (by rw [List.length_append]; omega) (fun q z => (List.mem_append.mp z).elim (h q) (h' q))
    refine ⟨p2, rs, ?_, hp2, by rw [List.length_append] at hr; rw [List.length_cons]; omega, h2⟩
    show (fA many k (p, ps)).bind _ = _
    rw [e, Res.bind_ok]
    exact e2
def cov (many : Int) (ps : Ps) : List Int := (irange 0 many).filter fun u => !List.isEmpty (ps.filter fun p => decide (p.1 ≤ u) && decide (u < p.2))
noncomputable def fV (ps : Ps) : Int → List Int → Res (List Int) := (fun (a461 : Int) (b462 : ((List Int))) => (((need (List.length ps ≤ sizeLine) (filtR (fun (a465 : (Int × Int)) => Res.quiet (if (decide (a465.1 ≤ a461)) then (Res.ok (decide (a461 < a465.2))) else Res.ok false)) (fun (a465 : (Int × Int)) => Res.quiet (Res.ok a465)) ps)).bind fun v468 => (need (List.length ([] : List Int) ≤ sizeLine) (Res.ok ([] : List Int))).bind fun v469 => need (shp v468 = true ∧ shp v469 = true) (Res.ok (!eqD v468 v469))).bind fun v473 => if v473 then ((need (List.length b462 < sizeLine) (Res.ok (b462 ++ [a461]))).bind fun old_472 => Res.ok old_472) else (Res.ok b462)).bind fun b471 => Res.ok b471)
theorem foldV {ps : Ps} (hl : ps.length ≤ 1000) : ∀ (us acc : List Int), acc.length + us.length ≤ 1000 → foldR (fV ps) us acc = .ok (acc ++ us.filter fun u => !List.isEmpty (ps.filter fun p => decide (p.1 ≤ u) && decide (u < p.2)))
  | [], acc, _ => by
    show Res.ok acc = _
    simp
  | u :: us, acc, h => by
    have hs := sl_ge
    rw [List.length_cons] at h
    have ek : filtR (fun (a465 : (Int × Int)) => Res.quiet (if (decide (a465.1 ≤ u)) then (Res.ok (decide (u < a465.2))) else Res.ok false)) (fun (a465 : (Int × Int)) => Res.quiet (Res.ok a465)) ps = .ok (ps.filter fun p => decide (p.1 ≤ u) && decide (u < p.2)) := by
      have := filtG_ok (p := fun a260 : Int × Int => if (decide (a260.1 ≤ u)) then (Res.ok (decide (u < a260.2))) else Res.ok false) (f := fun a : Int × Int => Res.ok a) (pb := fun p => decide (p.1 ≤ u) && decide (u < p.2)) (g := fun a => a) (as := ps) (fun a _ => by cases decide (a.1 ≤ u) <;> rfl) fun a _ => rfl
      rw [this, List.map_id']
    have e : fV ps u acc = .ok (if (!List.isEmpty (ps.filter fun p => decide (p.1 ≤ u) && decide (u < p.2))) = true then acc ++ [u] else acc) := by
      unfold fV
      rw [need_ok (by omega), ek, Res.bind_ok, need_nil, Res.bind_ok, need_ok ⟨shp_ps _, shp_ints _⟩, Res.bind_ok, eqD_nilX]
      cases (List.isEmpty (ps.filter fun p => decide (p.1 ≤ u) && decide (u < p.2))) with
      | true => rfl
      | false =>
        rw [if_pos (by decide), if_pos (by decide), need_ok (by omega)]
        rfl
    show (fV ps u acc).bind _ = _
    rw [e, Res.bind_ok, List.filter_cons]
    split
    · rw [foldV hl us _ (by simp; omega), List.append_assoc]
      rfl
    · exact foldV hl us _ (by omega)
theorem cov_mem {many : Int} {ps : Ps} (h : ∀ p ∈ ps, Pr many p) (u : Int) : u ∈ cov many ps ↔ ST.mem ps u := by
  unfold cov
  rw [List.mem_filter, mem_ir]
  constructor
  · rintro ⟨_, h2⟩
    cases e : ps.filter fun p => decide (p.1 ≤ u) && decide (u < p.2) with
    | nil => rw [e] at h2; cases h2
    | cons p r =>
      have hp : p ∈ ps.filter fun p => decide (p.1 ≤ u) && decide (u < p.2) := by rw [e]; exact List.mem_cons_self
      rw [List.mem_filter] at hp
      obtain ⟨a, b⟩ := hp
      simp only [Bool.and_eq_true, decide_eq_true_eq] at b
      exact ⟨p, a, b⟩
  · rintro ⟨p, hp, h1, h2⟩
    have q := h p hp
    unfold Pr at q
    refine ⟨by omega, ?_⟩
    have hm : p ∈ ps.filter fun p => decide (p.1 ≤ u) && decide (u < p.2) := List.mem_filter.mpr ⟨hp, by simp [h1, h2]⟩
    cases e : ps.filter fun p => decide (p.1 ≤ u) && decide (u < p.2) with
    | nil => rw [e] at hm; cases hm
    | cons p r => rfl
theorem cov_lt {many : Int} {ps : Ps} : ∀ u ∈ cov many ps, 0 ≤ u ∧ u < many := fun u hu => mem_ir.mp (List.mem_filter.mp hu).1
theorem cov_ax {many : Int} (h1 : many < 31) (ps : Ps) : Ax (cov many ps) := ⟨(ir_asc 0 many).filter _, fun u hu => by have := cov_lt u hu; omega, by
  have := List.length_filter_le (fun u => !List.isEmpty (ps.filter fun p => decide (p.1 ≤ u) && decide (u < p.2))) (irange 0 many)
  rw [irange_len] at this
  exact Nat.le_trans this (by omega)⟩
theorem told_ok {many : Int} (h1 : many < 31) {ps : Ps} (hl : ps.length ≤ 1000) (h : ∀ p ∈ ps, Pr many p) : m_Stretches___init ⟨Sq.l ps, ()⟩ = .ok (SO (PL (cov many ps))) := by
  obtain ⟨a, b⟩ := PL_ok (cov_ax h1 ps)
  exact init_ok (lo := -1) (Sq.l ps) (by show ps.length ≤ _; omega) (fun p hp => by
    have := h p hp
    unfold Pr at this
    omega) a fun x => (b x).trans (cov_mem h x)
/-! orders -/
theorem pop_in {xs : List Int} {d : Int} (h0 : 0 ≤ d) (h1 : d < xs.length) (hl : xs.length ≤ 1000) : ∃ v ys, popAtR xs d = .ok (v, ys) ∧ v ∈ xs ∧ (∀ y ∈ ys, y ∈ xs) ∧ ys.length + 1 = xs.length := by
  obtain ⟨k, rfl⟩ := Int.eq_ofNat_of_zero_le h0
  have hk : k < xs.length := by omega
  refine ⟨xs[k], xs.eraseIdx k, ?_, List.getElem_mem hk, fun y hy => List.mem_of_mem_eraseIdx hy, by rw [List.length_eraseIdx]; rw [if_pos hk]; omega⟩
  unfold popAtR
  rw [show seqIndex? (k : Int) xs.length = some k by
    have e : (if (k : Int) < 0 then (k : Int) + (xs.length : Int) else (k : Int)) = (k : Int) := if_neg (by omega)
    unfold seqIndex?
    simp only [e]
    rw [if_pos (by simpa using hk)]
    congr 1]
  dsimp only
  rw [List.getElem?_eq_getElem hk]
  dsimp only
  rw [need_ok (by unfold Rg63; omega)]
noncomputable def fO : Int → List (Option Int) × List Int × List Int → Res (List (Option Int) × List Int × List Int) := (fun (a188 : Int) (b189 : ((List (Option Int)) × (List Int) × (List Int))) => ((m_law_draw b189.2.2 (Ar.mk (List.length b189.2.1 : Int) ())).bind fun u194 => (popAtR b189.2.1 u194.1).bind fun w192 => need (List.length b189.1 < sizeLine) (Res.ok (u194.2, b189.1 ++ [some w192.1], w192.2))).bind fun z193 => Res.ok (z193.2.1, z193.2.2, z193.1))
theorem foldO : ∀ (ks : List Int) (os : List (Option Int)) (fr p : List Int), Pl p → fr.length = ks.length → os.length + ks.length ≤ 1000 → (∀ v ∈ fr, 0 ≤ v ∧ v < 2 ^ 40) → Vp os →
    ∃ os' fr' p', foldR fO ks (os, fr, p) = .ok (os', fr', p') ∧ Pl p' ∧ os'.length = os.length + ks.length ∧ Vp os'
  | [], os, fr, p, hp, _, _, _, h => ⟨os, fr, p, rfl, hp, rfl, h⟩
  | k :: ks, os, fr, p, hp, hf, hl, hv, h => by
    have hs := sl_ge
    rw [List.length_cons] at hf hl
    obtain ⟨d, p1, e1, d0, d1, hp1⟩ := draw_ok hp (m := (fr.length : Int)) (by omega) (by omega)
    obtain ⟨v, ys, e2, hvm, hys, hyl⟩ := pop_in (xs := fr) d0 (by omega) (by omega)
    obtain ⟨os', fr', p', e3, hp', hl', h'⟩ := foldO ks (os ++ [some v]) ys p1 hp1 (by omega) (by rw [List.length_append, List.length_singleton]; omega) (fun y hy => hv y (hys y hy)) (fun w hw => by
      rcases List.mem_append.mp hw with z | z
      · exact h w z
      · have := List.mem_singleton.mp z
        cases this
        exact hv v hvm)
    refine ⟨os', fr', p', ?_, hp', by rw [hl', List.length_append, List.length_singleton, List.length_cons]; omega, h'⟩
    have e : fO k (os, fr, p) = .ok (os ++ [some v], ys, p1) := by
      unfold fO
      dsimp only
      rw [e1, Res.bind_ok, e2, Res.bind_ok, need_ok (by omega), Res.bind_ok]
    show (fO k (os, fr, p)).bind _ = _
    rw [e, Res.bind_ok]
    exact e3
theorem nil_os : (need (List.length ([] : List (Option Int)) ≤ sizeLine) (Res.ok ([] : List (Option Int)))) = .ok [] := need_nil
theorem ordered_ok {many : Int} (h0 : 0 ≤ many) (h1 : many < 31) {p : List Int} (hp : Pl p) : ∃ os p', m_law_ordered p ⟨many, ()⟩ = .ok (os, p') ∧ Pl p' ∧ os.length = many.toNat ∧ Vp os := by
  have hl : (irange 0 many).length = many.toNat := by rw [irange_len]; congr 1; omega
  obtain ⟨os, fr, p', e, hp', hlen, hv⟩ := foldO (irange 0 many) [] (irange 0 many) p hp rfl (by rw [hl]; simp; omega) (fun v hv => by have := mem_ir.mp hv; omega) (fun v hv => (List.not_mem_nil hv).elim)
  refine ⟨os, p', ?_, hp', by rw [hlen, hl]; simp, hv⟩
  have ee : m_law_ordered p ⟨many, ()⟩ = (need (Rg62 0 ∧ Rg62 many ∧ (many - 0).toNat ≤ 16777216) (Res.ok (irange 0 many))).bind fun free => (need (List.length ([] : List (Option Int)) ≤ sizeLine) (Res.ok ([] : List (Option Int)))).bind fun order => ((need (Rg62 many) (Res.ok (irange 0 many))).bind fun v => foldR fO v (order, free, p)).bind fun b => Res.ok (b.1, b.2.2) := rfl
  rw [ee, need_ok ⟨by unfold Rg62; omega, by unfold Rg62; omega, by omega⟩, Res.bind_ok, nil_os, Res.bind_ok, need_ok (by unfold Rg62; omega), Res.bind_ok, e, Res.bind_ok]
noncomputable def pN : Option Int → List Int → Res (Bool × List Int) := (fun (a198 : (Option Int)) (xs201 : (List Int)) => Res.quiet (Res.ok (true, xs201)))
noncomputable def gN : Option Int → List Int → Res (Option Int × List Int) := (fun (a198 : (Option Int)) (xs201 : (List Int)) => Res.quiet (((need (List.length (a198 :: ((none : Option Int) :: [])) ≤ sizeLine) (Res.ok (a198 :: ((none : Option Int) :: [])))).bind fun v206 => Res.ok (v206, xs201)).bind fun u212 => (((m_law_draw u212.2 (Ar.mk (4 : Int) ())).bind fun u210 => Res.ok ((decide (u210.1 = (1 : Int))), u210.2)).bind fun u211 => Res.ok ((if u211.1 then (1 : Int) else 0), u211.2)).bind fun u213 => (idx u212.1 u213.1).bind fun v214 => Res.ok (v214, u213.2)))
theorem filtN : ∀ (os : List (Option Int)) (p : List Int), Pl p → ∃ rs p', filtE pN gN os p = .ok (rs, p') ∧ Pl p' ∧ rs.length = os.length ∧ ∀ v, some v ∈ rs → some v ∈ os
  | [], p, hp => ⟨[], p, rfl, hp, rfl, fun v h => h⟩
  | o :: os, p, hp => by
    have hs := sl_ge
    obtain ⟨d, p1, e1, d0, d1, hp1⟩ := draw_ok hp (m := 4) (by decide) (by decide)
    obtain ⟨rs, p', e2, hp', hl, hv⟩ := filtN os p1 hp1
    have hg : ∃ r, gN o p = .ok (r, p1) ∧ (r = o ∨ r = none) := by
      unfold gN
      rw [need_ok (by show 2 ≤ sizeLine; omega), Res.bind_ok, Res.bind_ok, e1, Res.bind_ok, Res.bind_ok, Res.bind_ok]
      by_cases hd : d = 1
      · subst hd
        exact ⟨none, rfl, .inr rfl⟩
      · refine ⟨o, ?_, .inl rfl⟩
        rw [show (if (decide (d = (1 : Int))) = true then (1 : Int) else 0) = 0 by rw [if_neg (by simpa using hd)]]
        rfl
    obtain ⟨r, eg, hr⟩ := hg
    refine ⟨r :: rs, p', ?_, hp', by rw [List.length_cons, List.length_cons, hl], fun v hm => ?_⟩
    · show (Res.ok (true, p)).bind _ = _
      rw [Res.bind_ok, if_pos rfl, eg, Res.bind_ok, e2, Res.bind_ok]
    · rcases List.mem_cons.mp hm with z | z
      · rcases hr with h | h
        · rw [z, h]; exact List.mem_cons_self
        · rw [h] at z; cases z
      · exact List.mem_cons_of_mem _ (hv v z)
noncomputable def fW (many kind : Int) : Int → Int × List Int × List (Option Int) → Res (Int × List Int × List (Option Int)) := (fun (a219 : Int) (b220 : (Int × (List Int) × (List (Option Int)))) => (m_law_draw b220.2.1 (Ar.mk (4 : Int) ())).bind fun pick_223 => (if (decide (pick_223.1 = (1 : Int))) then ((need (List.length b220.2.2 < sizeLine) (Res.ok (b220.2.2 ++ [(none : Option Int)]))).bind fun places_281 => Res.ok (b220.1, places_281, pick_223.2)) else ((if (decide (kind = (2 : Int))) then ((need (List.length b220.2.2 < sizeLine) (Res.ok (b220.2.2 ++ [(some b220.1)]))).bind fun places_310 => (let kept_311 := (b220.1 + (1 : Int))
  Res.ok (kept_311, places_310, pick_223.2))) else ((if (decide (pick_223.1 = (2 : Int))) then (((((((need (CPow (10 : Int) (9 : Int)) (Res.ok ((10 : Int) ^ ((9 : Int)).toNat))).bind fun v326 => Res.ok (v326 - (1 : Int))).bind fun v327 => Res.ok (v327, pick_223.2)).bind fun u329 => (m_law_draw u329.2 (Ar.mk (5 : Int) ())).bind fun u330 => Res.ok ((u329.1 - u330.1), u330.2)).bind fun u331 => Res.ok ((some u331.1), u331.2)).bind fun u332 => need (List.length b220.2.2 < sizeLine) (Res.ok (b220.2.2 ++ [u332.1], u332.2))).bind fun w333 => Res.ok (w333.1, w333.2)) else ((((m_law_draw pick_223.2 (Ar.mk (many + (5 : Int)) ())).bind fun u334 => Res.ok ((some u334.1), u334.2)).bind fun u335 => need (List.length b220.2.2 < sizeLine) (Res.ok (b220.2.2 ++ [u335.1], u335.2))).bind fun w336 => Res.ok (w336.1, w336.2))).bind fun b324 => Res.ok (b220.1, b324.1, b324.2))).bind fun b309 => Res.ok (b309.1, b309.2.1, b309.2.2))).bind fun b280 => Res.ok (b280.1, b280.2.2, b280.2.1))
theorem fW_ok {many kind k kept : Int} {p : List Int} {os : List (Option Int)} (h0 : 0 ≤ many) (h1 : many < 31) (hp : Pl p) (hl : os.length < 1000) (hk : 0 ≤ kept ∧ kept ≤ os.length) :
    ∃ kept' p' o, fW many kind k (kept, p, os) = .ok (kept', p', os ++ [o]) ∧ Pl p' ∧ (0 ≤ kept' ∧ kept' ≤ os.length + 1) ∧ ∀ v, o = some v → 0 ≤ v ∧ v < 2 ^ 40 := by
  have hs := sl_ge
  obtain ⟨d, p1, e1, d0, d1, hp1⟩ := draw_ok hp (m := 4) (by decide) (by decide)
  unfold fW
  dsimp only
  rw [e1, Res.bind_ok]
  dsimp only
  by_cases c1 : d = 1
  · rw [if_pos (by simpa using c1), need_ok (by omega), Res.bind_ok, Res.bind_ok]
    exact ⟨kept, p1, none, rfl, hp1, by omega, fun v e => by cases e⟩
  · rw [if_neg (by simpa using c1)]
    by_cases c2 : kind = 2
    · rw [if_pos (by simpa using c2), need_ok (by omega), Res.bind_ok, Res.bind_ok, Res.bind_ok]
      exact ⟨kept + 1, p1, some kept, rfl, hp1, by omega, fun v e => by cases e; omega⟩
    · rw [if_neg (by simpa using c2)]
      by_cases c3 : d = 2
      · obtain ⟨x, p2, e2, x0, x1, hp2⟩ := draw_ok hp1 (m := 5) (by decide) (by decide)
        rw [if_pos (by simpa using c3), need_ok (by unfold CPow; decide), Res.bind_ok, Res.bind_ok, Res.bind_ok, e2, Res.bind_ok, Res.bind_ok, Res.bind_ok, need_ok (by omega), Res.bind_ok, Res.bind_ok, Res.bind_ok, Res.bind_ok]
        refine ⟨kept, p2, _, rfl, hp2, by omega, fun v e => ?_⟩
        injection e with e
        rw [show ((10 : Int) ^ ((9 : Int)).toNat - (1 : Int)) = 999999999 by decide] at e
        omega
      · obtain ⟨x, p2, e2, x0, x1, hp2⟩ := draw_ok hp1 (m := many + 5) (by omega) (by omega)
        rw [if_neg (by simpa using c3), e2, Res.bind_ok, Res.bind_ok, need_ok (by omega), Res.bind_ok, Res.bind_ok, Res.bind_ok, Res.bind_ok]
        exact ⟨kept, p2, some x, rfl, hp2, by omega, fun v e => by cases e; omega⟩
theorem foldW {many kind : Int} (h0 : 0 ≤ many) (h1 : many < 31) : ∀ (ks : List Int) (kept : Int) (p : List Int) (os : List (Option Int)), Pl p → os.length + ks.length ≤ 1000 → (0 ≤ kept ∧ kept ≤ os.length) → Vp os →
    ∃ kept' p' os', foldR (fW many kind) ks (kept, p, os) = .ok (kept', p', os') ∧ Pl p' ∧ os'.length = os.length + ks.length ∧ Vp os'
  | [], kept, p, os, hp, _, _, h => ⟨kept, p, os, rfl, hp, rfl, h⟩
  | k :: ks, kept, p, os, hp, hl, hk, h => by
    rw [List.length_cons] at hl
    obtain ⟨kept1, p1, o, e1, hp1, hk1, ho⟩ := fW_ok (kind := kind) (k := k) h0 h1 hp (os := os) (by omega) hk
    obtain ⟨kept', p', os', e, hp', hl', h'⟩ := foldW (kind := kind) h0 h1 ks kept1 p1 (os ++ [o]) hp1 (by rw [List.length_append, List.length_singleton]; omega) (by rw [List.length_append, List.length_singleton]; omega) (fun w hw => by
      rcases List.mem_append.mp hw with z | z
      · exact h w z
      · exact ho w (List.mem_singleton.mp z).symm)
    refine ⟨kept', p', os', ?_, hp', by rw [hl', List.length_append, List.length_singleton, List.length_cons]; omega, h'⟩
    show (fW many kind k (kept, p, os)).bind _ = _
    rw [e1, Res.bind_ok]
    exact e
theorem map_ok {many : Int} (h0 : 0 ≤ many) (h1 : many < 31) {p : List Int} (hp : Pl p) : ∃ os p', m_law_map p ⟨many, ()⟩ = .ok (os, p') ∧ Pl p' ∧ os.length = many.toNat ∧ Vp os := by
  have hs := sl_ge
  have hl : (irange 0 many).length = many.toNat := by rw [irange_len]; congr 1; omega
  obtain ⟨d, p1, e1, d0, d1, hp1⟩ := draw_ok hp (m := 4) (by decide) (by decide)
  obtain ⟨os, p2, e2, hp2, l2, v2⟩ := ordered_ok h0 h1 hp1
  have ee : m_law_map p ⟨many, ()⟩ = (m_law_draw p (Ar.mk (4 : Int) ())).bind fun kind => if (decide (kind.1 = (0 : Int))) then (m_law_ordered kind.2 (Ar.mk many ())) else (if (decide (kind.1 = (1 : Int))) then ((m_law_ordered kind.2 (Ar.mk many ())).bind fun order => (Res.ok (order.1, order.2)).bind fun u => need (List.length u.1 ≤ sizeLine) (filtE pN gN u.1 u.2)) else ((need (List.length ([] : List (Option Int)) ≤ sizeLine) (Res.ok ([] : List (Option Int)))).bind fun places => ((need (Rg62 many) (Res.ok (irange 0 many))).bind fun v => foldR (fW many kind.1) v (0, kind.2, places)).bind fun b => Res.ok (b.2.2, b.2.1))) := rfl
  rw [ee, e1, Res.bind_ok]
  dsimp only
  by_cases c0 : d = 0
  · rw [if_pos (by simpa using c0)]
    exact ⟨os, p2, e2, hp2, l2, v2⟩
  · rw [if_neg (by simpa using c0)]
    by_cases c1 : d = 1
    · rw [if_pos (by simpa using c1), e2, Res.bind_ok, Res.bind_ok, need_ok (by show os.length ≤ _; omega)]
      obtain ⟨rs, p3, e3, hp3, l3, v3⟩ := filtN os p2 hp2
      exact ⟨rs, p3, e3, hp3, l3.trans l2, fun v hv => v2 v (v3 v hv)⟩
    · obtain ⟨kept, p3, rs, e3, hp3, l3, v3⟩ := foldW (kind := d) h0 h1 (irange 0 many) 0 p1 [] hp1 (by rw [hl]; simp; omega) (by simp) (fun v hv => (List.not_mem_nil hv).elim)
      rw [if_neg (by simpa using c1), nil_os, Res.bind_ok, need_ok (by unfold Rg62; omega), Res.bind_ok, e3, Res.bind_ok]
      exact ⟨rs, p3, rfl, hp3, by rw [l3, hl]; simp, v3⟩
end K22

set_option Elab.async false
set_option linter.all false
set_option maxRecDepth 100000
/-! M22d: k22: the law. -/
namespace K22
open PySem PySem.Spec PyProof.Rows L2 NF
open NF.Data (toD)
open ST (Ps)
noncomputable def fT (told : O_Stretches) (old : List Int) : List (Option Int) → Unit → Res (Sum Unit Bool) := (fun (a480 : (List (Option Int))) (b481 : Unit) => (((m_law_moved (Ar.mk told (Ar.mk a480 (Ar.mk old ())))).bind fun v484 => Res.ok (!v484)).bind fun v486 => if v486 then Res.ok true else ((m_law_back (Ar.mk told (Ar.mk a480 (Ar.mk old ())))).bind fun v485 => Res.ok (!v485))).bind fun v487 => if v487 then ((Res.ok false).bind fun d => Res.ok (Sum.inr d)) else (Res.ok (Sum.inl ())))
theorem fT_ok {xs : List Int} (hx : Ax xs) {ps : List (Option Int)} (hr : ∀ i ∈ xs, i < ps.length) (hv : Vp ps) (hp : ps.length ≤ 1000) : fT (SO (PL xs)) xs ps () = .ok (.inl ()) := by
  unfold fT
  rw [lmoved_ok hx hr hv, Res.bind_ok, Res.bind_ok, if_neg (by decide), back_ok hx hr hv hp, Res.bind_ok, Res.bind_ok, if_neg (by decide)]
theorem SO0 : m_Stretches_covering ⟨[], ()⟩ = .ok (SO (PL [])) := covering_ok (ps := []) (fun u hu => (List.not_mem_nil hu).elim) (Nat.zero_le _)
theorem ax_nil : Ax [] := ⟨.nil, fun u hu => (List.not_mem_nil hu).elim, Nat.zero_le _⟩
theorem shp_ps2 (b : Ps) : shp b = true := shp_ps b
/-- ints: == of lists -/
theorem eqD_nil (b : List Int) : eqD b ([] : List Int) = List.isEmpty b := by rw [eqD_ints]; cases b <;> rfl
theorem keep_ok {p : Int → Res Bool} {pb : Int → Bool} {as : List Int} (h : ∀ a ∈ as, p a = .ok (pb a)) : filtR (fun a => Res.quiet (p a)) (fun a => Res.quiet (Res.ok a)) as = .ok (as.filter pb) := by
  have e := filtG_ok (f := fun a : Int => Res.ok a) (g := fun a => a) h fun a _ => rfl
  rw [e, List.map_id']
theorem nil_ok : (need (List.length ([] : List Int) ≤ sizeLine) (Res.ok ([] : List Int))) = .ok [] := need_nil
theorem nilP_ok : (need (List.length ([] : List (Int × Int)) ≤ sizeLine) (Res.ok ([] : List (Int × Int)))) = .ok [] := need_nil
/-- what stands behind the maps -/
noncomputable def lawT (told : O_Stretches) (many : Int) (xs : List Int) (a b : List (Option Int)) (p : List Int) : Res Bool := (goOn (((need (List.length (a :: (b :: (a :: []))) ≤ sizeLine) (Res.ok (a :: (b :: (a :: []))))).bind fun v479 => Res.ok v479).bind fun v488 => foldM (fT told xs) v488 ()) (fun b483 => (m_law_led (Ar.mk a (Ar.mk xs ()))).bind fun between_489 => goOn (((need (List.length between_489 ≤ sizeLine) (filtR (fun (a490 : Int) => Res.quiet (Res.ok (decide (many ≤ a490)))) (fun (a490 : Int) => Res.quiet (Res.ok a490)) between_489)).bind fun v493 => (need (List.length ([] : List Int) ≤ sizeLine) (Res.ok ([] : List Int))).bind fun v494 => need (shp v493 = true ∧ shp v494 = true) (Res.ok (eqD v493 v494))).bind fun v532 => if v532 then (((((m_Stretches_moved (Ar.mk told (Ar.mk (Sq.t (Tp.mk a).xs) ()))).bind fun v497 => (((need (List.length between_489 + 1 < 4096) (Res.ok (sset between_489))).bind fun v495 => Res.ok (Ar.mk v495 ())).bind fun r496 => Res.ok (Ar.mk b r496)).bind fun r498 => Res.ok (Ar.mk v497 r498)).bind fun u499 => m_law_moved u499).bind fun v500 => Res.ok (!v500)).bind fun v501 => if v501 then ((Res.ok false).bind fun d => Res.ok (Sum.inr d)) else (Res.ok (Sum.inl ()))) else Res.ok (Sum.inl ())) (fun _ => (m_law_draw p (Ar.mk ((List.length xs : Int) + (1 : Int)) ())).bind fun at_502 => (need (List.length (cut xs (some at_502.1) none) + List.length (cut xs none (some at_502.1)) ≤ sizeLine) (Res.ok ((cut xs (some at_502.1) none) ++ (cut xs none (some at_502.1))))).bind fun mixed_503 => (((m_law_draw at_502.2 (Ar.mk ((List.length xs : Int) + (1 : Int)) ())).bind fun u506 => Res.ok ((cut mixed_503 none (some u506.1)), u506.2)).bind fun u507 => need (List.length mixed_503 + List.length u507.1 ≤ sizeLine) (Res.ok (mixed_503 ++ u507.1, u507.2))).bind fun mixed_508 => (Res.ok ()).bind fun mixed_510 => (let given_511 := (List.reverse mixed_508.1)
  (((((m_Stretches_covering (Ar.mk given_511 ())).bind fun v512 => Res.ok (Ar.mk v512 (Ar.mk xs ()))).bind fun u513 => m_law_is u513).bind fun v514 => Res.ok (!v514)).bind fun v515 => if v515 then Res.ok true else (need (shp given_511 = true ∧ shp (List.reverse mixed_508.1) = true) (Res.ok (!eqD given_511 (List.reverse mixed_508.1))))).bind fun v531 => if v531 then (Res.ok false) else (((Res.quiet (m_Stretches_each_place (Ar.mk told ()))).bind fun v516 => need (List.length v516 ≤ sizeLine) (mapR (fun (n517 : Int) => Res.quiet (Res.ok n517)) v516)).bind fun places_518 => (((((m_Stretches_covering (Ar.mk places_518 ())).bind fun v519 => Res.ok (Ar.mk v519 (Ar.mk xs ()))).bind fun u520 => m_law_is u520).bind fun v521 => Res.ok (!v521)).bind fun v529 => if v529 then Res.ok true else ((((((need (List.length ([] : List Int) ≤ sizeLine) (Res.ok ([] : List Int))).bind fun v522 => Res.ok (Ar.mk v522 ())).bind fun u523 => m_Stretches_covering u523).bind fun v525 => ((need (List.length ([] : List Int) ≤ sizeLine) (Res.ok ([] : List Int))).bind fun v524 => Res.ok (Ar.mk v524 ())).bind fun r526 => Res.ok (Ar.mk v525 r526)).bind fun u527 => m_law_is u527).bind fun v528 => Res.ok (!v528))).bind fun v530 => if v530 then (Res.ok false) else (m_law_is (Ar.mk told (Ar.mk xs ()))))))))
theorem lawT_ok {many : Int} (h0 : 0 ≤ many) (h1 : many < 31) {xs : List Int} (hx : Ax xs) (hxl : xs.length ≤ 31) (hm : ∀ i ∈ xs, i < many) {a b : List (Option Int)} {p : List Int} (hp : Pl p) (la : a.length = many.toNat) (lb : b.length = many.toNat) (va : Vp a) (vb : Vp b) : lawT (SO (PL xs)) many xs a b p = .ok true := by
  have hs := sl_ge
  have hl := hx.len
  have ra : ∀ i ∈ xs, i < (a.length : Int) := fun i hi => by have := hm i hi; omega
  have rb : ∀ i ∈ xs, i < (b.length : Int) := fun i hi => by have := hm i hi; omega
  have r2 : ∀ i ∈ xs, 0 ≤ i ∧ i < (a.length : Int) := fun i hi => ⟨(hx.rg i hi).1, ra i hi⟩
  have tail : ∀ f : Unit → Res Bool, f () = .ok true → goOn (((need (List.length (led a xs) ≤ sizeLine) (filtR (fun (a490 : Int) => Res.quiet (Res.ok (decide (many ≤ a490)))) (fun (a490 : Int) => Res.quiet (Res.ok a490)) (led a xs))).bind fun v493 => (need (List.length ([] : List Int) ≤ sizeLine) (Res.ok ([] : List Int))).bind fun v494 => need (shp v493 = true ∧ shp v494 = true) (Res.ok (eqD v493 v494))).bind fun v532 => if v532 then (((((m_Stretches_moved (Ar.mk (SO (PL xs)) (Ar.mk (Sq.t (Tp.mk a).xs) ()))).bind fun v497 => (((need (List.length (led a xs) + 1 < 4096) (Res.ok (sset (led a xs)))).bind fun v495 => Res.ok (Ar.mk v495 ())).bind fun r496 => Res.ok (Ar.mk b r496)).bind fun r498 => Res.ok (Ar.mk v497 r498)).bind fun u499 => m_law_moved u499).bind fun v500 => Res.ok (!v500)).bind fun v501 => if v501 then ((Res.ok false).bind fun d => Res.ok (Sum.inr d)) else (Res.ok (Sum.inl ()))) else Res.ok (Sum.inl ())) f = .ok true := fun f hf => by
    have hll := led_len a xs
    have ay := ax_led va hl
    rw [need_ok (by omega), keep_ok (pb := fun u => decide (many ≤ u)) fun u _ => rfl, Res.bind_ok, nil_ok, Res.bind_ok, need_ok ⟨shp_ints _, shp_ints _⟩, eqD_nil, Res.bind_ok]
    by_cases c : List.isEmpty ((led a xs).filter fun u => decide (many ≤ u)) = true
    · have hy : ∀ i ∈ sset (led a xs), i < (b.length : Int) := fun i hi => by
        have hi := mem_sset.mp hi
        rw [List.isEmpty_iff] at c
        have : ¬ many ≤ i := fun z => by
          have : i ∈ (led a xs).filter fun u => decide (many ≤ u) := List.mem_filter.mpr ⟨hi, by simpa using z⟩
          rw [c] at this; cases this
        omega
      rw [c, if_pos rfl, moved_ok (ps := a) hx (Sq.t a) rfl ra va, Res.bind_ok, set_need (by omega), Res.bind_ok, Res.bind_ok, Res.bind_ok, Res.bind_ok, lmoved_ok ay hy vb, Res.bind_ok, Res.bind_ok, if_neg (by decide), goOn_inl]
      exact hf
    · rw [if_neg c, goOn_inl]
      exact hf
  unfold lawT
  rw [need_ok (by show 3 ≤ sizeLine; omega), Res.bind_ok, Res.bind_ok]
  rw [show foldM (fT (SO (PL xs)) xs) [a, b, a] () = .ok (.inl ()) by
    show (fT (SO (PL xs)) xs a ()).bind _ = _
    rw [fT_ok hx ra va (by omega), Res.bind_ok]
    show (fT (SO (PL xs)) xs b ()).bind _ = _
    rw [fT_ok hx rb vb (by omega), Res.bind_ok]
    show (fT (SO (PL xs)) xs a ()).bind _ = _
    rw [fT_ok hx ra va (by omega), Res.bind_ok]
    rfl]
  rw [goOn_inl, led_ok r2 hl, Res.bind_ok]
  refine tail _ ?_
  obtain ⟨d, p1, e1, d0, d1, hp1⟩ := draw_ok hp (m := (xs.length : Int) + 1) (by omega) (by omega)
  obtain ⟨e, p2, e2, f0, f1, hp2⟩ := draw_ok hp1 (m := (xs.length : Int) + 1) (by omega) (by omega)
  have l1 := cut_len xs (some d) none
  have l2 := cut_len xs none (some d)
  dsimp only
  rw [e1, Res.bind_ok]
  dsimp only
  generalize hX : cut xs (some d) none ++ cut xs none (some d) = mx
  have lx : mx.length ≤ 2000 := by rw [← hX, List.length_append]; omega
  have l3 := cut_len mx none (some e)
  have mm : ∀ u, u ∈ mx ↔ u ∈ xs := fun u => by
    obtain ⟨k, rfl⟩ := Int.eq_ofNat_of_zero_le d0
    rw [← hX, cut_from, cut_upto, List.mem_append]
    constructor
    · rintro (h | h)
      · exact List.mem_of_mem_drop h
      · exact List.mem_of_mem_take h
    · intro h
      rw [← List.take_append_drop k xs] at h
      exact (List.mem_append.mp h).symm
  have lxx : mx.length = xs.length := by
    obtain ⟨k, rfl⟩ := Int.eq_ofNat_of_zero_le d0
    rw [← hX, cut_from, cut_upto, List.length_append, List.length_drop, List.length_take]
    omega
  rw [need_ok (by omega), Res.bind_ok, e2, Res.bind_ok, Res.bind_ok]
  dsimp only
  rw [need_ok (by omega), Res.bind_ok, Res.bind_ok]
  dsimp only
  generalize hY : (mx ++ cut mx none (some e)).reverse = my
  have my_m : ∀ u, u ∈ my ↔ u ∈ xs := fun u => by
    rw [← hY, List.mem_reverse, List.mem_append]
    exact ⟨fun h => h.elim (mm u).mp fun h => (mm u).mp (cut_sub h), fun h => .inl ((mm u).mpr h)⟩
  have my_s : sset my = xs := sset_eq hx my_m
  have my_v : ∀ u ∈ my, 0 ≤ u ∧ u < 2 ^ 40 := fun u hu => hx.rg u ((my_m u).mp hu)
  have my_l : my.length ≤ 1000 := by
    have e3 : my.length = mx.length + (cut mx none (some e)).length := by rw [← hY, List.length_reverse, List.length_append]
    omega
  have cmy : m_Stretches_covering ⟨my, ()⟩ = .ok (SO (PL xs)) := by rw [covering_ok my_v my_l, my_s]
  have cxs : m_Stretches_covering ⟨xs, ()⟩ = .ok (SO (PL xs)) := by rw [covering_ok hx.rg hl, sset_ax hx]
  rw [cmy, Res.bind_ok, Res.bind_ok, is_ok hx hl (sset_ax hx), Res.bind_ok, Res.bind_ok, if_neg (by decide), need_ok ⟨shp_ints _, shp_ints _⟩, eqD_refl, Res.bind_ok, if_neg (by decide), places_ok hx, quiet_ok, Res.bind_ok, need_ok (by omega), mapQ_ok (g := fun u => u) fun u _ => rfl, List.map_id', Res.bind_ok, cxs, Res.bind_ok, Res.bind_ok, is_ok hx hl (sset_ax hx), Res.bind_ok, Res.bind_ok, if_neg (by decide), nil_ok, Res.bind_ok, Res.bind_ok, SO0, Res.bind_ok, Res.bind_ok, Res.bind_ok, is_ok ax_nil (Nat.zero_le _) rfl, Res.bind_ok, Res.bind_ok, if_neg (by decide)]
theorem math : ∀ ns : List Int, ns.length ≤ 63 → m_law ⟨⟨ns⟩, ()⟩ = .ok true := by
  intro ns hn
  have hs := sl_ge
  obtain ⟨p0, e0, hp0⟩ := cells_ok (ns := ns.take 63) (by rw [List.length_take]; omega)
  obtain ⟨d, p1, e1, d0, d1, hp1⟩ := draw_ok hp0 (m := 31) (by decide) (by decide)
  have m0 := Int.emod_nonneg (12 + d) (show (31 : Int) ≠ 0 by decide)
  have m1 := Int.emod_lt_of_pos (12 + d) (show (0 : Int) < 31 by decide)
  obtain ⟨n, p2, e2, n0, n1, hp2⟩ := draw_ok hp1 (m := 6) (by decide) (by decide)
  obtain ⟨c, ec, hc⟩ := idx_in (xs := ((2 : Int) :: ((1 : Int) :: ((3 : Int) :: ((4 : Int) :: ((5 : Int) :: ((0 : Int) :: []))))))) n0 n1
  have hc2 : 0 ≤ c ∧ c ≤ 5 := by simp at hc; omega
  generalize hmany : (12 + d) % 31 = many at m0 m1
  obtain ⟨p3, ps, e3, hp3, l3, h3⟩ := foldA m0 m1 (irange 0 c) p2 [] hp2 (by rw [irange_len]; simp; omega) (fun q hq => (List.not_mem_nil hq).elim)
  have l3' : ps.length ≤ 5 := by rw [irange_len] at l3; simp at l3; omega
  obtain ⟨a, p4, e4, hp4, l4, v4⟩ := map_ok m0 m1 hp3
  obtain ⟨b, p5, e5, hp5, l5, v5⟩ := map_ok m0 m1 hp4
  have hx := cov_ax m1 ps
  have hlt : ∀ i ∈ cov many ps, i < many := fun i hi => (cov_lt i hi).2
  have hxl : (cov many ps).length ≤ 31 := by
    have := List.length_filter_le (fun u => !List.isEmpty (ps.filter fun p => decide (p.1 ≤ u) && decide (u < p.2))) (irange 0 many)
    rw [irange_len] at this
    exact Nat.le_trans this (by omega)
  have il : (irange 0 many).length ≤ 31 := by rw [irange_len]; omega
  have eV : foldR (fV ps) (irange 0 many) [] = .ok (cov many ps) := by rw [foldV (by omega) _ [] (by simp; omega)]; rfl
  have E : m_law ⟨⟨ns⟩, ()⟩ = (m_law_cells (Ar.mk (cut ns none (some (63 : Int))) ())).bind fun pool_389 => ((((m_law_draw pool_389 (Ar.mk (31 : Int) ())).bind fun u396 => Res.ok (((12 : Int) + u396.1), u396.2)).bind fun u397 => Res.ok (u397.1, u397.2)).bind fun u399 => (need (0 < (31 : Int)) (Res.ok (u399.1 % (31 : Int)))).bind fun v400 => Res.ok (v400, u399.2)).bind fun many_401 => (need (List.length ([] : List (Int × Int)) ≤ sizeLine) (Res.ok ([] : List (Int × Int)))).bind fun pairs_402 => (((((need (List.length ((2 : Int) :: ((1 : Int) :: ((3 : Int) :: ((4 : Int) :: ((5 : Int) :: ((0 : Int) :: [])))))) ≤ sizeLine) (Res.ok ((2 : Int) :: ((1 : Int) :: ((3 : Int) :: ((4 : Int) :: ((5 : Int) :: ((0 : Int) :: [])))))))).bind fun v404 => Res.ok (v404, many_401.2)).bind fun u406 => (m_law_draw u406.2 (Ar.mk (6 : Int) ())).bind fun u407 => (idx u406.1 u407.1).bind fun v408 => Res.ok (v408, u407.2)).bind fun u409 => need (Rg62 u409.1) (Res.ok (irange 0 u409.1, u409.2))).bind fun u457 => foldR (fA many_401.1) u457.1 (u457.2, pairs_402)).bind fun b413 => (need (List.length ([] : List Int) ≤ sizeLine) (Res.ok ([] : List Int))).bind fun old_459 => ((need (Rg62 many_401.1) (Res.ok (irange 0 many_401.1))).bind fun v474 => foldR (fV b413.2) v474 old_459).bind fun b464 => (m_law_map b413.1 (Ar.mk many_401.1 ())).bind fun first_475 => (m_law_map first_475.2 (Ar.mk many_401.1 ())).bind fun second_476 => (m_Stretches___init (Ar.mk (Sq.l b413.2) ())).bind fun told_477 => ((m_law_is (Ar.mk told_477 (Ar.mk b464 ()))).bind fun v478 => Res.ok (!v478)).bind fun v533 => if v533 then (Res.ok false) else (lawT told_477 many_401.1 b464 first_475.1 second_476.1 second_476.2) := rfl
  rw [E, show cut ns none (some 63) = ns.take 63 from cut_upto ns 63, e0, Res.bind_ok, e1, Res.bind_ok, Res.bind_ok, Res.bind_ok, need_ok (by decide), Res.bind_ok, Res.bind_ok]
  dsimp only
  rw [hmany, nilP_ok, Res.bind_ok, need_ok (by show 6 ≤ sizeLine; omega), Res.bind_ok, Res.bind_ok, e2, Res.bind_ok, ec, Res.bind_ok, Res.bind_ok, need_ok (by unfold Rg62; omega), Res.bind_ok]
  dsimp only
  rw [e3, Res.bind_ok]
  dsimp only
  rw [nil_ok, Res.bind_ok, need_ok (by unfold Rg62; omega), Res.bind_ok, eV, Res.bind_ok, e4, Res.bind_ok]
  dsimp only
  rw [e5, Res.bind_ok, told_ok m1 (by omega) h3, Res.bind_ok, is_ok hx hx.len (sset_ax hx), Res.bind_ok, Res.bind_ok, if_neg (by decide)]
  exact lawT_ok m0 m1 hx hxl hlt hp5 l4 l5 v4 v5
end K22

set_option Elab.async false
set_option linter.all false
set_option maxRecDepth 100000
set_option maxHeartbeats 4000000
namespace K22
open PySem PySem.Spec PyProof.Rows L2 NF
open NF.Data (toD)
section
variable {P : Program} {w : World} {K : Fg} {mg : MG} {base : Heap}
/-! ### what the top has written -/
theorem all_mk {l : PySem.W.OpenLaw} {w : World} {K : Fg} {h : Heap} {mg : MG} {fa : Addr} (math : ∀ ns : List Int, ns.length ≤ 63 → m_law ⟨⟨ns⟩, ()⟩ = .ok true) (X : K.In h) (G : h.Ns mainGlobals mg) (hfa : mg "law" = some (.ref fa))
    {C_Stretches : Addr}
    {f0 : Addr} {od0 an0 : Option Addr} {sl0 : Array (Option Value)} {oc0 kV0 dc0 pm0 cd0 ct0 : Value}
    {f1 : Addr} {od1 an1 : Option Addr} {sl1 : Array (Option Value)} {oc1 kV1 dc1 pm1 cd1 ct1 : Value}
    {f2 : Addr} {od2 an2 : Option Addr} {sl2 : Array (Option Value)} {oc2 kV2 dc2 pm2 cd2 ct2 : Value}
    {f3 : Addr} {od3 an3 : Option Addr} {sl3 : Array (Option Value)} {oc3 kV3 dc3 pm3 cd3 ct3 : Value}
    {f4 : Addr} {od4 an4 : Option Addr} {sl4 : Array (Option Value)} {oc4 kV4 dc4 pm4 cd4 ct4 : Value}
    {f5 : Addr} {od5 an5 : Option Addr} {sl5 : Array (Option Value)} {oc5 kV5 dc5 pm5 cd5 ct5 : Value}
    {f6 : Addr} {od6 an6 : Option Addr} {sl6 : Array (Option Value)} {oc6 kV6 dc6 pm6 cd6 ct6 : Value}
    {f7 : Addr} {od7 an7 : Option Addr} {sl7 : Array (Option Value)} {oc7 kV7 dc7 pm7 cd7 ct7 : Value}
    {f8 : Addr} {od8 an8 : Option Addr} {sl8 : Array (Option Value)} {oc8 kV8 dc8 pm8 cd8 ct8 : Value}
    {aD8 aE8 : Addr} {odD8 odE8 : Option Addr} {nD8 nE8 : Nat} {slD8 slE8 : Array (Option Value)}
    {f9 : Addr} {od9 an9 : Option Addr} {sl9 : Array (Option Value)} {oc9 kV9 dc9 pm9 cd9 ct9 : Value}
    {f10 : Addr} {od10 an10 : Option Addr} {sl10 : Array (Option Value)} {oc10 kV10 dc10 pm10 cd10 ct10 : Value}
    {f11 : Addr} {od11 an11 : Option Addr} {sl11 : Array (Option Value)} {oc11 kV11 dc11 pm11 cd11 ct11 : Value}
    {pS11 : Addr} {rS11 : List Value}
    {f12 : Addr} {od12 an12 : Option Addr} {sl12 : Array (Option Value)} {oc12 kV12 dc12 pm12 cd12 ct12 : Value}
    {f13 : Addr} {od13 an13 : Option Addr} {sl13 : Array (Option Value)} {oc13 kV13 dc13 pm13 cd13 ct13 : Value}
    {f14 : Addr} {od14 an14 : Option Addr} {sl14 : Array (Option Value)} {oc14 kV14 dc14 pm14 cd14 ct14 : Value}
    {f15 : Addr} {od15 an15 : Option Addr} {sl15 : Array (Option Value)} {oc15 kV15 dc15 pm15 cd15 ct15 : Value}
    {f16 : Addr} {od16 an16 : Option Addr} {sl16 : Array (Option Value)} {oc16 kV16 dc16 pm16 cd16 ct16 : Value}
    (a_Stretches : PySem.W.nsIn K mainGlobals "Stretches" = some (some (.ref C_Stretches)))
    (a0 : PySem.W.nsIn K mainGlobals "_merged" = some (some (.ref f0)))
    (l0 : K.lookup f0 = some ⟨oc0, od0, .func (PySem.W.fnOf "_merged" "_merged" (defArgs s__merged) (defBody s__merged) (defScope s__merged) .none kV0 dc0 pm0 an0 cd0 ct0), sl0⟩)
    (c0 : PySem.W.codeIn K cd0 "_merged" = true)
    (k0 : PySem.W.keepIn K (.ref f0) = true)
    (a1 : PySem.W.findIn K (.ref C_Stretches) "__iter__" = some (some (.ref f1)))
    (l1 : K.lookup f1 = some ⟨oc1, od1, .func (PySem.W.fnOf "__iter__" "Stretches.__iter__" (defArgs s_Stretches___iter) (defBody s_Stretches___iter) (defScope s_Stretches___iter) .none kV1 dc1 pm1 an1 cd1 ct1), sl1⟩)
    (c1 : PySem.W.codeIn K cd1 "Stretches.__iter__" = true)
    (k1 : PySem.W.keepIn K (.ref f1) = true)
    (n1 : PySem.W.isFn K (.ref f1) = true)
    (a2 : PySem.W.findIn K (.ref C_Stretches) "each_place" = some (some (.ref f2)))
    (l2 : K.lookup f2 = some ⟨oc2, od2, .func (PySem.W.fnOf "each_place" "Stretches.each_place" (defArgs s_Stretches_each_place) (defBody s_Stretches_each_place) (defScope s_Stretches_each_place) .none kV2 dc2 pm2 an2 cd2 ct2), sl2⟩)
    (c2 : PySem.W.codeIn K cd2 "Stretches.each_place" = true)
    (k2 : PySem.W.keepIn K (.ref f2) = true)
    (n2 : PySem.W.isFn K (.ref f2) = true)
    (a3 : PySem.W.findIn K (.ref C_Stretches) "total" = some (some (.ref f3)))
    (l3 : K.lookup f3 = some ⟨oc3, od3, .func (PySem.W.fnOf "total" "Stretches.total" (defArgs s_Stretches_total) (defBody s_Stretches_total) (defScope s_Stretches_total) .none kV3 dc3 pm3 an3 cd3 ct3), sl3⟩)
    (c3 : PySem.W.codeIn K cd3 "Stretches.total" = true)
    (k3 : PySem.W.keepIn K (.ref f3) = true)
    (n3 : PySem.W.isFn K (.ref f3) = true)
    (a4 : PySem.W.nsIn K mainGlobals "_law_cells" = some (some (.ref f4)))
    (l4 : K.lookup f4 = some ⟨oc4, od4, .func (PySem.W.fnOf "_law_cells" "_law_cells" (defArgs s__law_cells) (defBody s__law_cells) (defScope s__law_cells) .none kV4 dc4 pm4 an4 cd4 ct4), sl4⟩)
    (c4 : PySem.W.codeIn K cd4 "_law_cells" = true)
    (k4 : PySem.W.keepIn K (.ref f4) = true)
    (a5 : PySem.W.nsIn K mainGlobals "_law_draw" = some (some (.ref f5)))
    (l5 : K.lookup f5 = some ⟨oc5, od5, .func (PySem.W.fnOf "_law_draw" "_law_draw" (defArgs s__law_draw) (defBody s__law_draw) (defScope s__law_draw) .none kV5 dc5 pm5 an5 cd5 ct5), sl5⟩)
    (c5 : PySem.W.codeIn K cd5 "_law_draw" = true)
    (k5 : PySem.W.keepIn K (.ref f5) = true)
    (a6 : PySem.W.nsIn K mainGlobals "_law_pairs" = some (some (.ref f6)))
    (l6 : K.lookup f6 = some ⟨oc6, od6, .func (PySem.W.fnOf "_law_pairs" "_law_pairs" (defArgs s__law_pairs) (defBody s__law_pairs) (defScope s__law_pairs) .none kV6 dc6 pm6 an6 cd6 ct6), sl6⟩)
    (c6 : PySem.W.codeIn K cd6 "_law_pairs" = true)
    (k6 : PySem.W.keepIn K (.ref f6) = true)
    (a7 : PySem.W.nsIn K mainGlobals "_law_led" = some (some (.ref f7)))
    (l7 : K.lookup f7 = some ⟨oc7, od7, .func (PySem.W.fnOf "_law_led" "_law_led" (defArgs s__law_led) (defBody s__law_led) (defScope s__law_led) .none kV7 dc7 pm7 an7 cd7 ct7), sl7⟩)
    (c7 : PySem.W.codeIn K cd7 "_law_led" = true)
    (k7 : PySem.W.keepIn K (.ref f7) = true)
    (a8 : PySem.W.findIn K (.ref C_Stretches) "__init__" = some (some (.ref f8)))
    (l8 : K.lookup f8 = some ⟨oc8, od8, .func (PySem.W.fnOf "__init__" "Stretches.__init__" (defArgs s_Stretches___init) (defBody s_Stretches___init) (defScope s_Stretches___init) (.ref aD8) kV8 dc8 pm8 an8 cd8 ct8), sl8⟩)
    (lD8 : K.lookup aD8 = some ⟨.type "tuple", odD8, .seq #[.ref aE8] nD8, slD8⟩)
    (lE8 : K.lookup aE8 = some ⟨.type "tuple", odE8, .seq #[] nE8, slE8⟩)
    (c8 : PySem.W.codeIn K cd8 "Stretches.__init__" = true)
    (k8 : PySem.W.keepIn K (.ref f8) = true)
    (n8 : PySem.W.isFn K (.ref f8) = true)
    (a9 : PySem.W.nsIn K mainGlobals "_law_ordered" = some (some (.ref f9)))
    (l9 : K.lookup f9 = some ⟨oc9, od9, .func (PySem.W.fnOf "_law_ordered" "_law_ordered" (defArgs s__law_ordered) (defBody s__law_ordered) (defScope s__law_ordered) .none kV9 dc9 pm9 an9 cd9 ct9), sl9⟩)
    (c9 : PySem.W.codeIn K cd9 "_law_ordered" = true)
    (k9 : PySem.W.keepIn K (.ref f9) = true)
    (a10 : PySem.W.nsIn K mainGlobals "_law_map" = some (some (.ref f10)))
    (l10 : K.lookup f10 = some ⟨oc10, od10, .func (PySem.W.fnOf "_law_map" "_law_map" (defArgs s__law_map) (defBody s__law_map) (defScope s__law_map) .none kV10 dc10 pm10 an10 cd10 ct10), sl10⟩)
    (c10 : PySem.W.codeIn K cd10 "_law_map" = true)
    (k10 : PySem.W.keepIn K (.ref f10) = true)
    (a11 : PySem.W.findCls K (.ref C_Stretches) (.type "type") "covering" = some (.get (.builtin "staticmethod.__get__") (.ref pS11) .none (.ref C_Stretches)))
    (r11 : PySem.W.recIn K pS11 "staticmethod" = some (.ref f11 :: rS11))
    (l11 : K.lookup f11 = some ⟨oc11, od11, .func (PySem.W.fnOf "covering" "Stretches.covering" (defArgs s_Stretches_covering) (defBody s_Stretches_covering) (defScope s_Stretches_covering) .none kV11 dc11 pm11 an11 cd11 ct11), sl11⟩)
    (c11 : PySem.W.codeIn K cd11 "Stretches.covering" = true)
    (k11 : PySem.W.keepIn K (.ref f11) = true)
    (n11 : PySem.W.isFn K (.ref f11) = true)
    (a12 : PySem.W.findIn K (.ref C_Stretches) "moved" = some (some (.ref f12)))
    (l12 : K.lookup f12 = some ⟨oc12, od12, .func (PySem.W.fnOf "moved" "Stretches.moved" (defArgs s_Stretches_moved) (defBody s_Stretches_moved) (defScope s_Stretches_moved) .none kV12 dc12 pm12 an12 cd12 ct12), sl12⟩)
    (c12 : PySem.W.codeIn K cd12 "Stretches.moved" = true)
    (k12 : PySem.W.keepIn K (.ref f12) = true)
    (n12 : PySem.W.isFn K (.ref f12) = true)
    (a13 : PySem.W.nsIn K mainGlobals "_law_is" = some (some (.ref f13)))
    (l13 : K.lookup f13 = some ⟨oc13, od13, .func (PySem.W.fnOf "_law_is" "_law_is" (defArgs s__law_is) (defBody s__law_is) (defScope s__law_is) .none kV13 dc13 pm13 an13 cd13 ct13), sl13⟩)
    (c13 : PySem.W.codeIn K cd13 "_law_is" = true)
    (k13 : PySem.W.keepIn K (.ref f13) = true)
    (a14 : PySem.W.nsIn K mainGlobals "_law_moved" = some (some (.ref f14)))
    (l14 : K.lookup f14 = some ⟨oc14, od14, .func (PySem.W.fnOf "_law_moved" "_law_moved" (defArgs s__law_moved) (defBody s__law_moved) (defScope s__law_moved) .none kV14 dc14 pm14 an14 cd14 ct14), sl14⟩)
    (c14 : PySem.W.codeIn K cd14 "_law_moved" = true)
    (k14 : PySem.W.keepIn K (.ref f14) = true)
    (a15 : PySem.W.nsIn K mainGlobals "_law_back" = some (some (.ref f15)))
    (l15 : K.lookup f15 = some ⟨oc15, od15, .func (PySem.W.fnOf "_law_back" "_law_back" (defArgs s__law_back) (defBody s__law_back) (defScope s__law_back) .none kV15 dc15 pm15 an15 cd15 ct15), sl15⟩)
    (c15 : PySem.W.codeIn K cd15 "_law_back" = true)
    (k15 : PySem.W.keepIn K (.ref f15) = true)
    (a16 : PySem.W.nsIn K mainGlobals "law" = some (some (.ref f16)))
    (l16 : K.lookup f16 = some ⟨oc16, od16, .func (PySem.W.fnOf "law" "law" (defArgs s_law) (defBody s_law) (defScope s_law) .none kV16 dc16 pm16 an16 cd16 ct16), sl16⟩)
    (c16 : PySem.W.codeIn K cd16 "law" = true)
    (k16 : PySem.W.keepIn K (.ref f16) = true)
    (y_max : PySem.W.nsIn K mainGlobals "max" = some none)
    (y_sorted : PySem.W.nsIn K mainGlobals "sorted" = some none)
    (y_tuple : PySem.W.nsIn K mainGlobals "tuple" = some none)
    (pg_Stretches : PySem.W.plainGet K C_Stretches Str.empty = true)
    (hC_Stretches : PySem.W.hasDictIn K C_Stretches = true)
    (po_Stretches : PySem.W.plainOver K C_Stretches = true)
    (sa_Stretches : PySem.W.findIn K (.ref C_Stretches) "__setattr__" = some (some (.builtin "object.__setattr__")))
    (kC_Stretches : PySem.W.keepIn K (.ref C_Stretches) = true)
    (nf_Stretches_pairs : PySem.W.findIn K (.ref C_Stretches) "pairs" = some none)
    (y_iter : PySem.W.nsIn K mainGlobals "iter" = some none)
    (y_range : PySem.W.nsIn K mainGlobals "range" = some none)
    (y_sum : PySem.W.nsIn K mainGlobals "sum" = some none)
    (y_abs : PySem.W.nsIn K mainGlobals "abs" = some none)
    (y_int : PySem.W.nsIn K mainGlobals "int" = some none)
    (y_len : PySem.W.nsIn K mainGlobals "len" = some none)
    (y_set : PySem.W.nsIn K mainGlobals "set" = some none)
    (y_list : PySem.W.nsIn K mainGlobals "list" = some none)
    (mk_Stretches : PySem.W.makesIn K C_Stretches = true)
    (rd_Stretches : PySem.W.readsIn K C_Stretches (.type "type") = true)
    (gt_Stretches : PySem.W.specialIn K (.ref C_Stretches) "__getattribute__" = some (some (.builtin "type.__getattribute__")))
    (cc_Stretches : PySem.W.findIn K (.ref C_Stretches) "__class__" = some (some (.builtin "object.__class__")))
    (cn : PySem.W.specialIn K (.builtin "object.__class__") "__get__" = some (some (.builtin "getset_descriptor.__get__")))
    (ct : PySem.W.takesIn K (.builtin "object.__class__") = some true)
    (mo_Stretches : PySem.W.mroIn K C_Stretches (.type "object") = some true)
    (nl_Stretches : PySem.W.findIn K (.ref C_Stretches) "__len__" = some none)
    (nh_Stretches : PySem.W.findIn K (.ref C_Stretches) "__length_hint__" = some none)
    (y_bool : PySem.W.nsIn K mainGlobals "bool" = some none)
    (y_isinstance : PySem.W.nsIn K mainGlobals "isinstance" = some none) :
    ∃ fd : FuncData, (∀ (s : Shared) (v : Value), BindsTo s fd ⟨[v], []⟩ [("script", v)]) ∧ ∀ base : Heap, K.In base → base.Ns mainGlobals mg → FnOk l.prog w K mg base CX0 7 fa fd ["script"] (spLaw K 63) := by
  have e := hfa.symm.trans (PySem.W.mg_of X G a16)
  cases e
  have m_Stretches := PySem.W.mg_of X G a_Stretches
  have z_max := PySem.W.mg_none_of X G y_max
  have z_sorted := PySem.W.mg_none_of X G y_sorted
  have z_tuple := PySem.W.mg_none_of X G y_tuple
  have cl_Stretches : NF.ClsAt K mg "Stretches" := ⟨C_Stretches, m_Stretches, ⟨pg_Stretches, hC_Stretches, po_Stretches, sa_Stretches⟩⟩
  have na_Stretches_pairs : NoAt K mg "Stretches" "pairs" := ⟨fun C h => by rw [m_Stretches] at h; cases h; exact nf_Stretches_pairs⟩
  have z_iter := PySem.W.mg_none_of X G y_iter
  have z_range := PySem.W.mg_none_of X G y_range
  have z_sum := PySem.W.mg_none_of X G y_sum
  have z_abs := PySem.W.mg_none_of X G y_abs
  have z_int := PySem.W.mg_none_of X G y_int
  have z_len := PySem.W.mg_none_of X G y_len
  have z_set := PySem.W.mg_none_of X G y_set
  have z_list := PySem.W.mg_none_of X G y_list
  have ia_Stretches : InsAt K mg "Stretches" := ⟨C_Stretches, m_Stretches, ⟨pg_Stretches, hC_Stretches, po_Stretches, sa_Stretches⟩, cc_Stretches, cn, ct, mo_Stretches⟩
  have z_bool := PySem.W.mg_none_of X G y_bool
  have z_isinstance := PySem.W.mg_none_of X G y_isinstance
  have F0 := fun_mk (st := s__merged) l0 c0 k0
  have b0 := F0.binds (ps := ["pairs"]) fun _ _ _ _ _ _ us hl => match us, hl with | [_], _ => rfl
  have D__merged : ∀ base, DefAt l.prog w K mg base CX0 1 "_merged" ["pairs"] (spP K mg m_merged) := fun base => ⟨_, _, ok__merged F0 (z_max := z_max) (z_sorted := z_sorted) (z_tuple := z_tuple), PySem.W.mg_of X G a0, k0, b0⟩
  have F1 := fun_mk (st := s_Stretches___iter) l1 c1 k1
  have b1 := F1.binds (ps := ["self"]) fun _ _ _ _ _ _ us hl => match us, hl with | [_], _ => rfl
  have IT_Stretches___iter : ∀ base, ItAt l.prog w K mg base 1 "Stretches" ["self"] (spIt K mg m_Stretches___iter) := fun base => ⟨C_Stretches, _, _, m_Stretches, ⟨a1, n1, nl_Stretches, nh_Stretches⟩, ok_Stretches___iter F1 (cl_Stretches := cl_Stretches) (na_Stretches_pairs := na_Stretches_pairs) (z_iter := z_iter), b1⟩
  have F2 := fun_mk (st := s_Stretches_each_place) l2 c2 k2
  have b2 := F2.binds (ps := ["self"]) fun _ _ _ _ _ _ us hl => match us, hl with | [_], _ => rfl
  have GN_Stretches_each_place : ∀ base, MethG l.prog w K mg base 1 "Stretches" "each_place" ["self"] (spN K mg m_Stretches_each_place) := fun base => ⟨C_Stretches, _, _, m_Stretches, ⟨pg_Stretches, hC_Stretches, po_Stretches, sa_Stretches⟩, ⟨a2, n2, k2⟩, ok_Stretches_each_place F2 (cl_Stretches := cl_Stretches) (na_Stretches_pairs := na_Stretches_pairs) (z_range := z_range), b2⟩
  have F3 := fun_mk (st := s_Stretches_total) l3 c3 k3
  have b3 := F3.binds (ps := ["self"]) fun _ _ _ _ _ _ us hl => match us, hl with | [_], _ => rfl
  have M_Stretches_total : ∀ base, NF.MethAt l.prog w K mg base 1 "Stretches" "total" ["self"] (spP K mg m_Stretches_total) := fun base => ⟨C_Stretches, _, _, m_Stretches, ⟨pg_Stretches, hC_Stretches, po_Stretches, sa_Stretches⟩, ⟨a3, n3, k3⟩, ok_Stretches_total F3 (cl_Stretches := cl_Stretches) (na_Stretches_pairs := na_Stretches_pairs) (z_sum := z_sum), b3⟩
  have F4 := fun_mk (st := s__law_cells) l4 c4 k4
  have b4 := F4.binds (ps := ["script"]) fun _ _ _ _ _ _ us hl => match us, hl with | [_], _ => rfl
  have D__law_cells : ∀ base, DefAt l.prog w K mg base CX0 1 "_law_cells" ["script"] (spF K mg m_law_cells) := fun base => ⟨_, _, ok__law_cells F4 (z_abs := z_abs) (z_int := z_int), PySem.W.mg_of X G a4, k4, b4⟩
  have F5 := fun_mk (st := s__law_draw) l5 c5 k5
  have b5 := F5.binds (ps := ["pool", "size"]) fun _ _ _ _ _ _ us hl => match us, hl with | [_, _], _ => rfl
  have D__law_draw : ∀ base, DefAt l.prog w K mg base CX0 1 "_law_draw" ["pool", "size"] (spI K mg m_law_draw) := fun base => ⟨_, _, ok__law_draw F5 (z_int := z_int) (z_len := z_len), PySem.W.mg_of X G a5, k5, b5⟩
  have F6 := fun_mk (st := s__law_pairs) l6 c6 k6
  have b6 := F6.binds (ps := ["places"]) fun _ _ _ _ _ _ us hl => match us, hl with | [_], _ => rfl
  have D__law_pairs : ∀ base, DefAt l.prog w K mg base CX0 1 "_law_pairs" ["places"] (spP K mg m_law_pairs) := fun base => ⟨_, _, ok__law_pairs F6 (z_set := z_set) (z_sorted := z_sorted) (z_tuple := z_tuple), PySem.W.mg_of X G a6, k6, b6⟩
  have F7 := fun_mk (st := s__law_led) l7 c7 k7
  have b7 := F7.binds (ps := ["places", "old"]) fun _ _ _ _ _ _ us hl => match us, hl with | [_, _], _ => rfl
  have D__law_led : ∀ base, DefAt l.prog w K mg base CX0 1 "_law_led" ["places", "old"] (spF K mg m_law_led) := fun base => ⟨_, _, ok__law_led F7 , PySem.W.mg_of X G a7, k7, b7⟩
  have F8 : FunD K "__init__" "Stretches.__init__" (defArgs s_Stretches___init) (defBody s_Stretches___init) (defScope s_Stretches___init) [V.ref aE8] [] f8 _ := ⟨⟨oc8, od8, .ref aD8, kV8, dc8, pm8, an8, cd8, ct8, sl8, rfl, l8, c8, .inr ⟨by simp, aD8, _, [.ref aE8], nD8, rfl, lD8, rfl, .cons rfl .nil⟩, .inl rfl⟩, k8⟩
  obtain ⟨ds1_8, v1_8, b8⟩ := F8.binds1 (ps := ["self", "pairs"]) 2 1 (by simp) rfl (fun T kV doc pm an cdv ct us its h1 h2 => match us, its, h1, h2 with | [_, _], [_], _, _ => ⟨_, rfl, rfl⟩)
  cases v1_8
  obtain ⟨ds0_8, v0_8, b0_8⟩ := F8.binds1 (ps := ["self", "pairs"]) 1 0 (by simp) rfl (fun T kV doc pm an cdv ct us its h1 h2 => match us, its, h1, h2 with | [_], [_], _, _ => ⟨_, rfl, rfl⟩)
  have K_Stretches___init : ∀ base, MkAt l.prog w K mg base 2 "Stretches" ["self", "pairs"] m_Stretches___init := fun base => ⟨rfl, C_Stretches, _, _, m_Stretches, ⟨mk_Stretches, a8, n8, kC_Stretches⟩, ok_Stretches___init F8 (D__merged := D__merged base) (cl_Stretches := cl_Stretches) (na_Stretches_pairs := na_Stretches_pairs), b8⟩
  have KD_Stretches___init : ∀ base, MkDf l.prog w K mg base 2 "Stretches" ["self", "pairs"] m_Stretches___init (Ar.mk (Sq.t []) ()) := fun base => ⟨rfl, C_Stretches, _, _, ds0_8, _, m_Stretches, ⟨mk_Stretches, a8, n8, kC_Stretches⟩, ok_Stretches___init F8 (D__merged := D__merged base) (cl_Stretches := cl_Stretches) (na_Stretches_pairs := na_Stretches_pairs), b0_8, v0_8, fun H => ⟨.ref aE8, [], rfl, ⟨aE8, [], rfl, .inr ⟨_, #[], _, lE8, rfl, rfl, by first | exact Nat.zero_le _ | rfl, by first | exact .nil | exact Nat.zero_le _⟩, .nil⟩, rfl⟩⟩
  have F9 := fun_mk (st := s__law_ordered) l9 c9 k9
  have b9 := F9.binds (ps := ["pool", "many"]) fun _ _ _ _ _ _ us hl => match us, hl with | [_, _], _ => rfl
  have D__law_ordered : ∀ base, DefAt l.prog w K mg base CX0 2 "_law_ordered" ["pool", "many"] (spI K mg m_law_ordered) := fun base => ⟨_, _, ok__law_ordered F9 (D__law_draw := D__law_draw base) (z_len := z_len) (z_list := z_list) (z_range := z_range), PySem.W.mg_of X G a9, k9, b9⟩
  have F10 := fun_mk (st := s__law_map) l10 c10 k10
  have b10 := F10.binds (ps := ["pool", "many"]) fun _ _ _ _ _ _ us hl => match us, hl with | [_, _], _ => rfl
  have D__law_map : ∀ base, DefAt l.prog w K mg base CX0 3 "_law_map" ["pool", "many"] (spI K mg m_law_map) := fun base => ⟨_, _, ok__law_map F10 (D__law_draw := D__law_draw base) (D__law_ordered := D__law_ordered base) (z_int := z_int) (z_range := z_range), PySem.W.mg_of X G a10, k10, b10⟩
  have F11 := fun_mk (st := s_Stretches_covering) l11 c11 k11
  have b11 := F11.binds (ps := ["places"]) fun _ _ _ _ _ _ us hl => match us, hl with | [_], _ => rfl
  have SA_Stretches_covering : ∀ base, StatAt l.prog w K mg base 4 "Stretches" "covering" ["places"] (spP K mg m_Stretches_covering) := fun base => ⟨C_Stretches, pS11, _, _, m_Stretches, ⟨rd_Stretches, gt_Stretches⟩, a11, ⟨_, r11⟩, k11, ok_Stretches_covering F11 (K_Stretches___init := K_Stretches___init base), b11⟩
  have F12 := fun_mk (st := s_Stretches_moved) l12 c12 k12
  have b12 := F12.binds (ps := ["self", "places"]) fun _ _ _ _ _ _ us hl => match us, hl with | [_, _], _ => rfl
  have M_Stretches_moved : ∀ base, NF.MethAt l.prog w K mg base 5 "Stretches" "moved" ["self", "places"] (spP K mg m_Stretches_moved) := fun base => ⟨C_Stretches, _, _, m_Stretches, ⟨pg_Stretches, hC_Stretches, po_Stretches, sa_Stretches⟩, ⟨a12, n12, k12⟩, ok_Stretches_moved F12 (GN_Stretches_each_place := GN_Stretches_each_place base) (SA_Stretches_covering := SA_Stretches_covering base), b12⟩
  have F13 := fun_mk (st := s__law_is) l13 c13 k13
  have b13 := F13.binds (ps := ["told", "places"]) fun _ _ _ _ _ _ us hl => match us, hl with | [_, _], _ => rfl
  have D__law_is : ∀ base, DefAt l.prog w K mg base CX0 5 "_law_is" ["told", "places"] (spP K mg m_law_is) := fun base => ⟨_, _, ok__law_is F13 (ia_Stretches := ia_Stretches) (cl_Stretches := cl_Stretches) (na_Stretches_pairs := na_Stretches_pairs) (D__law_pairs := D__law_pairs base) (IT_Stretches___iter := IT_Stretches___iter base) (GN_Stretches_each_place := GN_Stretches_each_place base) (z_set := z_set) (M_Stretches_total := M_Stretches_total base) (z_bool := z_bool) (z_isinstance := z_isinstance) (z_len := z_len) (z_list := z_list) (z_sorted := z_sorted) (z_tuple := z_tuple), PySem.W.mg_of X G a13, k13, b13⟩
  have F14 := fun_mk (st := s__law_moved) l14 c14 k14
  have b14 := F14.binds (ps := ["told", "places", "old"]) fun _ _ _ _ _ _ us hl => match us, hl with | [_, _, _], _ => rfl
  have D__law_moved : ∀ base, DefAt l.prog w K mg base CX0 6 "_law_moved" ["told", "places", "old"] (spP K mg m_law_moved) := fun base => ⟨_, _, ok__law_moved F14 (M_Stretches_moved := M_Stretches_moved base) (D__law_led := D__law_led base) (D__law_is := D__law_is base) (z_list := z_list) (z_tuple := z_tuple), PySem.W.mg_of X G a14, k14, b14⟩
  have F15 := fun_mk (st := s__law_back) l15 c15 k15
  have b15 := F15.binds (ps := ["told", "places", "old"]) fun _ _ _ _ _ _ us hl => match us, hl with | [_, _, _], _ => rfl
  have D__law_back : ∀ base, DefAt l.prog w K mg base CX0 6 "_law_back" ["told", "places", "old"] (spP K mg m_law_back) := fun base => ⟨_, _, ok__law_back F15 (M_Stretches_moved := M_Stretches_moved base) (D__law_is := D__law_is base) (z_len := z_len) (z_list := z_list) (z_range := z_range) (z_sorted := z_sorted), PySem.W.mg_of X G a15, k15, b15⟩
  have F16 := fun_mk (st := s_law) l16 c16 k16
  exact ⟨_, fun s v => .of_eq rfl, fun base _ _ => law_of (ok_law F16 (D__law_cells := D__law_cells base) (D__law_draw := D__law_draw base) (D__law_map := D__law_map base) (K_Stretches___init := K_Stretches___init base) (D__law_is := D__law_is base) (D__law_moved := D__law_moved base) (D__law_back := D__law_back base) (D__law_led := D__law_led base) (M_Stretches_moved := M_Stretches_moved base) (z_set := z_set) (SA_Stretches_covering := SA_Stretches_covering base) (GN_Stretches_each_place := GN_Stretches_each_place base) (z_int := z_int) (z_len := z_len) (z_list := z_list) (z_range := z_range) (z_sorted := z_sorted) (z_tuple := z_tuple)) math⟩
end
end K22
open PySem PySem.W PyProof.Rows
set_option maxHeartbeats 0 in
theorem PySem.Challenge.cw_colonnade_k22_stretches_moved_holds : PySem.Challenge.rw_colonnade_k22_stretches_moved.Holds := by
  w_on; o_law; k_head; (case hw => w_witness2)
  k_fill
  refine L2.walk_of (l := PySem.Challenge.rw_colonnade_k22_stretches_moved) (n := 63) (k := 7) (x := "script") (CX := fun _ => L2.CX0) (sp := fun w => NF.spLaw _ 63) rfl (by decide) rfl ⟨rfl, by decide, by decide⟩ (fun w h Y => PySem.W.kIn_of Y) ?F (fun _ _ a ns hl _ hS => ⟨a, ns, rfl, hS, hl, fun _ => rfl⟩) (fun _ _ _ _ _ h => h)
  case F =>
    intro w mg fa h KX G hmg
    refine' K22.all_mk K22.math KX G hmg ?a_Stretches ?a0 ?l0 ?c0 ?k0 ?a1 ?l1 ?c1 ?k1 ?n1 ?a2 ?l2 ?c2 ?k2 ?n2 ?a3 ?l3 ?c3 ?k3 ?n3 ?a4 ?l4 ?c4 ?k4 ?a5 ?l5 ?c5 ?k5 ?a6 ?l6 ?c6 ?k6 ?a7 ?l7 ?c7 ?k7 ?a8 ?l8 ?lD8 ?lE8 ?c8 ?k8 ?n8 ?a9 ?l9 ?c9 ?k9 ?a10 ?l10 ?c10 ?k10 ?a11 ?r11 ?l11 ?c11 ?k11 ?n11 ?a12 ?l12 ?c12 ?k12 ?n12 ?a13 ?l13 ?c13 ?k13 ?a14 ?l14 ?c14 ?k14 ?a15 ?l15 ?c15 ?k15 ?a16 ?l16 ?c16 ?k16 ?y_max ?y_sorted ?y_tuple ?pg_Stretches ?hC_Stretches ?po_Stretches ?sa_Stretches ?kC_Stretches ?nf_Stretches_pairs ?y_iter ?y_range ?y_sum ?y_abs ?y_int ?y_len ?y_set ?y_list ?mk_Stretches ?rd_Stretches ?gt_Stretches ?cc_Stretches ?cn ?ct ?mo_Stretches ?nl_Stretches ?nh_Stretches ?y_bool ?y_isinstance
    (case a_Stretches => k_is)
    (case a0 => k_is)
    (case l0 => k_is)
    (case c0 => k_is)
    (case k0 => k_is)
    (case a1 => k_is)
    (case l1 => k_is)
    (case c1 => k_is)
    (case k1 => k_is)
    (case n1 => k_is)
    (case a2 => k_is)
    (case l2 => k_is)
    (case c2 => k_is)
    (case k2 => k_is)
    (case n2 => k_is)
    (case a3 => k_is)
    (case l3 => k_is)
    (case c3 => k_is)
    (case k3 => k_is)
    (case n3 => k_is)
    (case a4 => k_is)
    (case l4 => k_is)
    (case c4 => k_is)
    (case k4 => k_is)
    (case a5 => k_is)
    (case l5 => k_is)
    (case c5 => k_is)
    (case k5 => k_is)
    (case a6 => k_is)
    (case l6 => k_is)
    (case c6 => k_is)
    (case k6 => k_is)
    (case a7 => k_is)
    (case l7 => k_is)
    (case c7 => k_is)
    (case k7 => k_is)
    (case a8 => k_is)
    (case l8 => k_is)
    (case lD8 => k_is)
    (case lE8 => k_is)
    (case c8 => k_is)
    (case k8 => k_is)
    (case n8 => k_is)
    (case a9 => k_is)
    (case l9 => k_is)
    (case c9 => k_is)
    (case k9 => k_is)
    (case a10 => k_is)
    (case l10 => k_is)
    (case c10 => k_is)
    (case k10 => k_is)
    (case a11 => k_is)
    (case r11 => k_is)
    (case l11 => k_is)
    (case c11 => k_is)
    (case k11 => k_is)
    (case n11 => k_is)
    (case a12 => k_is)
    (case l12 => k_is)
    (case c12 => k_is)
    (case k12 => k_is)
    (case n12 => k_is)
    (case a13 => k_is)
    (case l13 => k_is)
    (case c13 => k_is)
    (case k13 => k_is)
    (case a14 => k_is)
    (case l14 => k_is)
    (case c14 => k_is)
    (case k14 => k_is)
    (case a15 => k_is)
    (case l15 => k_is)
    (case c15 => k_is)
    (case k15 => k_is)
    (case a16 => k_is)
    (case l16 => k_is)
    (case c16 => k_is)
    (case k16 => k_is)
    (case y_max => k_is)
    (case y_sorted => k_is)
    (case y_tuple => k_is)
    (case pg_Stretches => k_is)
    (case hC_Stretches => k_is)
    (case po_Stretches => k_is)
    (case sa_Stretches => k_is)
    (case kC_Stretches => k_is)
    (case nf_Stretches_pairs => k_is)
    (case y_iter => k_is)
    (case y_range => k_is)
    (case y_sum => k_is)
    (case y_abs => k_is)
    (case y_int => k_is)
    (case y_len => k_is)
    (case y_set => k_is)
    (case y_list => k_is)
    (case mk_Stretches => k_is)
    (case rd_Stretches => k_is)
    (case gt_Stretches => k_is)
    (case cc_Stretches => k_is)
    (case cn => k_is)
    (case ct => k_is)
    (case mo_Stretches => k_is)
    (case nl_Stretches => k_is)
    (case nh_Stretches => k_is)
    (case y_bool => k_is)
    (case y_isinstance => k_is)
