/- A map keyed by places: raw laws on its block: which key is found, an entry laid, an entry written, the look-up. Nothing of a program's functions. -/
import Derived.Test.YtdocclkphffpkaaGreatMerge5
import Derived.Test.YtdocclkphffpkaaGreatCalm
import Derived.Maps.RangeRun
namespace Go.Proofs.YtdocclkphffpkaaGreat
open Go.RowKit
open Go.ChangeMaps (setBlock)

abbrev MT : TypeId := 135
abbrev Spot := Nat × Nat
def SpotOk (p : Spot) : Prop := p.1 < 24 ∧ p.2 < 16
theorem spot_good {p : Spot} (h : SpotOk p) : Good (some p) := fun _ e => by cases e; exact h

/-- The keys, in the order in which they came. -/
structure KeysAre (es : Array MapEntry) (E : List Spot) : Prop where
  size : es.size = E.length
  at_ : ∀ (j : Nat) (p : Spot), E[j]? = some p → ∃ e, es[j]? = some e ∧ e.key = zval (some p) ∧ e.born = j
  ok : ∀ p ∈ E, SpotOk p
theorem KeysAre.nil : KeysAre #[] [] := ⟨rfl, fun j p h => (by cases h), fun p h => (by cases h)⟩

theorem run_equalIn_place (d : Nat) {w : World} {p q : Spot} (hp : SpotOk p) (hq : SpotOk q) : (Op.equalIn (d + 1) 55 (.complex .f64 (zre (some p)) (zim (some p))) (.complex .f64 (zre (some q)) (zim (some q)))).run Tryz.prog w = .ok (decide (p = q)) w := by
  have h := z_order (spot_good hp) (spot_good hq)
  simp only [Op.equalIn, Sem.run_bind, run_underlying Tryz.underlying55 w, Result.andThen_ok, if_true, Sem.run_pure, Op.floatEq]
  congr 1
  by_cases e : p = q
  · obtain ⟨h1, h2⟩ := h.1 (by rw [e])
    rw [h1, h2]
    simp [e]
  · rcases h.2 (fun h => e (Option.some.inj h)) with h1 | ⟨h1, h2⟩
    · rw [h1]; simp [e]
    · rw [h1, h2]; simp [e]
theorem run_equal_place {w : World} {p q : Spot} (hp : SpotOk p) (hq : SpotOk q) : (Op.equal 55 (zval (some p)) (zval (some q))).run Tryz.prog w = .ok (decide (p = q)) w :=
  run_equalIn_place 9999 hp hq

/-- Where p stands in a list. -/
def findAt (p : Spot) : List Spot → Nat → Option Nat
  | [], _ => none
  | q :: l, i => if p = q then some i else findAt p l (i + 1)
theorem findAt_none {p : Spot} : ∀ {l : List Spot} {i : Nat}, findAt p l i = none ↔ p ∉ l
  | [], i => by simp [findAt]
  | q :: l, i => by
    unfold findAt
    by_cases h : p = q
    · rw [if_pos h]; simp [h]
    · rw [if_neg h, findAt_none]; simp [h]
theorem findAt_some {p : Spot} : ∀ {l : List Spot} {i j : Nat}, findAt p l i = some j → ∃ k, j = i + k ∧ l[k]? = some p
  | [], i, j, h => by cases h
  | q :: l, i, j, h => by
    unfold findAt at h
    by_cases e : p = q
    · rw [if_pos e] at h
      cases h
      exact ⟨0, rfl, by rw [e]; rfl⟩
    · rw [if_neg e] at h
      obtain ⟨k, hk, hl⟩ := findAt_some h
      exact ⟨k + 1, by omega, hl⟩

theorem run_asking {w : World} {p : Spot} (hp : SpotOk p) : ∀ (es : List MapEntry) (E : List Spot) (i : Nat), es.length = E.length → (∀ (j : Nat) (q : Spot), E[j]? = some q → ∃ e : MapEntry, es[j]? = some e ∧ e.key = zval (some q)) → (∀ q ∈ E, SpotOk q) →
    (Instr.findAsking 55 (zval (some p)) es i).run Tryz.prog w = .ok ((findAt p E i).map fun j => (j, ((es[j - i]?).map (·.val)).getD undef)) w
  | [], [], i, _, _, _ => by simp [Instr.findAsking, findAt]
  | [], _ :: _, _, h, _, _ => by cases h
  | _ :: _, [], _, h, _, _ => by cases h
  | e :: es, q :: E, i, hl, hk, hok => by
    obtain ⟨e', he, hkey⟩ := hk 0 q rfl
    obtain rfl : e = e' := Option.some.inj he
    have ih := run_asking (w := w) hp es E (i + 1) (by simpa using hl) (fun j r hj => hk (j + 1) r hj) fun r hr => hok r (List.mem_cons_of_mem _ hr)
    simp only [Instr.findAsking, Sem.run_bind, hkey, run_equal_place hp (hok q List.mem_cons_self), Result.andThen_ok]
    unfold findAt
    by_cases h : p = q
    · rw [if_pos h]
      simp [h, Sem.run_pure]
    · rw [if_neg h]
      simp only [h, decide_false, Bool.false_eq_true, if_false]
      rw [ih]
      congr 1
      cases hf : findAt p E (i + 1) with
      | none => rfl
      | some j =>
        obtain ⟨k, rfl, _⟩ := findAt_some hf
        simp only [Option.map_some]
        rw [show i + 1 + k - (i + 1) = k by omega, show i + 1 + k - i = k + 1 by omega]
        rfl

theorem run_key {w : World} {p : Spot} (hp : SpotOk p) {es : Array MapEntry} {E : List Spot} (h : KeysAre es E) :
    (Instr.findKey 55 (zval (some p)) es.toList).run Tryz.prog w = .ok ((findAt p E 0).map fun j => (j, ((es[j]?).map (·.val)).getD undef)) w := by
  have ha := run_asking (w := w) hp es.toList E 0 (by rw [Array.length_toList]; exact h.size) (fun j q hj => by
    obtain ⟨e, he, hk, _⟩ := h.at_ j q hj
    exact ⟨e, by rw [Array.getElem?_toList]; exact he, hk⟩) h.ok
  simp only [Nat.sub_zero, Array.getElem?_toList] at ha
  cases hl : es.toList with
  | nil =>
    rw [hl] at ha
    have hE : E = [] := by
      have := h.size
      rw [← Array.length_toList, hl] at this
      exact List.eq_nil_of_length_eq_zero this.symm
    subst hE
    simp [Instr.findKey, run_underlying Tryz.underlying55, Instr.findNow, findAt]
  | cons e r =>
    rw [hl] at ha
    have hn : Instr.findNow (.complex .f64) (zval (some p)) (e :: r) 0 = none := by
      simp [Instr.findNow, Instr.sameNow]
    simp only [Instr.findKey, Sem.run_bind, run_underlying Tryz.underlying55, Result.andThen_ok, hn]
    exact ha
theorem run_check_in (d : Nat) {w : World} (p : Pl) (b : Bool) : (Instr.checkKey b (d + 1) 55 (.complex .f64 (zre p) (zim p))).run Tryz.prog w = .ok () w := by
  simp [Instr.checkKey, run_underlying Tryz.underlying55]
theorem run_check {w : World} (p : Pl) (b : Bool) : (Instr.checkKey b 10000 55 (zval p)).run Tryz.prog w = .ok () w := run_check_in 9999 p b
end Go.Proofs.YtdocclkphffpkaaGreat
