/- Calls of a device, and their writes, as they come in. -/
import Derived.Test.YtcnoadikkfedaaaRefPutOk
import Derived.Test.YtcnoadikkfedaaaBulk
import Derived.Deep.Slices
import Derived.Deep.Fields
import Derived.ChangeSame
namespace Go.Proofs.Ytcnoadikkfedaaa
open Go.ChangeShapes Go.WideShapes Go.ChangeAt Go.RowKit Go.Deep

section
variable {H : Type} {enc : TypeId × Value → H} {P : Program} {W : World}

/-- Rows of one-cell fields that came in: each field of each row, read by itself. -/
theorem open_rows {t e : TypeId} {fs : Array Field} (ht : P.underlying t = some (.slice e)) (he : P.underlying e = some (.struct fs)) (hone : oneCellFields P fs = true) (hC : P.cellsOf e = fs.size)
    {v : Value} {k : Nat} {x : DataW H × List MemPlace} (h : DataW.trod enc P W 0 (fun _ => true) true k t [v] = some x) :
    ∃ A m c, v = .slice A m c ∧ m ≤ c ∧ c ≤ 9223372036854775807 ∧ (A = none → m = 0 ∧ c = 0) ∧ ((x.1 = .nil ∧ m = 0) ∨ ∃ el sp, x.1 = .slice el sp ∧ el.length = m) ∧
      ∀ i, i < m → ∃ ad, A = some ad ∧ ∃ ds : List (DataW H), Rows.uptoBulkAll ds ≤ Rows.uptoBulk x.1 ∧
        ∀ j f, fs[j]? = some f → ∃ u y q, W.cell? (ad.add (i * fs.size + j)) = some u ∧ y.1 ∈ ds ∧ DataW.trod enc P W 0 (fun _ => true) true q f.type [u] = some y := by
  rcases open_slice ht h with ⟨h1, rfl⟩ | ⟨a, len, cap, m, n, D, Pl, h1, -, hl, hm, hmm, rfl, hi⟩
  · obtain rfl : v = .slice none 0 0 := by simpa using h1
    exact ⟨none, 0, 0, rfl, Nat.le_refl _, by omega, fun _ => ⟨rfl, rfl⟩, .inl ⟨rfl, rfl⟩, fun i hi => absurd hi (by omega)⟩
  · obtain rfl : v = .slice (some a) len cap := by simpa using h1
    have hmc : m = cap := by simpa using hmm
    refine ⟨some a, len, cap, rfl, hl, by unfold maxLen at hm; exact hm, (fun h => by cases h), .inr ⟨_, _, rfl, by simp⟩, fun i hi' => ⟨a, rfl, ?_⟩⟩
    obtain ⟨cs, hc, htr⟩ := hi i (by omega)
    rw [hC] at hc
    obtain ⟨ys, q, -, hy, hlen, hyl, hf⟩ := DataW.trod_struct he htr
    obtain ⟨-, hcl, hat⟩ := World.cells?_some hc
    simp only [Prod.mk.injEq] at hy
    refine ⟨ys.map (·.1), ?_, fun j f hj => ?_⟩
    · have h2 : D i ∈ (List.range len).map D := List.mem_map.2 ⟨i, List.mem_range.2 hi', rfl⟩
      have h3 := bulk_in h2
      rw [hy.1] at h3
      simp only [Rows.uptoBulk] at h3 ⊢
      omega
    · obtain ⟨ho, hk⟩ := hone_of hone j f hj
      have hjl : j < fs.size := (Array.getElem?_eq_some_iff.1 hj).1
      have hv : cs[j]? = some (cs[j]'(by omega)) := List.getElem?_eq_getElem (by omega)
      have h1 := hf j f hj
      rw [ho, hk, List.drop_eq_getElem_cons (by omega)] at h1
      have hys : ys[j]? = some (ys[j]'(by omega)) := List.getElem?_eq_getElem (by omega)
      refine ⟨cs[j]'(by omega), ys[j]'(by omega), q, ?_, List.mem_map.2 ⟨_, List.getElem_mem _, rfl⟩, ?_⟩
      · rw [← Go.Deep.add_add, hat j hjl, hv]
      · rw [← hys, ← h1]
        rfl

theorem ints_cell {T E : TypeId} {k : IntKind} (hT : P.underlying T = some (.slice E)) (hE : P.underlying E = some (.int k)) (hc : P.cellsOf E = 1)
    {v : Value} {q : Nat} {x : DataW H × List MemPlace} (h : DataW.trod enc P W 0 (fun _ => true) true q T [v] = some x) : ∃ A m c Z, v = .slice A m c ∧ IntsIn W k A m c Z := by
  have h0 : ∃ A m c, v = .slice A m c := by
    rcases open_ints hT hE hc h with ⟨h1, -⟩ | ⟨a, len, cap, -, h1, -⟩
    · exact ⟨_, _, _, by simpa using h1⟩
    · exact ⟨_, _, _, by simpa using h1⟩
  obtain ⟨A, m, c, rfl⟩ := h0
  obtain ⟨Z, hz, -⟩ := view_ints (d := x.1) (p := x.2) hT hE hc ⟨q, h⟩
  exact ⟨A, m, c, Z, rfl, hz⟩
end

section
variable {H : Type} {enc : TypeId × Value → H} {W : World}
theorem writes_cell {v : Value} {q : Nat} {x : DataW H × List MemPlace} (h : DataW.trod enc Try.prog W 0 (fun _ => true) true q 31 [v] = some x) :
    ∃ A n c z u l f, v = .slice A n c ∧ WritesIn W A n z u l f ∧ n ≤ Rows.uptoBulk x.1 := by
  obtain ⟨A, n, c, rfl, -, -, -, hx, hi⟩ := open_rows Try.underlying31 Try.underlying53 (by kernel_rfl) (by kernel_rfl) h
  have hP : ∀ i, ∃ y : Int × Value × Nat × (Nat → Nat), i < n → (∃ ad, A = some ad ∧ W.cell? (ad.add (i * 2)) = some (.int .i64 y.1) ∧ W.cell? (ad.add (i * 2 + 1)) = some y.2.1) ∧ Reads W y.2.1 y.2.2.1 y.2.2.2 ∧
      -9223372036854775808 ≤ y.1 ∧ y.1 ≤ 9223372036854775807 := by
    intro i
    by_cases hin : i < n
    · obtain ⟨ad, rfl, ds, -, hf⟩ := hi i hin
      obtain ⟨u0, y0, q0, c0, -, t0⟩ := hf 0 _ rfl
      obtain ⟨u1, y1, q1, c1, -, t1⟩ := hf 1 _ rfl
      obtain ⟨z, hz, -, wz⟩ := DataW.trod_int Try.underlying3 t0
      obtain ⟨A', m, c', Z, rfl, hI⟩ := ints_cell Try.underlying37 Try.underlying5 (by kernel_rfl) t1
      obtain rfl : u0 = .int .i64 z := by simpa using hz
      exact ⟨(z, .slice A' m c', m, ofInts Z), fun _ => ⟨⟨ad, rfl, c0, c1⟩, reads_in hI, i64_wf wz⟩⟩
    · exact ⟨(0, .slice none 0 0, 0, fun _ => 0), fun h => absurd h hin⟩
  obtain ⟨Q, hQ⟩ := Classical.axiomOfChoice hP
  refine ⟨A, n, c, fun i => (Q i).1, fun i => (Q i).2.1, fun i => (Q i).2.2.1, fun i => (Q i).2.2.2, rfl, ⟨fun i hi => (hQ i hi).1, fun i hi => (hQ i hi).2.1, fun i hi => (hQ i hi).2.2⟩, ?_⟩
  rcases hx with ⟨_, rfl⟩ | ⟨el, sp, hx, rfl⟩
  · exact Nat.zero_le _
  · rw [hx]
    have := bulk_count el
    simp only [Rows.uptoBulk]
    omega
end

/-- One call. -/
structure ActData where
  what : Int
  num : Int
  A : Option Addr
  n : Nat
  c : Nat
  z : Nat → Int
  v : Nat → Value
  l : Nat → Nat
  f : Nat → Nat → Nat
  A' : Option Addr
  n' : Nat
  c' : Nat
  Z : List Int
def ActData.cells (x : ActData) : List Value := [.int .i64 x.what, .int .i64 x.num, .slice x.A x.n x.c, .slice x.A' x.n' x.c']

structure ActIs (w : World) (x : ActData) : Prop where
  what : -9223372036854775808 ≤ x.what ∧ x.what ≤ 9223372036854775807
  num : -9223372036854775808 ≤ x.num ∧ x.num ≤ 9223372036854775807
  list : WritesIn w x.A x.n x.z x.v x.l x.f
  keep : IntsIn w .i64 x.A' x.n' x.c' x.Z

/-- Calls that came in. -/
structure ActsIn (w : World) (A : Option Addr) (n c : Nat) (X : Nat → ActData) : Prop where
  cap : n ≤ c
  most : c ≤ 9223372036854775807
  cell : ∀ i, i < n → ∃ ad, A = some ad ∧ w.cell? (ad.add (i * 4)) = some (.int .i64 (X i).what) ∧ w.cell? (ad.add (i * 4 + 1)) = some (.int .i64 (X i).num) ∧
    w.cell? (ad.add (i * 4 + 2)) = some (.slice (X i).A (X i).n (X i).c) ∧ w.cell? (ad.add (i * 4 + 3)) = some (.slice (X i).A' (X i).n' (X i).c')
  act : ∀ i, i < n → ActIs w (X i)

section
variable {H : Type} {enc : TypeId × Value → H} {W : World}
theorem view_acts {A : Option Addr} {n c : Nat} {d : DataW H} {p : List MemPlace} (h : DataW.Trod enc Try.prog W 0 (fun _ => true) true 22 (.slice A n c) d p) :
    ∃ X, ActsIn W A n c X ∧ ∀ i, i < n → (X i).n ≤ Rows.uptoBulk d := by
  obtain ⟨q, hq⟩ := h
  obtain ⟨A1, n1, c1, h1, hl, hm, -, hx, hi⟩ := open_rows (v := .slice A n c) Try.underlying22 Try.underlying34 (by kernel_rfl) (by kernel_rfl) hq
  obtain ⟨rfl, rfl, rfl⟩ : A = A1 ∧ n = n1 ∧ c = c1 := by simpa using h1
  have hP : ∀ i, ∃ y : ActData, i < n → ((∃ ad, A = some ad ∧ W.cell? (ad.add (i * 4)) = some (.int .i64 y.what) ∧ W.cell? (ad.add (i * 4 + 1)) = some (.int .i64 y.num) ∧
      W.cell? (ad.add (i * 4 + 2)) = some (.slice y.A y.n y.c) ∧ W.cell? (ad.add (i * 4 + 3)) = some (.slice y.A' y.n' y.c')) ∧ ActIs W y) ∧ y.n ≤ Rows.uptoBulk d := by
    intro i
    by_cases hin : i < n
    · obtain ⟨ad, rfl, ds, hb, hf⟩ := hi i hin
      obtain ⟨u0, y0, q0, k0, -, t0⟩ := hf 0 _ rfl
      obtain ⟨u1, y1, q1, k1, -, t1⟩ := hf 1 _ rfl
      obtain ⟨u2, y2, q2, k2, m2, t2⟩ := hf 2 _ rfl
      obtain ⟨u3, y3, q3, k3, -, t3⟩ := hf 3 _ rfl
      obtain ⟨z0, hz0, -, w0⟩ := DataW.trod_int Try.underlying3 t0
      obtain ⟨z1, hz1, -, w1⟩ := DataW.trod_int Try.underlying3 t1
      obtain ⟨A2, n2, c2, z, u, l, f, rfl, hw, hbw⟩ := writes_cell t2
      obtain ⟨A3, n3, c3, Z, rfl, hI⟩ := ints_cell Try.underlying32 Try.underlying3 (by kernel_rfl) t3
      obtain rfl : u0 = .int .i64 z0 := by simpa using hz0
      obtain rfl : u1 = .int .i64 z1 := by simpa using hz1
      have := bulk_in m2
      have hb' : Rows.uptoBulkAll ds ≤ Rows.uptoBulk d := hb
      exact ⟨⟨z0, z1, A2, n2, c2, z, u, l, f, A3, n3, c3, Z⟩, fun _ => ⟨⟨⟨ad, rfl, k0, k1, k2, k3⟩, ⟨i64_wf w0, i64_wf w1, hw, hI⟩⟩, by show n2 ≤ _; omega⟩⟩
    · exact ⟨⟨0, 0, none, 0, 0, fun _ => 0, fun _ => .slice none 0 0, fun _ => 0, fun _ _ => 0, none, 0, 0, []⟩, fun h => absurd h hin⟩
  obtain ⟨X, hX⟩ := Classical.axiomOfChoice hP
  exact ⟨X, ⟨hl, hm, fun i hi => (hX i hi).1.1, fun i hi => (hX i hi).1.2⟩, fun i hi => (hX i hi).2⟩
end
end Go.Proofs.Ytcnoadikkfedaaa
