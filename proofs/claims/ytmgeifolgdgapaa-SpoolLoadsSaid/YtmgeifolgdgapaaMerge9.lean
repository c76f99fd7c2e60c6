/- Put. One write at a time; the first facts; no device. One write, while the power is on for good; writes of pages behind one another. A device that a statement makes, and writes into. -/
import Derived.Test.YtmgeifolgdgapaaMerge7
import Derived.Deep.AppendLies
import Derived.Deep.RegionLaw
import Derived.Great.BuildSlice
namespace Go.Proofs.Ytmgeifolgdgapaa
open Go.RowKit

/-- One write: is it performed, and the device behind it. -/
def Dev.put1 (D : Dev) (x : Wr) : Bool × Dev := if D.power.1 = true then (true, { D.power.2 with loose := D.power.2.loose ++ [x] }) else (false, D.power.2)
/-- The first i writes. -/
def Dev.puts (D : Dev) (x : Nat → Wr) : Nat → Bool × Dev
  | 0 => (true, D)
  | i + 1 => if (D.puts x i).1 = true then (D.puts x i).2.put1 (x i) else D.puts x i
theorem puts_stop {D : Dev} {x : Nat → Wr} {i : Nat} (h : (D.puts x i).1 = false) : ∀ n, i ≤ n → D.puts x n = D.puts x i
  | 0, hn => by
    have : i = 0 := by omega
    rw [this]
  | n + 1, hn => by
    rcases Nat.lt_or_ge n i with h1 | h1
    · obtain rfl : i = n + 1 := by omega
      rfl
    · have h2 := puts_stop h n h1
      show (if (D.puts x n).1 = true then (D.puts x n).2.put1 (x n) else D.puts x n) = _
      rw [h2, if_neg (by rw [h]; simp)]
theorem power_same (D : Dev) : D.power.2.size = D.size ∧ D.power.2.loose = D.loose ∧ D.power.2.sure = D.sure := by
  unfold Dev.power
  split
  · exact ⟨rfl, rfl, rfl⟩
  · split
    · exact ⟨rfl, rfl, rfl⟩
    · split <;> exact ⟨rfl, rfl, rfl⟩
theorem puts_same (D : Dev) (x : Nat → Wr) : ∀ n, (D.puts x n).2.size = D.size ∧ (D.puts x n).2.loose.length ≤ D.loose.length + n ∧ (D.puts x n).2.sure = D.sure
  | 0 => ⟨rfl, Nat.le_refl _, rfl⟩
  | n + 1 => by
    obtain ⟨h1, h2, h3⟩ := puts_same D x n
    obtain ⟨p1, p2, p3⟩ := power_same (D.puts x n).2
    show (if (D.puts x n).1 = true then (D.puts x n).2.put1 (x n) else D.puts x n).2.size = _ ∧ (if (D.puts x n).1 = true then (D.puts x n).2.put1 (x n) else D.puts x n).2.loose.length ≤ _ ∧ (if (D.puts x n).1 = true then (D.puts x n).2.put1 (x n) else D.puts x n).2.sure = _
    split
    · unfold Dev.put1
      split
      · refine ⟨p1.trans h1, ?_, p3.trans h3⟩
        show (((D.puts x n).2.power.2.loose) ++ [x n]).length ≤ _
        rw [p2]
        simp
        omega
      · exact ⟨p1.trans h1, by rw [p2]; omega, p3.trans h3⟩
    · exact ⟨h1, by omega, h3⟩

def Dev.putsCode (D : Dev) (x : Nat → Wr) (n : Nat) : Int := if (D.puts x n).1 = true then 0 else 10
/-- What Put answers. -/
def Written (w : World) (base g h : Nat) (L : Value) (D' : Dev) (x : Int) (e : Ending) (w' : World) : Prop :=
  ∃ L', e = .returned (.int .i64 x) ∧ IsDev w' base g h L' D' ∧ Apart (foot g h L) w w' ∧ ∀ k, L'.ownBlock = some k → L.ownBlock = some k ∨ w.heap.size ≤ k

theorem IsDev.boxed {w : World} {base g h : Nat} {L : Value} {D : Dev} (d : IsDev w base g h L D) (ho : D.off = false) : (w.alloc (.cells #[.pointer (some ⟨g, 0, none⟩)] 23)).cell? ⟨g, 2, none⟩ = some (.bool false) := by
  have := (d.below ((Below.refl _ _).alloc (Nat.le_refl _) (.cells #[.pointer (some ⟨g, 0, none⟩)] 23))).cells.2.2.1
  rwa [ho] at this

set_option maxRecDepth 100000 in
theorem dev_put_down {w : World} {base g h : Nat} {L : Value} {D : Dev} (d : IsDev w base g h L D) (v : Value) (ho : D.off = true) :
    Calls Try.prog 7 #[.pointer (some ⟨g, 0, none⟩), v] w (Written w base g h L D 10) := by
  have c2 := (d.below ((Below.refl _ _).alloc (Nat.le_refl _) (.cells #[.pointer (some ⟨g, 0, none⟩)] 23))).cells.2.2.1
  rw [ho] at c2
  have HD := Lib.hid d
  clear d
  go_enter Try.func7, Try.ntmps7
  go_wp2
  go_ret
  have hb : Below w.heap.size w (w.alloc (.cells #[.pointer (some ⟨g, 0, none⟩)] 23)) := (Below.refl _ _).alloc (Nat.le_refl _) _
  exact ⟨L, rfl, HD.out.below hb, Apart.of_below hb, fun _ e => .inl e⟩

set_option maxRecDepth 100000 in
theorem dev_put_len {w : World} {base g h : Nat} {L : Value} {D : Dev} (d : IsDev w base g h L D) {A : Option Addr} {n c : Nat} {z : Nat → Int} {v : Nat → Value} {l : Nat → Nat} {f : Nat → Nat → Nat} (s : WritesIn w A n z v l f) (hn : n ≤ 9223372036854775807)
    (ho : D.off = false) (hl : anyB n (shortB l) = true) :
    Calls Try.prog 7 #[.pointer (some ⟨g, 0, none⟩), .slice A n c] w (Written w base g h L D 6) := by
  have c2 := d.boxed ho
  have HD := Lib.hid d
  have HS := Lib.hid s
  have HL := Lib.hid hl
  clear d s hl
  have hb : Below w.heap.size w (w.alloc (.cells #[.pointer (some ⟨g, 0, none⟩)] 23)) := (Below.refl _ _).alloc (Nat.le_refl _) _
  have HB := Lib.hid hb
  clear hb
  go_enter Try.func7, Try.ntmps7
  go_wp2_with fail
  refine (contains_short (c := c) (HS.out.below HB.out) hn).mono ?_
  rintro e w2 ⟨rfl, hb2⟩
  have B2 : Hid (Below w.heap.size w w2) := Lib.hid (HB.out.trans (hb2.mono HB.out.size))
  rw [HL.out]
  clear hb2
  go_wp2
  go_ret
  exact ⟨L, rfl, HD.out.below B2.out, Apart.of_below B2.out, fun _ e => .inl e⟩

set_option maxRecDepth 100000 in
theorem dev_put_range {w : World} {base g h : Nat} {L : Value} {D : Dev} (d : IsDev w base g h L D) {A : Option Addr} {n c : Nat} {z : Nat → Int} {v : Nat → Value} {l : Nat → Nat} {f : Nat → Nat → Nat} (s : WritesIn w A n z v l f) (hn : n ≤ 9223372036854775807)
    (ho : D.off = false) (hl : anyB n (shortB l) = false) (hr : anyB n (beyondB D z) = true) :
    Calls Try.prog 7 #[.pointer (some ⟨g, 0, none⟩), .slice A n c] w (Written w base g h L D 5) := by
  have c2 := d.boxed ho
  have HD := Lib.hid d
  have HS := Lib.hid s
  have HL := Lib.hid hl
  have HR := Lib.hid hr
  clear d s hl hr
  have hb : Below w.heap.size w (w.alloc (.cells #[.pointer (some ⟨g, 0, none⟩)] 23)) := (Below.refl _ _).alloc (Nat.le_refl _) _
  have HB := Lib.hid hb
  have HQ : Hid ((w.alloc (.cells #[.pointer (some ⟨g, 0, none⟩)] 23)).cell? ⟨w.heap.size, 0, none⟩ = some (.pointer (some ⟨g, 0, none⟩))) := Lib.hid (by rw [cell_of_row _ _ _ _ _ _ (heap_alloc_new w _)]; rfl)
  clear hb
  go_enter Try.func7, Try.ntmps7
  go_wp2_with fail
  refine (contains_short (c := c) (HS.out.below HB.out) hn).mono ?_
  rintro e w2 ⟨rfl, hb2⟩
  have B2 : Hid (Below w.heap.size w w2) := Lib.hid (HB.out.trans (hb2.mono HB.out.size))
  have Q2 : Hid (w2.cell? ⟨w.heap.size, 0, none⟩ = some (.pointer (some ⟨g, 0, none⟩))) := Lib.hid (cell_later hb2 HQ.out)
  rw [HL.out]
  clear hb2
  go_wp2_with fail
  refine (contains_beyond (c := c) (HS.out.below B2.out) hn (HD.out.below B2.out) Q2.out).mono ?_
  rintro e w3 ⟨rfl, hb3⟩
  have B3 : Hid (Below w.heap.size w w3) := Lib.hid (B2.out.trans (hb3.mono B2.out.size))
  rw [HR.out]
  clear hb3
  go_wp2
  go_ret
  exact ⟨L, rfl, HD.out.below B3.out, Apart.of_below B3.out, fun _ e => .inl e⟩

theorem anyB_false {n : Nat} {p : Nat → Bool} (h : anyB n p = false) {i : Nat} (hi : i < n) : p i = false := by
  cases e : p i with
  | false => rfl
  | true => rw [anyB_yes hi e] at h; cases h
theorem has_spec {D : Dev} {z : Int} (h : hasB D z = true) : ∃ t : Nat, z = (t : Int) ∧ t < D.size := by
  unfold hasB at h
  have h1 : 0 ≤ z ∧ z < D.size := by simpa using h
  exact ⟨z.toNat, by omega, by omega⟩
set_option maxRecDepth 100000 in
/-- A write whose bytes are not yet there. -/
theorem write_three : (Try.prog.info? 59).map (fun i => (i.zero, i.size, i.bytes)) = some (some (.agg (wcells noWr).toArray), 65, 72) := by kernel_rfl
theorem begun {w w5 : World} {t : Nat} (h : (w.alloc (.cells (wcells noWr).toArray 59)).setCells w.heap.size 0 ((wcells noWr).set 0 (.int .i64 (t : Int))) = w5) :
    Below w.heap.size w w5 ∧ w5.heap[w.heap.size]? = some (.cells (wcells ⟨t, fun _ => 0⟩).toArray 59 (0, 0)) ∧ w5.heap.size = w.heap.size + 1 := by
  have hr : RowIs (w.alloc (.cells (wcells noWr).toArray 59)) w.heap.size 59 (fun i => (wcells noWr).getD i .nilFunc) 65 := row_new w _ _ _ _ (wcells_length _) (fun i hi => by
    rw [List.getD_eq_getElem?_getD, List.getElem?_eq_getElem (by rw [wcells_length]; exact hi)]; rfl)
  have hset : ((wcells noWr).set 0 (.int .i64 (t : Int))) = wcells ⟨t, fun _ => 0⟩ := rfl
  rw [hset] at h
  have h2 := (hr.sets (wcells ⟨t, fun _ => 0⟩) 0).congr (C' := fun i => (wcells ⟨t, fun _ => 0⟩).getD i .nilFunc) fun i hi => by
    unfold over
    rw [wcells_length, if_pos (by omega), List.getD_eq_getElem?_getD, List.getD_eq_getElem?_getD, Nat.sub_zero, List.getElem?_eq_getElem (by rw [wcells_length]; exact hi)]
    rfl
  rw [h] at h2
  have ha := apart_setCells w.heap.size (wcells ⟨t, fun _ => 0⟩) 0 (w.alloc (.cells (wcells noWr).toArray 59))
  rw [h] at ha
  refine ⟨((Below.refl _ w).alloc (Nat.le_refl _) _).trans (ha.below (by simp) fun i hi e => by omega), ?_, ?_⟩
  · unfold RowIs at h2
    rw [h2]
    rfl
  · rw [← h]
    exact (setCells_size _ _ _ _).trans (by simp)
theorem splice_write (t : Nat) (f : Nat → Nat) : splice (wcells ⟨t, fun _ => 0⟩) 1 (cellsOf f 64) = wcells ⟨t, f⟩ := by
  unfold splice wcells
  have h : (cellsOf (fun _ => 0) 64).drop 64 = [] := List.drop_eq_nil_of_le (by rw [cellsOf_length]; omega)
  rw [cellsOf_length]
  show [Value.int .i64 (t : Int)] ++ (cellsOf f 64 ++ (cellsOf (fun _ => 0) 64).drop 64) = _
  rw [h, List.append_nil]
  rfl

theorem stays {w w7 : World} {b q : Nat} {v : Value} {cs : List Value} {own : Option Nat} (h : w.cell? ⟨q, 0, none⟩ = some v ∧ w.rangeAt b 0 cs) (hg : w.grownBy w7 own) (hq : q < w.heap.size) (hb : b < w.heap.size) (n1 : own ≠ some q) (n2 : own ≠ some b) :
    w7.cell? ⟨q, 0, none⟩ = some v ∧ w7.rangeAt b 0 cs :=
  ⟨by rw [World.cell?_of_block (hg.block q hq fun e => n1 e.symm)]; exact h.1, fun j u hj => by rw [World.cell?_of_block (hg.block b hb fun e => n2 e.symm)]; exact h.2 j u hj⟩
theorem fill_write {cs : List Value} (h : cs.length = 65) (u : Array Value) (hu : u.size = 65) : Instr.fill (fun i => some (i * 65, 65)) u [(0, .agg cs.toArray)] = some cs.toArray := by
  have h1 := Great.fill_whole (s := 65) (by omega) [.agg cs.toArray] u (by intro v hv; rw [List.mem_singleton] at hv; subst hv; simpa [Value.cells] using h) (by simp [hu])
  simpa [Value.cells] using h1

theorem power_pushed {D : Dev} {x : Nat → Wr} {i : Nat} (h : (D.puts x i).1 = true) (hp : (D.puts x i).2.power.1 = true) :
    D.puts x (i + 1) = (true, { (D.puts x i).2.power.2 with loose := (D.puts x i).2.power.2.loose ++ [x i] }) := by
  show (if (D.puts x i).1 = true then (D.puts x i).2.put1 (x i) else D.puts x i) = _
  rw [if_pos h]
  unfold Dev.put1
  rw [if_pos hp]

/-- A device behind an append to its writes. -/
theorem IsDev.pushed {w w7 : World} {base g h g7 cap7 : Nat} {L : Value} {D : Dev} {x : Wr} {o : Obj} (d : IsDev w base g h L D) (hg : (w.alloc o).grownBy w7 L.ownBlock)
    (hown : w7.ownsRow base 59 65 (.slice (some ⟨g7, 0, none⟩) (D.loose.length + 1) cap7) (D.loose.length + 1) (lcells D.loose ++ wcells x)) (hat : L.ownBlock = some g7 ∨ g7 = (w.alloc o).heap.size)
    (hx : x.at_ < D.size ∧ ∀ j, j < 64 → x.data j < 256) :
    IsDev (w7.setCell ⟨g, 1, none⟩ (.slice (some ⟨g7, 0, none⟩) (D.loose.length + 1) cap7)) base g h (.slice (some ⟨g7, 0, none⟩) (D.loose.length + 1) cap7) { D with loose := D.loose ++ [x] } ∧
      Apart (foot g h L) w (w7.setCell ⟨g, 1, none⟩ (.slice (some ⟨g7, 0, none⟩) (D.loose.length + 1) cap7)) ∧ (L.ownBlock = some g7 ∨ w.heap.size ≤ g7) := by
  have hgw := (d.lt g (.inl rfl)).2
  have hhw := (d.lt h (.inr (.inl rfl))).2
  have hs : (w.alloc o).heap.size = w.heap.size + 1 := by simp
  have ha : Apart (fun k => L.ownBlock = some k) w w7 := (Apart.of_below (F := fun k => L.ownBlock = some k) ((Below.refl w.heap.size w).alloc (Nat.le_refl _) o)).trans (G := fun k => L.ownBlock = some k)
    ⟨hg.os, hg.tape, hg.output, hg.size, fun k hk hne => hg.block k hk (fun e => hne e.symm)⟩ fun _ _ e => e
  have hg7g : g7 ≠ g := by
    rcases hat with h1 | h1
    · intro e; subst e; exact d.ng h1
    · omega
  have hg7h : g7 ≠ h := by
    rcases hat with h1 | h1
    · intro e; subst e; exact d.nh h1
    · omega
  have hh7 : w7.heap[g]? = w.heap[g]? := ha.block g hgw d.ng
  have hc := apart_set w7 g 1 (.slice (some ⟨g7, 0, none⟩) (D.loose.length + 1) cap7)
  refine ⟨⟨?_, ?_, ?_, d.bg, d.bh, d.ne, ?_, ?_, d.size, d.sure, ?_, d.left⟩, ?_, ?_⟩
  · rw [heap_setCell_same w7 g 1 _ _ _ (hh7.trans d.head)]; rfl
  · exact (d.body.apart ha d.nh).apart hc (Ne.symm d.ne)
  · have h1 : (D.loose ++ [x]).length = D.loose.length + 1 := by simp
    rw [h1, lcells_snoc]
    refine ⟨hown.1, ?_⟩
    rcases hown.2 with ⟨h2, _⟩ | ⟨k, cap, cur, e, hb0, hk, rest⟩
    · cases h2
    · refine .inr ⟨k, cap, cur, e, hb0, (hc.block k (Array.getElem?_eq_some_iff.1 hk).1 ?_).trans hk, rest⟩
      injection e with e1
      injection e1 with e2
      injection e2 with e3
      omega
  · intro e; exact hg7g (by simpa [Value.ownBlock] using e)
  · intro e; exact hg7h (by simpa [Value.ownBlock] using e)
  · intro y hy
    rcases List.mem_append.1 hy with hy | hy
    · exact d.loose y hy
    · rw [List.mem_singleton] at hy; subst hy; exact hx
  · exact (ha.mono fun k _ e => .inr (.inr e)).trans hc fun k _ e => .inl e
  · rcases hat with h1 | h1
    · exact .inl h1
    · exact .inr (by omega)

/-- How far Put has come. -/
def Putting (w : World) (base g h : Nat) (L : Value) (D : Dev) (x : Nat → Wr) (n : Nat) (u : Value) (wr : World) : Prop :=
  ∃ i L', i ≤ n ∧ u = .int .i64 (i : Int) ∧ (D.puts x i).1 = true ∧ IsDev wr base g h L' (D.puts x i).2 ∧ Apart (foot g h L) w wr ∧ (∀ k, L'.ownBlock = some k → L.ownBlock = some k ∨ w.heap.size < k) ∧
    wr.cell? ⟨w.heap.size, 0, none⟩ = some (.pointer (some ⟨g, 0, none⟩))

set_option maxRecDepth 100000 in
theorem dev_put_ok {w : World} {base g h : Nat} {L : Value} {D : Dev} (d : IsDev w base g h L D) {A : Option Addr} {n c : Nat} {z : Nat → Int} {v : Nat → Value} {l : Nat → Nat} {f : Nat → Nat → Nat} (s : ∀ W, Apart (foot g h L) w W → WritesIn W A n z v l f)
    (hn : D.loose.length + n ≤ 1000000000000) (ho : D.off = false) (hl : anyB n (shortB l) = false) (hr : anyB n (beyondB D z) = false) :
    Calls Try.prog 7 #[.pointer (some ⟨g, 0, none⟩), .slice A n c] w
      (Written w base g h L (D.puts (fun i => ⟨(z i).toNat, f i⟩) n).2 (D.putsCode (fun i => ⟨(z i).toNat, f i⟩) n)) := by
  have c2 := d.boxed ho
  have HD := Lib.hid d
  have HS := Lib.hid s
  have HL := Lib.hid hl
  have HR := Lib.hid hr
  obtain ⟨x, hx⟩ : ∃ x : Nat → Wr, x = fun i => ⟨(z i).toNat, f i⟩ := ⟨_, rfl⟩
  rw [← hx]
  have HX := Lib.hid hx
  clear d s hl hr hx
  have hb : Below w.heap.size w (w.alloc (.cells #[.pointer (some ⟨g, 0, none⟩)] 23)) := (Below.refl _ _).alloc (Nat.le_refl _) _
  have HB := Lib.hid hb
  have HQ : Hid ((w.alloc (.cells #[.pointer (some ⟨g, 0, none⟩)] 23)).cell? ⟨w.heap.size, 0, none⟩ = some (.pointer (some ⟨g, 0, none⟩))) := Lib.hid (by rw [cell_of_row _ _ _ _ _ _ (heap_alloc_new w _)]; rfl)
  have hz := zero_write
  clear hb
  go_enter Try.func7, Try.ntmps7
  go_wp2_with fail
  refine (contains_short (c := c) (HS.out _ (Apart.of_below HB.out)) (by omega)).mono ?_
  rintro e w2 ⟨rfl, hb2⟩
  have B2 : Hid (Below w.heap.size w w2) := Lib.hid (HB.out.trans (hb2.mono HB.out.size))
  have Q2 : Hid (w2.cell? ⟨w.heap.size, 0, none⟩ = some (.pointer (some ⟨g, 0, none⟩))) := Lib.hid (cell_later hb2 HQ.out)
  rw [HL.out]
  clear hb2
  go_wp2_with fail
  refine (contains_beyond (c := c) (HS.out _ (Apart.of_below B2.out)) (by omega) (HD.out.below B2.out) Q2.out).mono ?_
  rintro e w3 ⟨rfl, hb3⟩
  have B3 : Hid (Below w.heap.size w w3) := Lib.hid (B2.out.trans (hb3.mono B2.out.size))
  have Q3 : Hid (w3.cell? ⟨w.heap.size, 0, none⟩ = some (.pointer (some ⟨g, 0, none⟩))) := Lib.hid (cell_later hb3 Q2.out)
  rw [HR.out]
  clear hb3 c2
  go_wp2
  go_loopw [21] (fun u wr => Putting w base g h L D x n u wr) (fun u _ => n - (intOf u).toNat)
  case atStart => exact ⟨0, L, Nat.zero_le _, rfl, rfl, HD.out.below B3.out, Apart.of_below B3.out, fun k e => .inl e, Q3.out⟩
  case round =>
    obtain ⟨i, L', hi, rfl, hp, hd, ha, hown, hq⟩ := hrel
    have D1 := Lib.hid hd
    have A1 := Lib.hid ha
    have O1 := Lib.hid hown
    have P1 := Lib.hid hp
    clear hd ha hown hp
    by_cases h0 : i < n
    · have s1 := HS.out wr A1.out
      obtain ⟨ad, rfl, e0, k1⟩ := s1.cell i h0
      obtain ⟨Av, cv, hv, hcv, hcm, hbare, hby⟩ := s1.data i h0
      rw [← Addr.add_add, hv] at k1
      have e1 : wr.cell? ⟨(ad.add (i * 2)).block, (ad.add (i * 2)).off + 1, none⟩ = some (.slice Av (l i) cv) := k1
      have HV := Lib.hid hv
      have hl64 : l i = 64 := by
        have := anyB_false HL.out h0
        unfold shortB at this
        simpa using this
      obtain ⟨t, hzt, htD⟩ := has_spec (by
        have := anyB_false HR.out h0
        unfold beyondB at this
        simpa using this : hasB D (z i) = true)
      rw [hzt] at e0
      rw [hl64] at e1
      have HT := Lib.hid hzt
      have H64 := Lib.hid hl64
      clear hzt hl64
      have l1 : w.heap.size < wr.heap.size := World.block_lt_of_cell? wr _ hq
      have hgl := (HD.out.lt g (.inl rfl)).2
      have bx : Hid (Below wr.heap.size wr (wr.alloc (.cells #[.int .i64 (t : Int), .slice Av 64 cv] 31))) := Lib.hid ((Below.refl _ _).alloc (Nat.le_refl _) _)
      have q1 : (wr.alloc (.cells #[.int .i64 (t : Int), .slice Av 64 cv] 31)).cell? ⟨w.heap.size, 0, none⟩ = some (.pointer (some ⟨g, 0, none⟩)) := cell_later bx.out hq
      have Q1 := Lib.hid q1
      clear hv hby k1 s1
      go_wp2_with fail
      refine (powered_any (D1.out.below bx.out)).mono ?_
      rintro e w4 ⟨rfl, hd, ha⟩
      have D2 := Lib.hid hd
      have A2 := Lib.hid ha
      have hq4 : w4.cell? ⟨w.heap.size, 0, none⟩ = some (.pointer (some ⟨g, 0, none⟩)) := by
        rw [World.cell?_of_block (ha.block w.heap.size (by simp; omega) (by omega))]
        exact Q1.out
      have hblk : w4.heap[wr.heap.size]? = some (.cells #[.int .i64 (t : Int), .slice Av 64 cv] 31 (0, 0)) := (ha.block wr.heap.size (by simp) (by omega)).trans (heap_alloc_new wr _)
      clear hd ha q1 e0 e1 hq
      by_cases hpw : (D.puts x i).2.power.1 = true
      · have PW := Lib.hid hpw
        rw [hpw]
        have b0 : w4.cell? ⟨wr.heap.size, 0, none⟩ = some (.int .i64 (t : Int)) := by rw [cell_of_row _ _ _ _ _ _ hblk]; rfl
        have b1 : w4.cell? ⟨wr.heap.size, 1, none⟩ = some (.slice Av 64 cv) := by rw [cell_of_row _ _ _ _ _ _ hblk]; rfl
        have HK := Lib.hid hblk
        have Q4 := Lib.hid hq4
        have hset : ((wcells noWr).set 0 (.int .i64 (t : Int))) = wcells ⟨t, fun _ => 0⟩ := rfl
        have RZ : Hid ((w4.alloc (.cells (wcells noWr).toArray 59)).there w4.heap.size 0 ((wcells noWr).set 0 (.int .i64 (t : Int))).toArray.size) := Lib.hid (by rw [hset]; exact write_there _ (there_new w4 (wcells noWr).toArray 59 65 (by rw [List.size_toArray, wcells_length])))
        have SZ : Hid ((Try.prog.info? 59).map (·.size) = some ((wcells noWr).set 0 (.int .i64 (t : Int))).toArray.size) := Lib.hid (by rw [hset]; exact write_len' _)
        have SO : Hid (((wcells noWr).set 0 (.int .i64 (t : Int))).toArray.all (·.oneCell') = true) := Lib.hid (by rw [hset]; exact write_one _)
        clear hset
        clear hpw hblk hq4
        go_wp2_with (first
          | (refine wpList_store_mid rfl 59 (.tmp 7) (.tmp 30) ?_ w4.heap.size 0 ((wcells noWr).set 0 (.int .i64 (t : Int))).toArray ?_ ?_ ?_ ?_ ?_ ?_
             · rfl
             · rfl
             · rfl
             · exact RZ.out
             · exact SZ.out
             · exact SO.out))
        clear h
        generalize hw5 : (w4.alloc (.cells (wcells noWr).toArray 59)).setCells w4.heap.size 0 ((wcells noWr).set 0 (.int .i64 (t : Int))) = w5
        obtain ⟨hb5, hg5, hs5⟩ := begun hw5
        have B5 := Lib.hid hb5
        have G5 := Lib.hid hg5
        have S5 := Lib.hid hs5
        have A5 : Hid (Apart (foot g h L) w w5) := Lib.hid ((((A1.out.then_ bx.out).trans A2.out fun _ _ e => .inl e)).then_ hb5)
        have y5 : BytesAt w5 Av 64 (f i) := by
          obtain ⟨Av', cv', hv', -, -, -, hby'⟩ := (HS.out w5 A5.out).data i h0
          rw [HV.out, H64.out] at hv'
          obtain ⟨rfl, -, -⟩ : Av = Av' ∧ 64 = 64 ∧ cv = cv' := by simpa using hv'
          rwa [H64.out] at hby'
        have Y5 := Lib.hid y5
        have k1 : w5.cell? ⟨wr.heap.size, 1, none⟩ = some (.slice Av 64 cv) := cell_later hb5 b1
        have Q5 := Lib.hid (cell_later hb5 Q4.out)
        clear hw5 hb5 hg5 hs5 y5 b0 b1 hz
        simp only [Act.put]
        go_region_law (refine step_copy_splice rfl (.tmp 32) (.tmp 34) 28 28 rfl 5 Try.underlying28 byte_size (some ⟨w4.heap.size, 1, none⟩) Av 64 64 64 cv (by simp [Act.eval]) (by simp [Act.eval]) w4.heap.size 1 (wcells ⟨t, fun _ => 0⟩) 59 G5.out (cellsOf (f i) 64) (by rw [cellsOf_length]; rfl) (fun hp => ⟨rfl, BytesAt.copied (w := w5) Y5.out (Nat.le_refl _) hp⟩) (by rw [cellsOf_length, wcells_length]; omega) (cellsOf_one _ _) w4.heap.size w5 ((Below.refl _ _).drew) (Nat.le_refl _) ?_; intro w6 hg6 hb6)
        have B6 : Hid (Below w4.heap.size w4 w6) := Lib.hid (B5.out.trans hb6)
        have A6 : Hid (Apart (foot g h L) w w6) := Lib.hid ((((A1.out.then_ bx.out).trans A2.out fun _ _ e => .inl e)).then_ B6.out)
        have hg6' := hg6.out
        rw [splice_write] at hg6'
        have G6 := Lib.hid hg6'
        have D6 := Lib.hid (D2.out.below B6.out)
        obtain ⟨-, c1, -, -, -, cf⟩ := D6.out.cells
        have cf1 := cf 1
        have q6 := cell_later B6.out Q4.out
        obtain ⟨cs, hcs⟩ : ∃ cs, cs = wcells ⟨t, f i⟩ := ⟨_, rfl⟩
        have HC := Lib.hid hcs
        have r6 : w6.rangeAt w4.heap.size 0 cs := by
          rw [hcs]
          intro j v hj
          rw [Nat.zero_add, cell_of_row _ _ _ _ _ _ hg6']
          simpa using hj
        have hu := Try.underlying59
        have hi65 : (Try.prog.info? 59).map (·.size) = some cs.length := by rw [hcs]; exact write_len _
        have D6d := Lib.hid (D6.out.below ((Below.refl _ _).drew))
        have hcl : cs.length = 65 := by rw [hcs, wcells_length]
        have hco : ∀ v ∈ cs, v.oneCell' = true := by rw [hcs]; exact wcells_one _
        have OC := Lib.hid hco
        have WO := Lib.hid (D6d.out.own.alloc (.cells cs.toArray 59))
        have NW : Hid (∀ j u, cs[j]? = some u → (w6.drew.alloc (.cells cs.toArray 59)).cell? ((⟨w6.heap.size, 0, none⟩ : Addr).add j) = some u) := Lib.hid (fun j u hu => World.news_of_block (cs := cs.toArray) (heap_alloc_new w6.drew _) j u (by simpa using hu))
        have LN : Hid ((D.puts x i).2.power.2.loose.length ≤ 1000000000000) := Lib.hid (by
          have h1 := (puts_same D x i).2.1
          have h2 := (power_same (D.puts x i).2).2.1
          rw [h2]; omega)
        have BW : Hid (base ≤ (w6.drew.alloc (.cells cs.toArray 59)).heap.size) := Lib.hid (by have := (D6.out.lt g (.inl rfl)); simp; omega)
        have G4lt : Hid (w.heap.size < w4.heap.size) := Lib.hid (by have := bx.out.size; have := A2.out.size; omega)
        have G6lt : Hid (w4.heap.size < w6.heap.size) := Lib.hid (Array.getElem?_eq_some_iff.1 hg6').1
        have QN : Hid (L'.ownBlock ≠ some w.heap.size) := Lib.hid (fun e => by
          rcases O1.out _ e with h1 | h1
          · have := (HD.out.lt _ (.inr (.inr h1))).2; omega
          · omega)
        have BN : Hid (L'.ownBlock ≠ some w4.heap.size) := Lib.hid (fun e => by
          have := (D1.out.lt _ (.inr (.inr e))).2
          have := bx.out.size
          have := A2.out.size
          omega)
        have XI : Hid ((⟨t, f i⟩ : Wr).at_ < (D.puts x i).2.power.2.size ∧ ∀ j, j < 64 → (⟨t, f i⟩ : Wr).data j < 256) := Lib.hid ⟨by
          have h1 := (puts_same D x i).1
          have h2 := (power_same (D.puts x i).2).1
          show t < _
          rw [h2, h1]; exact htD, Y5.out.small⟩
        have GN : Hid (w.heap.size ≠ g ∧ w4.heap.size ≠ g) := Lib.hid ⟨by omega, by have := (D2.out.lt g (.inl rfl)).2; omega⟩
        have GL := Lib.hid ((D6.out.lt g (.inl rfl)).2)
        have C7 : Hid ((w6.drew.alloc (.cells cs.toArray 59)).cell? ⟨g, 1, none⟩ = some L') := Lib.hid ((D6d.out.below ((Below.refl _ _).alloc (Nat.le_refl _) _)).cells.2.1)
        have F7 : Hid ((w6.drew.alloc (.cells cs.toArray 59)).frozen? ⟨g, 1, none⟩ = false) := Lib.hid ((D6d.out.below ((Below.refl _ _).alloc (Nat.le_refl _) _)).cells.2.2.2.2.2 1)
        clear hcl hco
        have HU := Lib.hid hu
        obtain ⟨i0, j0, j1, j2, j3⟩ := info_parts write_three
        have I0 := Lib.hid (And.intro j0 (And.intro j1 (And.intro j2 j3)))
        have FW : Hid (∀ (x : Nat × Operand → Nat × Value), x (0, .tmp 41) = (0, .agg cs.toArray) → Instr.fill (fun i => some (i * i0.size, i0.size)) ((Array.range (1 * i0.size)).map ((Value.agg (wcells noWr).toArray).cells[· % (Value.agg (wcells noWr).toArray).cells.size]!)) (#[((0, .tmp 41) : Nat × Operand)].map x).toList = some cs.toArray) := Lib.hid (fun x hx => by
          rw [j2]
          rw [show (Array.map x #[((0, .tmp 41) : Nat × Operand)]).toList = [x (0, .tmp 41)] by simp, hx]
          exact fill_write (by rw [hcs, wcells_length]) _ (by simp))
        clear j0 j1 j2 j3
        have HI := Lib.hid hi65
        clear hg6 hb6 hg6' k1 cf hcs hu hi65
        go_wp2
        refine wp_region_noPanic ?_
        refine wp_region_held_drew (S := fun w' => w'.cell? ⟨w.heap.size, 0, none⟩ = some (.pointer (some ⟨g, 0, none⟩)) ∧ w'.rangeAt w4.heap.size 0 cs) (by kernel_rfl) ⟨q6, r6⟩ (fun hH => ?_)
        refine wpAnyH_take (i := 0) (v := .pointer (some ⟨g, 0, none⟩)) rfl (by kernel_rfl) (by kernel_rfl) (by kernel_rfl) (fun _ _ _ h => h) (Or.inl ⟨by rfl, fun w' hS => by have s1 := hS.1; go_simp⟩) hH ?_
        simp only [Act.put, List.setIfInBounds_toArray]
        refine wpAnyH_take (i := 1) (v := .pointer (some ⟨g, 0, none⟩)) rfl (by kernel_rfl) (by kernel_rfl) (by kernel_rfl) (fun _ _ _ h => h) (Or.inl ⟨by rfl, fun w' hS => by have s1 := hS.1; go_simp⟩) hH ?_
        simp only [Act.put]
        refine wpAnyH_take (i := 2) (v := .pointer (some ⟨g, 0, none⟩)) rfl (by kernel_rfl) (by kernel_rfl) (by kernel_rfl) (fun _ _ _ h => h) (Or.inl ⟨by rfl, fun w' hS => by go_simp⟩) hH ?_
        simp only [Act.put]
        refine wpAnyH_take (i := 3) (v := .pointer (some ⟨g, 1, none⟩)) rfl (by kernel_rfl) (by kernel_rfl) (by kernel_rfl) (fun _ _ _ h => h) (Or.inl ⟨by rfl, fun w' hS => by go_simp⟩) hH ?_
        simp only [Act.put]
        refine wpAnyH_take (i := 5) (v := .agg cs.toArray) rfl (by kernel_rfl) (by kernel_rfl) (by kernel_rfl) (fun _ _ _ h => h) (yieldsIf_load_mid (by rfl) 59 (.tmp 7) rfl w4.heap.size 0 rfl cs _ (fun w' hS => hS.2) HU.out rfl HI.out) hH ?_
        simp only [Act.put]
        refine wpAnyH_ready (rs := [4, 6]) (by kernel_rfl) (by simp) ?_
        refine AllReadyH.cons rfl (fun K hK => ?_) ?_
        · go_simp
          refine hK.out _ _ hH (fun hH => ?_)
          clear hK K
          refine wpAnyH_ready (rs := [6]) (by kernel_rfl) (by simp) ?_
          refine AllReadyH.cons rfl (fun K hK => ?_) AllReadyH.nil
          rw [if_pos (by rfl)]
          refine wp_buildSlice 46 59 1 #[(0, .tmp 41)] rfl cs.toArray i0 (.agg (wcells noWr).toArray) Try.underlying46 I0.out.1 I0.out.2.1 (by rw [I0.out.2.2.1]; omega) (by rw [I0.out.2.2.1]; omega) (FW.out _ rfl) ?_
          refine hK.out _ _ ?_ (fun hH => ?_)
          · exact ⟨cell_later (w := w6.drew) ((Below.refl _ _).alloc (Nat.le_refl _) _) hH.1, World.rangeAt_alloc hH.2 _⟩
          clear hK K
          refine wpAnyH_ready (rs := [7]) (by kernel_rfl) (by simp) ?_
          refine AllReadyH.cons rfl (fun K hK => ?_) AllReadyH.nil
          refine step_append_lies _ rfl (.tmp 40) (.tmp 42) 46 rfl base 59 i0 (.agg (wcells noWr).toArray) 65 72 Try.underlying46 I0.out.1 I0.out.2.1 I0.out.2.2.1 I0.out.2.2.2 (by simp [Value.cells, wcells_length]) (by omega) L' _ _ rfl (WO.out) ⟨w6.heap.size, 0, none⟩ 1 1 cs rfl (by rw [HC.out, wcells_length]) (NW.out) (OC.out) (by omega) (by have := LN.out; unfold maxLen; omega) (by have := LN.out; omega) (BW.out) _ rfl ?_
          intro g7 cap7 w7 hown7 hgrow7 hat7 hlt7
          refine hK.out _ _ (stays hH hgrow7 (by have := G4lt.out; have := G6lt.out; simp; omega) (by have := G6lt.out; simp; omega) (QN.out) (BN.out)) (fun hH => ?_)
          clear hK K
          have P7 := Lib.hid (D6d.out.pushed hgrow7 (by rw [HC.out] at hown7; exact hown7) hat7 XI.out)
          have k7 : w7.cell? ⟨g, 1, none⟩ = some L' := by
            rw [World.cell?_of_block (hgrow7.block g (by have := GL.out; simp; omega) (fun e => D6.out.ng e.symm))]
            exact C7.out
          have f7 : w7.frozen? ⟨g, 1, none⟩ = false := by
            rw [World.frozen?_of_block (hgrow7.block g (by have := GL.out; simp; omega) (fun e => D6.out.ng e.symm))]
            exact F7.out
          clear hown7 hgrow7 hat7 hlt7
          refine wpAnyH_take (i := 8) (v := .pointer (some ⟨g, 0, none⟩)) rfl (by kernel_rfl) (by kernel_rfl) (by kernel_rfl) (fun _ _ _ h => h) (Or.inl ⟨by rfl, fun w' hS => by go_simp⟩) hH ?_
          refine wpAnyH_take (i := 9) (v := .pointer (some ⟨g, 1, none⟩)) rfl (by kernel_rfl) (by kernel_rfl) (by kernel_rfl) (fun _ _ _ h => h) (Or.inl ⟨by rfl, fun w' hS => by go_simp⟩) hH ?_
          refine wpAnyH_ready (rs := [10]) (by kernel_rfl) (by simp) ?_
          refine AllReadyH.cons rfl (fun K hK => ?_) AllReadyH.nil
          go_simp
          refine hK.out _ _ ⟨?_, ?_⟩ (fun hH => ?_)
          · rw [World.cell?_of_block (heap_setCell_other _ _ _ _ (by exact GN.out.1))]; exact hH.1
          · intro j u hj
            rw [World.cell?_of_block (heap_setCell_other _ _ _ _ (by exact GN.out.2))]; exact hH.2 j u hj
          clear hK K k7 f7
          have Q8 := Lib.hid hH.1
          clear hH
          refine wpAnyH_done (by kernel_rfl) ?_ _
          refine NoPanic.normal ?_
          go_wp2
          go_roundw
          case rel =>
            have hxi : x i = ⟨t, f i⟩ := by rw [HX.out]; show (⟨(z i).toNat, f i⟩ : Wr) = _; rw [HT.out]; rfl
            have hpp := power_pushed P1.out PW.out
            rw [hxi] at hpp
            refine ⟨i + 1, _, by omega, by go_num, by rw [hpp], by rw [hpp]; exact P7.out.1, ?_, fun k e => ?_, Q8.out⟩
            · refine ((A6.out.drew).trans P7.out.2.1 fun k hk e => ?_)
              rcases e with e | e | e
              · exact .inl e
              · exact .inr (.inl e)
              · rcases O1.out k e with h5 | h5
                · exact .inr (.inr h5)
                · omega
            · have hk : k = g7 := by simp [Value.ownBlock] at e; exact e.symm
              subst hk
              rcases P7.out.2.2 with h5 | h5
              · exact O1.out _ h5
              · exact .inr (by have := G4lt.out; have := G6lt.out; have h6 : w6.heap.size ≤ k := h5; omega)
          case measure => simp [intOf]; omega
        · refine AllReadyH.cons rfl (fun K hK => ?_) AllReadyH.nil
          rw [if_pos (by rfl)]
          refine wp_buildSlice 46 59 1 #[(0, .tmp 41)] rfl cs.toArray i0 (.agg (wcells noWr).toArray) Try.underlying46 I0.out.1 I0.out.2.1 (by rw [I0.out.2.2.1]; omega) (by rw [I0.out.2.2.1]; omega) (FW.out _ rfl) ?_
          refine hK.out _ _ ?_ (fun hH => ?_)
          · exact ⟨cell_later (w := w6.drew) ((Below.refl _ _).alloc (Nat.le_refl _) _) hH.1, World.rangeAt_alloc hH.2 _⟩
          clear hK K
          refine wpAnyH_ready (rs := [4]) (by kernel_rfl) (by simp) ?_
          refine AllReadyH.cons rfl (fun K hK => ?_) AllReadyH.nil
          have c7 : (w6.alloc (.cells cs.toArray 59)).cell? ⟨g, 1, none⟩ = some L' := C7.out
          go_simp
          refine hK.out _ (w6.drew.alloc (.cells cs.toArray 59)) hH (fun hH => ?_)
          clear hK K c7
          refine wpAnyH_ready (rs := [7]) (by kernel_rfl) (by simp) ?_
          refine AllReadyH.cons rfl (fun K hK => ?_) AllReadyH.nil
          refine step_append_lies _ rfl (.tmp 40) (.tmp 42) 46 rfl base 59 i0 (.agg (wcells noWr).toArray) 65 72 Try.underlying46 I0.out.1 I0.out.2.1 I0.out.2.2.1 I0.out.2.2.2 (by simp [Value.cells, wcells_length]) (by omega) L' _ _ rfl (WO.out) ⟨w6.heap.size, 0, none⟩ 1 1 cs rfl (by rw [HC.out, wcells_length]) (NW.out) (OC.out) (by omega) (by have := LN.out; unfold maxLen; omega) (by have := LN.out; omega) (BW.out) _ rfl ?_
          intro g7 cap7 w7 hown7 hgrow7 hat7 hlt7
          refine hK.out _ _ (stays hH hgrow7 (by have := G4lt.out; have := G6lt.out; simp; omega) (by have := G6lt.out; simp; omega) (QN.out) (BN.out)) (fun hH => ?_)
          clear hK K
          have P7 := Lib.hid (D6d.out.pushed hgrow7 (by rw [HC.out] at hown7; exact hown7) hat7 XI.out)
          have k7 : w7.cell? ⟨g, 1, none⟩ = some L' := by
            rw [World.cell?_of_block (hgrow7.block g (by have := GL.out; simp; omega) (fun e => D6.out.ng e.symm))]
            exact C7.out
          have f7 : w7.frozen? ⟨g, 1, none⟩ = false := by
            rw [World.frozen?_of_block (hgrow7.block g (by have := GL.out; simp; omega) (fun e => D6.out.ng e.symm))]
            exact F7.out
          clear hown7 hgrow7 hat7 hlt7
          refine wpAnyH_take (i := 8) (v := .pointer (some ⟨g, 0, none⟩)) rfl (by kernel_rfl) (by kernel_rfl) (by kernel_rfl) (fun _ _ _ h => h) (Or.inl ⟨by rfl, fun w' hS => by go_simp⟩) hH ?_
          refine wpAnyH_take (i := 9) (v := .pointer (some ⟨g, 1, none⟩)) rfl (by kernel_rfl) (by kernel_rfl) (by kernel_rfl) (fun _ _ _ h => h) (Or.inl ⟨by rfl, fun w' hS => by go_simp⟩) hH ?_
          refine wpAnyH_ready (rs := [10]) (by kernel_rfl) (by simp) ?_
          refine AllReadyH.cons rfl (fun K hK => ?_) AllReadyH.nil
          go_simp
          refine hK.out _ _ ⟨?_, ?_⟩ (fun hH => ?_)
          · rw [World.cell?_of_block (heap_setCell_other _ _ _ _ (by exact GN.out.1))]; exact hH.1
          · intro j u hj
            rw [World.cell?_of_block (heap_setCell_other _ _ _ _ (by exact GN.out.2))]; exact hH.2 j u hj
          clear hK K k7 f7
          have Q8 := Lib.hid hH.1
          clear hH
          refine wpAnyH_done (by kernel_rfl) ?_ _
          refine NoPanic.normal ?_
          go_wp2
          go_roundw
          case rel =>
            have hxi : x i = ⟨t, f i⟩ := by rw [HX.out]; show (⟨(z i).toNat, f i⟩ : Wr) = _; rw [HT.out]; rfl
            have hpp := power_pushed P1.out PW.out
            rw [hxi] at hpp
            refine ⟨i + 1, _, by omega, by go_num, by rw [hpp], by rw [hpp]; exact P7.out.1, ?_, fun k e => ?_, Q8.out⟩
            · refine ((A6.out.drew).trans P7.out.2.1 fun k hk e => ?_)
              rcases e with e | e | e
              · exact .inl e
              · exact .inr (.inl e)
              · rcases O1.out k e with h5 | h5
                · exact .inr (.inr h5)
                · omega
            · have hk : k = g7 := by simp [Value.ownBlock] at e; exact e.symm
              subst hk
              rcases P7.out.2.2 with h5 | h5
              · exact O1.out _ h5
              · exact .inr (by have := G4lt.out; have := G6lt.out; have h6 : w6.heap.size ≤ k := h5; omega)
          case measure => simp [intOf]; omega
      · have hpw' : (D.puts x i).2.power.1 = false := by simpa using hpw
        have PW := Lib.hid hpw'
        rw [hpw']
        clear hpw hpw' hq4 hblk
        go_wp2
        go_ret
        have HC : D.putsCode x n = 10 ∧ (D.puts x n).2 = (D.puts x i).2.power.2 := by
          have h6 : D.puts x (i + 1) = (false, (D.puts x i).2.power.2) := by
            show (if (D.puts x i).1 = true then (D.puts x i).2.put1 (x i) else D.puts x i) = _
            rw [if_pos P1.out]
            unfold Dev.put1
            rw [if_neg (by rw [PW.out]; simp)]
          have h7 := puts_stop (D := D) (x := x) (i := i + 1) (by rw [h6]) n (by omega)
          unfold Dev.putsCode
          rw [h7, h6]
          exact ⟨rfl, rfl⟩
        rw [HC.1, HC.2]
        exact ⟨L', rfl, D2.out, (A1.out.then_ bx.out).trans A2.out fun _ _ e => .inl e, fun k e => (O1.out k e).imp id fun h5 => by omega⟩
    · obtain rfl : i = n := by omega
      go_wp2
      go_ret
      have HC : D.putsCode x i = 0 := by unfold Dev.putsCode; rw [if_pos P1.out]
      rw [HC]
      exact ⟨L', rfl, D1.out, A1.out, fun k e => (O1.out k e).imp id fun h5 => by omega⟩
end Go.Proofs.Ytmgeifolgdgapaa

namespace Go.Proofs.Ytmgeifolgdgapaa
open Go.RowKit

def Dev.put1Code (D : Dev) (x : Wr) : Int := if (D.put1 x).1 = true then 0 else 10
set_option maxRecDepth 100000 in
/-- Put of one write that lies in two blocks of its own. -/
theorem dev_put_one {w : World} {base g h q b cap t : Nat} {L : Value} {D : Dev} {f : Nat → Nat} (d : IsDev w base g h L D) (hq : w.heap[q]? = some (.cells #[.int .i64 (t : Int), .slice (some ⟨b, 0, none⟩) 64 cap] 31 (0, 0)))
    (hb : BytesAt w (some ⟨b, 0, none⟩) 64 f) (hc : 64 ≤ cap ∧ cap ≤ 9223372036854775807) (nq : ¬ foot g h L q) (nb : ¬ foot g h L b) (ht : t < D.size) (hl : D.loose.length ≤ 100000000000) :
    Calls Try.prog 7 #[.pointer (some ⟨g, 0, none⟩), .slice (some ⟨q, 0, none⟩) 1 1] w (Written w base g h L (D.put1 ⟨t, f⟩).2 (D.put1Code ⟨t, f⟩)) := by
  by_cases ho : D.off = true
  · have e : D.put1 ⟨t, f⟩ = (false, D) := by unfold Dev.put1 Dev.power; simp [ho]
    have e2 : D.put1Code ⟨t, f⟩ = 10 := by unfold Dev.put1Code; rw [e]; rfl
    rw [e2, e]
    exact dev_put_down d _ ho
  · have ho' : D.off = false := by simpa using ho
    have hqw : q < w.heap.size := (Array.getElem?_eq_some_iff.1 hq).1
    have hbw : b < w.heap.size := World.block_lt_of_cell? w _ (hb.at_ (i := 0) (by omega))
    have s : ∀ W, Apart (foot g h L) w W → WritesIn W (some ⟨q, 0, none⟩) 1 (fun _ => (t : Int)) (fun _ => .slice (some ⟨b, 0, none⟩) 64 cap) (fun _ => 64) (fun _ => f) := fun W a => by
      have hq' := (a.block q hqw nq).trans hq
      refine ⟨fun i hi => ⟨_, rfl, ?_, ?_⟩, fun i hi => ⟨_, _, rfl, hc.1, hc.2, (by intro e; cases e), hb.small, fun j hj => ⟨_, rfl, ?_⟩⟩, fun i hi => ?_⟩
      · obtain rfl : i = 0 := by omega
        rw [add_nil, cell_of_row _ _ _ _ _ _ hq']; rfl
      · obtain rfl : i = 0 := by omega
        rw [add_nil, cell_of_row _ _ _ _ _ _ hq']; rfl
      · have h1 := hb.at_ hj
        rw [add_nil] at h1 ⊢
        rw [World.cell?_of_block (a.block b hbw nb)]
        exact h1
      · have := d.size.2
        show -9223372036854775808 ≤ (t : Int) ∧ (t : Int) ≤ 9223372036854775807
        omega
    have h1 := dev_put_ok (c := 1) d s (by omega) ho' (anyB_no fun i _ => by unfold shortB; simp) (anyB_no fun i _ => by unfold beyondB hasB; simp; omega)
    have e : D.puts (fun i => ⟨((t : Int)).toNat, f⟩) 1 = D.put1 ⟨t, f⟩ := by
      show (if (D.puts _ 0).1 = true then (D.puts _ 0).2.put1 _ else _) = _
      rw [if_pos (by rfl)]
      rfl
    have e2 : D.putsCode (fun i => ⟨((t : Int)).toNat, f⟩) 1 = D.put1Code ⟨t, f⟩ := by
      unfold Dev.putsCode Dev.put1Code
      rw [e]
    rw [e, e2] at h1
    exact h1

theorem i64_wf {a : Int} (h : (Lit.int .i64 a).wf = true) : -9223372036854775808 ≤ a ∧ a ≤ 9223372036854775807 := by
  simpa [Lit.wf, IntKind.min, IntKind.max, IntKind.signed, IntKind.bits] using h
theorem u8_wf {a : Int} (h : (Lit.int .u8 a).wf = true) : 0 ≤ a ∧ a ≤ 255 := by
  simpa [Lit.wf, IntKind.min, IntKind.max, IntKind.signed, IntKind.bits] using h
/-- An empty list of numbers. -/
theorem ints_none (w : World) (k : IntKind) : IntsIn w k none 0 0 [] := ⟨rfl, Nat.le_refl _, by omega, fun _ => ⟨rfl, rfl⟩, (fun ad h => by cases h), (fun z hz => by cases hz)⟩

theorem IntsIn.below {w w' : World} {k : IntKind} {A : Option Addr} {n c : Nat} {Z : List Int} (h : IntsIn w k A n c Z) (b : Below w.heap.size w w') : IntsIn w' k A n c Z :=
  ⟨h.len, h.cap, h.most, h.bare, fun ad e t ht => cell_later b (h.cell ad e t ht), h.wf⟩
theorem keptTo_sub {l : List Wr} {p : Nat → Bool} : ∀ {n : Nat} {x : Wr}, x ∈ keptTo l p n → x ∈ l
  | 0, x, h => by simp [keptTo] at h
  | n + 1, x, h => by
    unfold keptTo at h
    rcases List.mem_append.1 h with h | h
    · exact keptTo_sub h
    · split at h
      · have h2 : l[n]? = some x := by simpa [Option.mem_toList] using h
        exact List.mem_of_getElem? h2
      · cases h
/-- What a sector holds behind some writes: what it held, or one of them. -/
theorem lays_cases (s : Nat → Nat → Nat) (l : List Wr) (i : Nat) : lays s l i = s i ∨ ∃ x, x ∈ l ∧ x.at_ = i ∧ lays s l i = x.data := by
  induction l using snoc_ind with
  | nil => exact .inl rfl
  | snoc l x ih =>
    rw [lays_snoc]
    unfold lay
    by_cases e : i = x.at_
    · rw [if_pos e]; exact .inr ⟨x, by simp, e.symm, rfl⟩
    · rw [if_neg e]
      rcases ih with h | ⟨y, hy, h1, h2⟩
      · exact .inl h
      · exact .inr ⟨y, by simp [hy], h1, h2⟩

set_option maxRecDepth 100000 in
theorem none_get (z : Int) (w : World) : Calls Try.prog 9 #[.pointer none, .int .i64 z] w fun e w' => e = .returned (.tuple #[.slice none 0 0, .int .i64 1]) ∧ w = w' := by
  go_enter Try.func9, Try.ntmps9
  go_wp2
  go_ret2
  exact ⟨rfl, rfl⟩
set_option maxRecDepth 100000 in
theorem none_put (v : Value) (w : World) : Calls Try.prog 7 #[.pointer none, v] w (Fresh (.int .i64 1) w) := by
  go_enter Try.func7, Try.ntmps7
  go_wp2
  go_ret
  exact ⟨rfl, (Below.refl _ _).alloc (Nat.le_refl _) _⟩
theorem power_free {D : Dev} (h1 : D.off = false) (h2 : D.limited = false) : D.power = (true, D) := by
  unfold Dev.power
  rw [if_neg (by rw [h1]; simp), if_pos h2]
theorem put1_free {D : Dev} (h1 : D.off = false) (h2 : D.limited = false) (x : Wr) : D.put1 x = (true, { D with loose := D.loose ++ [x] }) ∧ D.put1Code x = 0 := by
  have e : D.put1 x = (true, { D with loose := D.loose ++ [x] }) := by
    unfold Dev.put1
    rw [power_free h1 h2]
    rfl
  exact ⟨e, by unfold Dev.put1Code; rw [e]; rfl⟩

set_option maxRecDepth 100000 in
/-- Put of one write of 64 bytes that were just filled, while the power is on for good. -/
theorem dev_put_free {w w5 : World} {base g h b t : Nat} {f : Nat → Nat} {L : Value} {D : Dev} (d : IsDev w base g h L D) (hb : Below w.heap.size w w5) (hl : Lies w5 b f 64) (hbw : w.heap.size ≤ b) (hx : ∀ j, j < 64 → f j < 256) (ht : t < D.size) (hn : D.loose.length ≤ 100000000000)
    (h1 : D.off = false) (h2 : D.limited = false) :
    Calls Try.prog 7 #[.pointer (some ⟨g, 0, none⟩), .slice (some ⟨w5.heap.size, 0, none⟩) 1 1] (w5.alloc (.cells #[.int .i64 (t : Int), .slice (some ⟨b, 0, none⟩) 64 64] 31))
      (Written w base g h L { D with loose := D.loose ++ [⟨t, f⟩] } 0) := by
  have hx5 : Below w5.heap.size w5 (w5.alloc (.cells #[.int .i64 (t : Int), .slice (some ⟨b, 0, none⟩) 64 64] 31)) := (Below.refl _ _).alloc (Nat.le_refl _) _
  have hfd := d.lt
  have hlt := hl.lt
  refine (dev_put_one (q := w5.heap.size) (b := b) (cap := 64) (t := t) (f := f) ((d.below hb).below hx5) (heap_alloc_new w5 _) ((hl.bytes (Nat.le_refl _) hx).below hx5) (by omega) ?_ ?_ ht hn).mono ?_
  · intro hh; have := (hfd _ hh).2; have := hb.size; omega
  · intro hh; have := (hfd _ hh).2; omega
  rintro e w' ⟨L', rfl, hd, ha, ho⟩
  obtain ⟨e1, e2⟩ := put1_free h1 h2 ⟨t, f⟩
  rw [e1] at hd
  have hw : Below w.heap.size w (w5.alloc (.cells #[.int .i64 (t : Int), .slice (some ⟨b, 0, none⟩) 64 64] 31)) := hb.trans (hx5.mono hb.size)
  refine ⟨L', by rw [e2], hd, (Apart.of_below (F := foot g h L) hw).trans ha (fun _ _ e => e), fun k e => (ho k e).imp id fun h5 => ?_⟩
  have := hw.size
  omega

/-- A block that is none of the device's. -/
theorem Lies.apart {w w' : World} {b n : Nat} {f : Nat → Nat} {F : Nat → Prop} (h : Lies w b f n) (a : Apart F w w') (hf : ¬ F b) : Lies w' b f n := (a.block b h.lt hf).trans h
theorem dcell_apart {w w' : World} {p : Addr} {v : Value} {F : Nat → Prop} (a : Apart F w w') (h : w.cell? p = some v) (hf : ¬ F p.block) : w'.cell? p = some v := by
  rw [World.cell?_of_block (a.block p.block (World.block_lt_of_cell? w _ h) hf)]
  exact h

/-- A sector that was read, as bytes. -/
theorem got_bytes {w : World} {k : Nat} {f : Nat → Nat} (h : RowIs w k 57 (fun i => .int .u8 (f i : Int)) 64) (hf : ∀ j, j < 64 → f j < 256) : BytesAt w (some ⟨k, 0, none⟩) 64 f :=
  ⟨hf, fun i hi => ⟨_, rfl, by rw [add_nil]; exact h.cell hi⟩⟩
theorem lays_small {n : Nat} {s : Nat → Nat → Nat} : ∀ {l : List Wr} (_ : ∀ i, i < n → ∀ j, j < 64 → s i j < 256) (_ : ∀ x ∈ l, ∀ j, j < 64 → x.data j < 256), ∀ i, i < n → ∀ j, j < 64 → lays s l i j < 256 := by
  intro l h1 h2
  induction l using snoc_ind with
  | nil => exact h1
  | snoc l x ih =>
    rw [lays_snoc]
    intro i hi j hj
    unfold lay
    by_cases e : i = x.at_
    · rw [if_pos e]; exact h2 x (by simp) j hj
    · rw [if_neg e]; exact ih (fun y hy => h2 y (by simp [hy])) i hi j hj
theorem IsDev.small {w : World} {base g h : Nat} {L : Value} {D : Dev} (d : IsDev w base g h L D) {t : Nat} (ht : t < D.size) : ∀ j, j < 64 → D.view t j < 256 :=
  lays_small d.sure (fun x hx => (d.loose x hx).2) t ht

/-- 64 bytes, of which the first is 7. -/
def seven (j : Nat) : Nat := if j = 0 then 7 else 0

end Go.Proofs.Ytmgeifolgdgapaa

namespace Go.Proofs.Ytmgeifolgdgapaa
open Go.RowKit

theorem hasB_no {D : Dev} {z : Int} (h : (D.size : Int) ≤ z) : hasB D z = false := by
  unfold hasB
  simp
  omega

/-- A device whose power does not go. -/
structure Dev.Free (D : Dev) : Prop where
  on : D.off = false
  un : D.limited = false

/-- Put of one write whose bytes lie anywhere, but in no block of the device's. -/
theorem put_slice {w : World} {base g h q t : Nat} {L u : Value} {D : Dev} {f : Nat → Nat} (d : IsDev w base g h L D) (hq : w.heap[q]? = some (.cells #[.int .i64 (t : Int), u] 31 (0, 0)))
    (hu : ∀ W, Apart (foot g h L) w W → Reads W u 64 f) (nq : ¬ foot g h L q) (ht : t < D.size) (hl : D.loose.length ≤ 100000000000) (ho : D.off = false) :
    Calls Try.prog 7 #[.pointer (some ⟨g, 0, none⟩), .slice (some ⟨q, 0, none⟩) 1 1] w (Written w base g h L (D.put1 ⟨t, f⟩).2 (D.put1Code ⟨t, f⟩)) := by
  have hqw : q < w.heap.size := (Array.getElem?_eq_some_iff.1 hq).1
  have s : ∀ W, Apart (foot g h L) w W → WritesIn W (some ⟨q, 0, none⟩) 1 (fun _ => (t : Int)) (fun _ => u) (fun _ => 64) (fun _ => f) := fun W a => by
    have hq' := (a.block q hqw nq).trans hq
    refine ⟨fun i hi => ⟨_, rfl, ?_, ?_⟩, fun _ _ => hu W a, fun i hi => ?_⟩
    · obtain rfl : i = 0 := by omega
      rw [add_nil, cell_of_row _ _ _ _ _ _ hq']; rfl
    · obtain rfl : i = 0 := by omega
      rw [add_nil, cell_of_row _ _ _ _ _ _ hq']; rfl
    · have := d.size.2
      show -9223372036854775808 ≤ (t : Int) ∧ (t : Int) ≤ 9223372036854775807
      omega
  have h1 := dev_put_ok (c := 1) d s (by omega) ho (anyB_no fun i _ => by unfold shortB; simp) (anyB_no fun i _ => by unfold beyondB hasB; simp; omega)
  have e : D.puts (fun _ => ⟨((t : Int)).toNat, f⟩) 1 = D.put1 ⟨t, f⟩ := by
    show (if (D.puts _ 0).1 = true then (D.puts _ 0).2.put1 _ else _) = _
    rw [if_pos (by rfl)]
    rfl
  have e2 : D.putsCode (fun _ => ⟨((t : Int)).toNat, f⟩) 1 = D.put1Code ⟨t, f⟩ := by
    unfold Dev.putsCode Dev.put1Code
    rw [e]
  rw [e, e2] at h1
  exact h1

/-- The same, of a write that was just laid. -/
theorem put_new {w : World} {base g h t : Nat} {L u : Value} {D : Dev} {f : Nat → Nat} (d : IsDev w base g h L D) (hu : ∀ W, Apart (foot g h L) w W → Reads W u 64 f) (ht : t < D.size) (hl : D.loose.length ≤ 100000000000) (hf : D.Free) :
    Calls Try.prog 7 #[.pointer (some ⟨g, 0, none⟩), .slice (some ⟨w.heap.size, 0, none⟩) 1 1] (w.alloc (.cells #[.int .i64 (t : Int), u] 31)) (Written w base g h L { D with loose := D.loose ++ [⟨t, f⟩] } 0) := by
  have hx : Below w.heap.size w (w.alloc (.cells #[.int .i64 (t : Int), u] 31)) := (Below.refl _ _).alloc (Nat.le_refl _) _
  have ax : Apart (foot g h L) w (w.alloc (.cells #[.int .i64 (t : Int), u] 31)) := Apart.of_below hx
  refine (put_slice (q := w.heap.size) (d.below hx) (heap_alloc_new w _) (fun W a => hu W (ax.trans a fun _ _ e => e)) (fun hh => by have := (d.lt _ hh).2; omega) ht hl hf.on).mono ?_
  rintro e w' ⟨L', rfl, hd, ha, ho⟩
  obtain ⟨e1, e2⟩ := put1_free hf.on hf.un ⟨t, f⟩
  rw [e1] at hd
  refine ⟨L', by rw [e2], hd, ax.trans ha (fun _ _ e => e), fun k e => (ho k e).imp id fun h5 => ?_⟩
  have := hx.size
  omega

/-- What is written: n pages from sector t on. -/
def pagesAt (t : Nat) (F : Nat → Nat → Nat) (n : Nat) : List Wr := (List.range n).map fun j => ⟨t + j, F j⟩
theorem pagesAt_next (t : Nat) (F : Nat → Nat → Nat) (n : Nat) : pagesAt t F n ++ [⟨t + n, F n⟩] = pagesAt t F (n + 1) := by
  unfold pagesAt
  rw [List.range_succ, List.map_append]
  rfl
theorem pagesAt_length (t : Nat) (F : Nat → Nat → Nat) (n : Nat) : (pagesAt t F n).length = n := by simp [pagesAt]
theorem lays_pages (s : Nat → Nat → Nat) (t : Nat) (F : Nat → Nat → Nat) (n i : Nat) : lays s (pagesAt t F n) i = if t ≤ i ∧ i < t + n then F (i - t) else s i := by
  induction n with
  | zero => rw [if_neg (by omega)]; rfl
  | succ n ih =>
    rw [← pagesAt_next, lays_snoc]
    unfold lay
    by_cases e : i = t + n
    · rw [if_pos e, if_pos (by omega), e, Nat.add_sub_cancel_left]
    · rw [if_neg e, ih]
      by_cases c : t ≤ i ∧ i < t + n
      · rw [if_pos c, if_pos (by omega)]
      · rw [if_neg c, if_neg (by omega)]
end Go.Proofs.Ytmgeifolgdgapaa

namespace Go.Proofs.Ytmgeifolgdgapaa
open Go.RowKit

/-- A device that was made since w, whose power does not go; so many writes wait at most. -/
def Made (w : World) (g h n : Nat) (wr : World) : Prop := ∃ (L : Value) (D : Dev), IsDev wr w.heap.size g h L D ∧ D.Free ∧ D.size = 60 ∧ D.loose.length ≤ n ∧ Below w.heap.size w wr
theorem Made.more {w wr : World} {g h n m : Nat} (k : Made w g h n wr) (hm : n ≤ m) : Made w g h m wr := by
  obtain ⟨L, D, h1, h2, h3, h4, h5⟩ := k
  exact ⟨L, D, h1, h2, h3, by omega, h5⟩
theorem Made.below {w wr : World} {g h n : Nat} (k : Made w g h n wr) : Below w.heap.size w wr := by
  obtain ⟨L, D, h1, h2, h3, h4, h5⟩ := k
  exact h5
theorem made_put {w wr : World} {g h n t : Nat} {u : Value} {f : Nat → Nat} (k : Made w g h n wr) (hu : Reads w u 64 f) (ht : t < 60) (hn : n ≤ 1000) :
    Calls Try.prog 7 #[.pointer (some ⟨g, 0, none⟩), .slice (some ⟨wr.heap.size, 0, none⟩) 1 1] (wr.alloc (.cells #[.int .i64 (t : Int), u] 31)) fun e w' => e = .returned (.int .i64 0) ∧ Made w g h (n + 1) w' := by
  obtain ⟨L, D, h1, h2, h3, h4, h5⟩ := k
  have hb : ∀ W, Apart (foot g h L) wr W → Below w.heap.size w W := fun W a => h5.trans (a.below h5.size fun k hk hf => by have := (h1.lt k hf).1; omega)
  refine (put_new h1 (fun W a => hu.below (hb W a)) (by omega) (by omega) h2).mono ?_
  rintro e w' ⟨L', rfl, hd, ha, _⟩
  exact ⟨rfl, L', _, hd, ⟨h2.on, h2.un⟩, h3, by show (D.loose ++ _).length ≤ _; rw [List.length_append]; show D.loose.length + 1 ≤ _; omega, hb w' ha⟩
theorem Made.later {w wr W : World} {g h n : Nat} (k : Made w g h n wr) (hb : Below wr.heap.size wr W) : Made w g h n W := by
  obtain ⟨L, D, h1, h2, h3, h4, h5⟩ := k
  exact ⟨L, D, h1.below hb, h2, h3, h4, h5.trans (hb.mono h5.size)⟩
end Go.Proofs.Ytmgeifolgdgapaa

