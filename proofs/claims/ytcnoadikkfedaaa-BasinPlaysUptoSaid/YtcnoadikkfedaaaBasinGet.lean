/- Get; Flush. -/
import Derived.Test.YtcnoadikkfedaaaBasinLast
import Derived.Deep.WholeRow
namespace Go.Proofs.Ytcnoadikkfedaaa
open Go.RowKit

theorem there_new (w : World) (Z : Array Value) (T : TypeId) (n : Nat) (hz : Z.size = n) : (w.alloc (.cells Z T)).there w.heap.size 0 n := fun j hj => by
  have hg : (w.alloc (.cells Z T)).heap[w.heap.size]? = some (.cells Z T) := heap_alloc_new w _
  refine ⟨?_, ?_⟩
  · rw [cell_of_row _ _ _ _ _ _ hg, Nat.zero_add, Array.getElem?_eq_getElem (by omega)]; rfl
  · exact frozen_of_row _ _ _ _ _ hg
theorem row_literal (w : World) (Z : Array Value) (T : TypeId) (C : Nat → Value) (n : Nat) (hz : Z = ((List.range n).map C).toArray) : RowIs (w.alloc (.cells Z T)) w.heap.size T C n := by
  unfold RowIs
  rw [heap_alloc_new, hz]

/-- A sector was read. -/
def Got (f : Nat → Nat) (w : World) (e : Ending) (w' : World) : Prop :=
  ∃ k, e = .returned (.tuple #[.slice (some ⟨k, 0, none⟩) 64 64, .int .i64 0]) ∧ RowIs w' k 67 (fun i => .int .u8 (f i : Int)) 64 ∧ w.heap.size ≤ k ∧ Below w.heap.size w w'

theorem get_down {w : World} {base g h : Nat} {L : Value} {D : Dev} (d : IsDev w base g h L D) (z : Int) (ho : D.off = true) :
    Calls Try.prog 14 #[.pointer (some ⟨g, 0, none⟩), .int .i64 z] w fun e w' => e = .returned (.tuple #[.slice none 0 0, .int .i64 10]) ∧ w = w' := by
  obtain ⟨c0, c1, c2, c3, c4, cf⟩ := d.cells
  rw [ho] at c2
  clear c0 c1 c3 c4 cf
  go_enter Try.func14, Try.ntmps14
  go_wp2
  go_ret2
  exact ⟨rfl, rfl⟩

theorem get_range {w : World} {base g h : Nat} {L : Value} {D : Dev} (d : IsDev w base g h L D) (z : Int) (ho : D.off = false) (hr : hasB D z = false) :
    Calls Try.prog 14 #[.pointer (some ⟨g, 0, none⟩), .int .i64 z] w fun e w' => e = .returned (.tuple #[.slice none 0 0, .int .i64 5]) ∧ w = w' := by
  obtain ⟨c0, c1, c2, c3, c4, cf⟩ := d.cells
  rw [ho] at c2
  have HD := Lib.hid d
  have HR := Lib.hid hr
  clear c0 c1 c3 c4 cf d hr
  go_enter Try.func14, Try.ntmps14
  go_wp2_with fail
  refine (has_any HD.out z).mono ?_
  rintro e w' ⟨rfl, rfl⟩
  rw [HR.out]
  go_wp2
  go_ret2
  exact ⟨rfl, rfl⟩

theorem sector_zero : (Try.prog.info? 67).map (fun i => (i.zero, i.size)) = some (some (.agg (cellsOf (fun _ => 0) 64).toArray), 64) := by kernel_rfl
theorem zero_sector (w : World) : (zeroValue 67).run Try.prog w = .ok (.agg (cellsOf (fun _ => 0) 64).toArray) w := (zero_of_info sector_zero).1 w

theorem get_ok {w : World} {base g h : Nat} {L : Value} {D : Dev} (d : IsDev w base g h L D) {t : Nat} (ho : D.off = false) (ht : t < D.size) :
    Calls Try.prog 14 #[.pointer (some ⟨g, 0, none⟩), .int .i64 (t : Int)] w (Got (D.view t) w) := by
  obtain ⟨c0, c1, c2, c3, c4, cf⟩ := d.cells
  rw [ho] at c2
  have HD := Lib.hid d
  have HR : Hid (hasB D t = true) := Lib.hid (by unfold hasB; simp; omega)
  clear c0 c1 c3 c4 cf d
  go_enter Try.func14, Try.ntmps14
  go_wp2_with fail
  refine (has_any HD.out t).mono ?_
  rintro e w' ⟨rfl, rfl⟩
  rw [HR.out]
  go_wp2_with fail
  refine (last_any HD.out ht).mono ?_
  rintro e w1 ⟨rfl, hb⟩
  have HB := Lib.hid hb
  clear hb
  go_wp2_with (first
    | (refine wpList_store_mid rfl 67 (.tmp 6) (.tmp 19) ?_ w1.heap.size 0 (cellsOf (D.view t) 64).toArray ?_ ?_ ?_ (sector_len' _) (sector_one _) ?_
       · rfl
       · rfl
       · rfl
       · exact sector_there _ (there_new _ _ _ _ (by kernel_rfl))))
  go_ret2
  refine ⟨w1.heap.size, rfl, stored_sector (row_literal w1 _ 67 (fun _ => .int .u8 0) 64 (by kernel_rfl)) (D.view t), HB.out.size, ?_⟩
  exact (HB.out.alloc HB.out.size _).trans ((apart_setCells _ _ _ _).below (by have := HB.out.size; simp; omega) fun i hi e => by have := HB.out.size; omega)

/-- Those of the first i writes that p names. -/
def keptTo (l : List Wr) (p : Nat → Bool) : Nat → List Wr
  | 0 => []
  | i + 1 => keptTo l p i ++ (if p i then (l[i]?).toList else [])
theorem keptTo_yes {l : List Wr} {p : Nat → Bool} {i : Nat} (hi : i < l.length) (hp : p i = true) : keptTo l p (i + 1) = keptTo l p i ++ [l[i]] := by
  simp [keptTo, hp, hi]
theorem keptTo_no {l : List Wr} {p : Nat → Bool} {i : Nat} (hp : p i = false) : keptTo l p (i + 1) = keptTo l p i := by
  simp [keptTo, hp]
theorem keptTo_all (l : List Wr) : ∀ i, i ≤ l.length → keptTo l (fun _ => true) i = l.take i
  | 0, _ => by simp [keptTo]
  | i + 1, h => by rw [keptTo_yes (by omega) rfl, keptTo_all l i (by omega), List.take_succ_eq_append_getElem (by omega)]

/-- Behind a write that lasts. -/
theorem IsDev.settled {w : World} {base g h : Nat} {L : Value} {D : Dev} (d : IsDev w base g h L D) {x : Wr} (h2 : ∀ j, j < 64 → x.data j < 256) :
    IsDev (w.setCells h (x.at_ * 64) (cellsOf x.data 64)) base g h L { D with sure := lay D.sure x } := by
  have a := apart_setCells h (cellsOf x.data 64) (x.at_ * 64) w
  refine ⟨(a.block g (Array.getElem?_eq_some_iff.1 d.head).1 d.ne).trans d.head, ?_, ?_, d.bg, d.bh, d.ne, d.ng, d.nh, d.size, ?_, d.loose, d.left⟩
  · refine (d.body.sets (cellsOf x.data 64) (x.at_ * 64)).congr fun i hi => ?_
    show over (scell D.sure) _ _ i = scell (lay D.sure x) i
    unfold over scell lay
    rw [cellsOf_length]
    by_cases hc : x.at_ * 64 ≤ i ∧ i < x.at_ * 64 + 64
    · rw [if_pos hc, List.getD_eq_getElem?_getD, cellsOf_at x.data (by omega), if_pos (by omega)]
      show Value.int .u8 _ = _
      rw [show i % 64 = i - x.at_ * 64 by omega]
    · rw [if_neg hc, if_neg (by omega)]
  · refine ⟨d.own.1, ?_⟩
    rcases d.own.2 with h5 | ⟨k, cap, cur, e, hb0, hg, rest⟩
    · exact .inl h5
    · exact .inr ⟨k, cap, cur, e, hb0, (a.block k (Array.getElem?_eq_some_iff.1 hg).1 (fun e5 => d.nh (by rw [e, ← e5]; rfl))).trans hg, rest⟩
  · intro i hi j hj
    show lay D.sure x i j < 256
    unfold lay
    by_cases hc : i = x.at_
    · rw [if_pos hc]; exact h2 j hj
    · rw [if_neg hc]; exact d.sure i hi j hj

/-- Behind the last line: none is loose any more. -/
theorem IsDev.emptied {w : World} {base g h : Nat} {L : Value} {D : Dev} (d : IsDev w base g h L D) : IsDev (w.setCell ⟨g, 1, none⟩ (.slice none 0 0)) base g h (.slice none 0 0) { D with loose := [] } :=
  ⟨by rw [heap_setCell_same w g 1 _ _ _ d.head]; rfl, d.body.apart (apart_set w g 1 _) (Ne.symm d.ne), World.ownsRow_nil _ _ _ _, d.bg, d.bh, d.ne, (by intro e; cases e), (by intro e; cases e), d.size, d.sure, (by intro x hx; cases hx), d.left⟩

/-- No write. -/
def noWr : Wr := ⟨0, fun _ => 0⟩
theorem write_zero : (Try.prog.info? 69).map (fun i => (i.zero, i.size)) = some (some (.agg (wcells noWr).toArray), 65) := by kernel_rfl
theorem write_size : (Try.prog.info? 69).map (·.size) = some 65 := (zero_of_info write_zero).2
theorem zero_write (w : World) : (zeroValue 69).run Try.prog w = .ok (.agg (wcells noWr).toArray) w := (zero_of_info write_zero).1 w
theorem write_len (x : Wr) : (Try.prog.info? 69).map (·.size) = some (wcells x).length := by rw [wcells_length]; exact write_size
theorem write_len' (x : Wr) : (Try.prog.info? 69).map (·.size) = some (wcells x).toArray.size := by simp only [List.size_toArray, wcells_length]; exact write_size
theorem wcells_one (x : Wr) (v : Value) (h : v ∈ wcells x) : v.oneCell' = true := by
  rcases List.mem_cons.1 h with rfl | h
  · rfl
  · exact cellsOf_one _ _ v h
theorem write_one (x : Wr) : (wcells x).toArray.all (·.oneCell') = true := all_oneCell_toArray (wcells_one x)
theorem write_there {w : World} {b o : Nat} (x : Wr) (h : w.there b o 65) : w.there b o (wcells x).toArray.size := by simpa [wcells_length] using h

/-- How far the writes have been made to last. -/
def Settling (w : World) (base g h : Nat) (L : Value) (D : Dev) (p : Nat → Bool) (v : Value) (wr : World) : Prop :=
  ∃ i, i ≤ D.loose.length ∧ v = .int .i64 (i : Int) ∧ IsDev wr base g h L { D with sure := lays D.sure (keptTo D.loose p i) } ∧ Apart (fun k => k = h) w wr

/-- The device behind a settling. -/
def Dev.settle (D : Dev) (p : Nat → Bool) : Dev := { D with sure := lays D.sure (keptTo D.loose p D.loose.length), loose := [] }
def Settled (w : World) (base g h : Nat) (D : Dev) (p : Nat → Bool) (e : Ending) (w' : World) : Prop :=
  e = .returned (.tuple #[]) ∧ IsDev w' base g h (.slice none 0 0) (D.settle p) ∧ Apart (fun k => k = g ∨ k = h) w w'

theorem boxed_write {w : World} {x : Wr} {w2 : World} (h : (w.alloc (.cells (wcells noWr).toArray 69)).setCells w.heap.size 0 (wcells x) = w2) :
    Below w.heap.size w w2 ∧ w2.cell? ⟨w.heap.size, 0, none⟩ = some (.int .i64 (x.at_ : Int)) ∧ w2.rangeAt w.heap.size 1 (cellsOf x.data 64) ∧ w2.heap.size = w.heap.size + 1 := by
  have ht := there_new w (wcells noWr).toArray 69 65 (by rw [List.size_toArray, wcells_length])
  have hr := World.rangeAt_setCells_same (w.alloc (.cells (wcells noWr).toArray 69)) w.heap.size 0 (wcells x) (by rw [wcells_length]; exact ht)
  have ha := apart_setCells w.heap.size (wcells x) 0 (w.alloc (.cells (wcells noWr).toArray 69))
  rw [h] at hr ha
  refine ⟨((Below.refl _ w).alloc (Nat.le_refl _) _).trans (ha.below (by simp) fun i hi e => by omega), ?_, fun j v hv => ?_, ?_⟩
  · have := hr 0 (.int .i64 (x.at_ : Int)) rfl
    simpa using this
  · have := hr (j + 1) v (by simpa [wcells] using hv)
    rwa [show 0 + (j + 1) = 1 + j by omega] at this
  · rw [← h]
    exact (setCells_size _ _ _ _).trans (by simp)

theorem held_behind {w : World} {g h b n m o x : Nat} {v : Value} {cs vs : List Value} (c0 : w.cell? ⟨g, 0, none⟩ = some v) (hp : w.cell? ⟨b, 0, none⟩ = some (.int .i64 (x : Int))) (hr : w.rangeAt b n cs) (ht : w.there h o m) (h1 : g ≠ h) (h2 : b ≠ h) :
    (w.drew.setCells h o vs).cell? ⟨g, 0, none⟩ = some v ∧ (w.drew.setCells h o vs).cell? ⟨b, 0, none⟩ = some (.int .i64 (x : Int)) ∧ (w.drew.setCells h o vs).rangeAt b n cs ∧ (w.drew.setCells h o vs).there h o m :=
  ⟨by rw [World.cell?_setCells_out h vs o _ _ (fun e _ => absurd e h1)]; exact c0, by rw [World.cell?_setCells_out h vs o _ _ (fun e _ => absurd e h2)]; exact hp, World.rangeAt_setCells_apart (w := w.drew) hr h o vs (.inl h2), World.there_setCells (w := w.drew) ht h o vs⟩

theorem settle_yes {w : World} {base g h : Nat} {L : Value} {D : Dev} (d : IsDev w base g h L D) :
    Calls Try.prog 30 #[.pointer (some ⟨g, 0, none⟩), .func (.func 31) #[] #[]] w (Settled w base g h D (fun _ => true)) := by
  obtain ⟨-, c1, -, -, -, -⟩ := d.cells
  obtain ⟨A, cap, rfl, hlc, hcm, hA⟩ := d.slice
  have HD := Lib.hid d
  obtain ⟨m, hm⟩ : ∃ m, m = D.loose.length := ⟨_, rfl⟩
  rw [← hm] at c1 hlc hA
  have HM := Lib.hid hm
  have hz := zero_write
  clear d hm
  go_enter Try.func30, Try.ntmps30
  go_wp2
  clear c1
  go_loopw [11] (fun v wr => Settling w base g h (.slice A D.loose.length cap) D (fun _ => true) v wr) (fun v _ => m - (intOf v).toNat)
  case atStart => exact ⟨0, Nat.zero_le _, rfl, HD.out, Apart.refl _ _⟩
  case round =>
    obtain ⟨i, hi, rfl, hd, ha⟩ := hrel
    have D1 := Lib.hid hd
    have A1 := Lib.hid ha
    rw [← HM.out] at hi
    obtain ⟨c0, c1, -, -, -, cf⟩ := hd.cells
    have cf1 := cf 1
    clear cf hd ha
    by_cases h0 : i < m
    · obtain ⟨k, rfl, hkw, hkg, hkh⟩ := hA (by omega)
      have hi' : i < D.loose.length := by have := HM.out; omega
      obtain ⟨x, hx⟩ : ∃ x, x = D.loose[i] := ⟨_, rfl⟩
      have R1 : wr.rangeAt k (i * 65) (wcells x) := by rw [hx]; exact IsDev.write (D := { D with sure := lays D.sure (keptTo D.loose (fun _ => true) i) }) D1.out hi'
      have RH := Lib.hid R1
      have HX := Lib.hid hx
      have hmem : x ∈ D.loose := by rw [hx]; exact List.getElem_mem hi'
      have HV := Lib.hid (D1.out.loose x hmem)
      have RZ := Lib.hid (write_there x (there_new wr (wcells noWr).toArray 69 65 (by rw [List.size_toArray, wcells_length])))
      clear R1 hx hmem
      go_wp2_with (first
        | (refine wpList_load_mid rfl 69 (.tmp 14) ?_ k (i * 65) ?_ (wcells x) _ ?_ Try.underlying69 rfl (write_len _) ?_
           · rfl
           · rfl
           · exact RH.out)
        | (refine wpList_store_mid rfl 69 (.tmp 5) (.tmp 15) ?_ wr.heap.size 0 (wcells x).toArray ?_ ?_ ?_ (write_len' _) (write_one _) ?_
           · rfl
           · rfl
           · rfl
           · exact RZ.out))
      go_wp2_with fail
      refine (yes_any _ _).mono ?_
      rintro e w2 ⟨rfl, hw⟩
      obtain ⟨hb, hx0, hx1, hsz⟩ := boxed_write hw
      have HB := Lib.hid hb
      have D2 := Lib.hid (D1.out.below hb)
      obtain ⟨d0, -, -, -, -, -⟩ := D2.out.cells
      have g1 : g ≠ h := D2.out.ne
      have g2 : wr.heap.size ≠ h := fun e => by have := (D1.out.lt h (.inr (.inl rfl))).2; omega
      clear hw hb c0 c1 cf1
      obtain ⟨cs, hcs⟩ : ∃ cs, cs = cellsOf x.data 64 := ⟨_, rfl⟩
      have hu := Try.underlying67
      have hi2 : (Try.prog.info? 67).map (·.size) = some cs.length := by rw [hcs]; exact sector_len _
      have hl : cs.length = 64 := by rw [hcs, cellsOf_length]
      have ho : ∀ v ∈ cs, v.oneCell' = true := by rw [hcs]; exact cellsOf_one _ _
      rw [← hcs] at hx1
      have HC := Lib.hid hcs
      have hlt : (x.at_ : Int) < (D.size : Int) := by have h7 : x.at_ < D.size := HV.out.1; omega
      have hl0 : (0 : Int) ≤ (x.at_ : Int) := by omega
      have RT : w2.there h (x.at_ * 64) 64 := D2.out.body.there (by have h7 : x.at_ < D.size := HV.out.1; show x.at_ * 64 + 64 ≤ D.size * 64; omega)
      clear hcs hsz
      go_wp2
      go_region_held3 (fun w' => w'.cell? ⟨g, 0, none⟩ = some (.slice (some ⟨h, 0, none⟩) D.size D.size) ∧ w'.cell? ⟨wr.heap.size, 0, none⟩ = some (.int .i64 (x.at_ : Int)) ∧ w'.rangeAt wr.heap.size 1 cs ∧ w'.there h (x.at_ * 64) 64)
        (first
          | exact ⟨d0, hx0, hx1, RT⟩
          | exact held_behind d0 hx0 hx1 RT g1 g2)
        (fail)
      clear hu hi2 hl ho RT
      go_wp2
      go_roundw
      case rel =>
        refine ⟨i + 1, by omega, by go_num, ?_, ?_⟩
        · have h6 := (D2.out.below ((Below.refl _ w2).drew)).settled (x := x) HV.out.2
          rw [HC.out]
          rw [keptTo_yes hi' rfl, lays_snoc, ← HX.out]
          exact h6
        · exact ((A1.out.then_ HB.out).drew).trans (apart_setCells h cs _ w2.drew) fun _ _ e => e
      case measure => simp [intOf]; omega
    · obtain rfl : i = m := by omega
      go_wp2
      go_end0
      refine ⟨rfl, ?_, ?_⟩
      · have := D1.out.emptied
        unfold Dev.settle
        rw [← HM.out]
        exact this
      · exact (A1.out.mono fun _ _ e => .inr e).trans (apart_set _ g 1 _) fun _ _ e => .inl e

theorem settle_some {w : World} {base g h : Nat} {L : Value} {D : Dev} (d : IsDev w base g h L D) {q n' c' : Nat} {A' : Option Addr} {p : Nat → Bool}
    (hk : ∀ W, Apart (fun k => k = h) w W → W.cell? ⟨q, 0, none⟩ = some (.slice A' n' c') ∧ MarksAt W A' n' p) (hn : D.loose.length ≤ n') :
    Calls Try.prog 30 #[.pointer (some ⟨g, 0, none⟩), .func (.func 33) #[] #[.pointer (some ⟨q, 0, none⟩)]] w (Settled w base g h D p) := by
  obtain ⟨-, c1, -, -, -, -⟩ := d.cells
  obtain ⟨A, cap, rfl, hlc, hcm, hA⟩ := d.slice
  have HD := Lib.hid d
  obtain ⟨m, hm⟩ : ∃ m, m = D.loose.length := ⟨_, rfl⟩
  rw [← hm] at c1 hlc hA
  have HM := Lib.hid hm
  have hz := zero_write
  rw [← hm] at hn
  clear d hm
  go_enter Try.func30, Try.ntmps30
  go_wp2
  clear c1
  go_loopw [11] (fun v wr => Settling w base g h (.slice A D.loose.length cap) D p v wr) (fun v _ => m - (intOf v).toNat)
  case atStart => exact ⟨0, Nat.zero_le _, rfl, HD.out, Apart.refl _ _⟩
  case round =>
    obtain ⟨i, hi, rfl, hd, ha⟩ := hrel
    have D1 := Lib.hid hd
    have A1 := Lib.hid ha
    rw [← HM.out] at hi
    obtain ⟨c0, c1, -, -, -, cf⟩ := hd.cells
    have cf1 := cf 1
    clear cf hd ha
    by_cases h0 : i < m
    · obtain ⟨k, rfl, hkw, hkg, hkh⟩ := hA (by omega)
      have hi' : i < D.loose.length := by have := HM.out; omega
      obtain ⟨x, hx⟩ : ∃ x, x = D.loose[i] := ⟨_, rfl⟩
      have R1 : wr.rangeAt k (i * 65) (wcells x) := by rw [hx]; exact IsDev.write (D := { D with sure := lays D.sure (keptTo D.loose p i) }) D1.out hi'
      have RH := Lib.hid R1
      have HX := Lib.hid hx
      have hmem : x ∈ D.loose := by rw [hx]; exact List.getElem_mem hi'
      have HV := Lib.hid (D1.out.loose x hmem)
      have RZ := Lib.hid (write_there x (there_new wr (wcells noWr).toArray 69 65 (by rw [List.size_toArray, wcells_length])))
      clear R1 hx hmem
      go_wp2_with (first
        | (refine wpList_load_mid rfl 69 (.tmp 14) ?_ k (i * 65) ?_ (wcells x) _ ?_ Try.underlying69 rfl (write_len _) ?_
           · rfl
           · rfl
           · exact RH.out)
        | (refine wpList_store_mid rfl 69 (.tmp 5) (.tmp 15) ?_ wr.heap.size 0 (wcells x).toArray ?_ ?_ ?_ (write_len' _) (write_one _) ?_
           · rfl
           · rfl
           · rfl
           · exact RZ.out))
      go_wp2_with fail
      have HK := hk _ ((A1.out.alloc (.cells (wcells noWr).toArray 69)).trans (apart_setCells wr.heap.size (wcells x) 0 _) fun i hi e => absurd hi (by have := A1.out.size; omega))
      refine (kept_any HK.1 HK.2 (by omega)).mono ?_
      rintro e w2 ⟨rfl, hw⟩
      obtain ⟨hb, hx0, hx1, hsz⟩ := boxed_write hw
      have HB := Lib.hid hb
      have D2 := Lib.hid (D1.out.below hb)
      obtain ⟨d0, -, -, -, -, -⟩ := D2.out.cells
      have g1 : g ≠ h := D2.out.ne
      have g2 : wr.heap.size ≠ h := fun e => by have := (D1.out.lt h (.inr (.inl rfl))).2; omega
      clear hw hb c0 c1 cf1
      by_cases hp : p i = true
      · rw [hp]
        obtain ⟨cs, hcs⟩ : ∃ cs, cs = cellsOf x.data 64 := ⟨_, rfl⟩
        have hu := Try.underlying67
        have hi2 : (Try.prog.info? 67).map (·.size) = some cs.length := by rw [hcs]; exact sector_len _
        have hl : cs.length = 64 := by rw [hcs, cellsOf_length]
        have ho : ∀ v ∈ cs, v.oneCell' = true := by rw [hcs]; exact cellsOf_one _ _
        rw [← hcs] at hx1
        have HC := Lib.hid hcs
        have hlt : (x.at_ : Int) < (D.size : Int) := by have h7 : x.at_ < D.size := HV.out.1; omega
        have hl0 : (0 : Int) ≤ (x.at_ : Int) := by omega
        have RT : w2.there h (x.at_ * 64) 64 := D2.out.body.there (by have h7 : x.at_ < D.size := HV.out.1; show x.at_ * 64 + 64 ≤ D.size * 64; omega)
        clear hcs hsz
        go_wp2
        go_region_held3 (fun w' => w'.cell? ⟨g, 0, none⟩ = some (.slice (some ⟨h, 0, none⟩) D.size D.size) ∧ w'.cell? ⟨wr.heap.size, 0, none⟩ = some (.int .i64 (x.at_ : Int)) ∧ w'.rangeAt wr.heap.size 1 cs ∧ w'.there h (x.at_ * 64) 64)
          (first
            | exact ⟨d0, hx0, hx1, RT⟩
            | exact held_behind d0 hx0 hx1 RT g1 g2)
          (fail)
        clear hu hi2 hl ho RT
        go_wp2
        go_roundw
        case rel =>
          refine ⟨i + 1, by omega, by go_num, ?_, ?_⟩
          · have h6 := (D2.out.below ((Below.refl _ w2).drew)).settled (x := x) HV.out.2
            rw [HC.out]
            rw [keptTo_yes hi' hp, lays_snoc, ← HX.out]
            exact h6
          · exact ((A1.out.then_ HB.out).drew).trans (apart_setCells h cs _ w2.drew) fun _ _ e => e
        case measure => simp [intOf]; omega
      · have hp' : p i = false := by simpa using hp
        have HP := Lib.hid hp'
        rw [hp']
        clear hp hp' hx0 hx1 hsz
        go_wp2
        go_roundw
        case rel =>
          refine ⟨i + 1, by omega, by go_num, ?_, A1.out.then_ HB.out⟩
          rw [keptTo_no HP.out]
          exact D2.out
        case measure => simp [intOf]; omega
    · obtain rfl : i = m := by omega
      go_wp2
      go_end0
      refine ⟨rfl, ?_, ?_⟩
      · have := D1.out.emptied
        unfold Dev.settle
        rw [← HM.out]
        exact this
      · exact (A1.out.mono fun _ _ e => .inr e).trans (apart_set _ g 1 _) fun _ _ e => .inl e

end Go.Proofs.Ytcnoadikkfedaaa
