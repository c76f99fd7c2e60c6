/- The document's own device: settle, Flush, Crash. -/
import Derived.Test.YtcnoadikkfedaaaRefNew
import Derived.Deep.RegionHeld3
namespace Go.Proofs.Ytcnoadikkfedaaa
open Go.RowKit

/-- Behind a write that lasts. -/
theorem IsRef.settled {w : World} {B g kS cap : Nat} {L : Value} {y : Int} {D : Dev} (d : IsRef w B g (.slice (some ⟨kS, 0, none⟩) D.size cap) L y D) (x : Wr) :
    IsRef (w.setCell ⟨kS, x.at_, none⟩ (text64 x.data)) B g (.slice (some ⟨kS, 0, none⟩) D.size cap) L y { D with sure := lay D.sure x } where
  head := by
    rw [heap_setCell_other _ _ _ _ (by intro e; exact d.ns (by show some kS = some g; rw [show g = kS from e]))]
    exact d.head
  sure := by
    have := owns_set (i := x.at_) (u := text64 x.data) d.sure
    rw [rcells_set] at this
    exact this
  own := owns_apart d.own (apart_set w kS x.at_ _) fun k e h => d.sl kS rfl (by rw [e, h])
  bg := d.bg
  ns := d.ns
  nl := d.nl
  sl := d.sl
  size := d.size
  loose := d.loose
  left := d.left
theorem IsRef.emptied {w : World} {B g : Nat} {S L : Value} {y : Int} {D : Dev} (d : IsRef w B g S L y D) : IsRef (w.setCell ⟨g, 1, none⟩ (.slice none 0 0)) B g S (.slice none 0 0) y { D with loose := [] } where
  head := by rw [heap_setCell_same w g 1 _ _ _ d.head]; rfl
  sure := owns_apart d.sure (apart_set w g 1 _) fun k e h => d.ns (by rw [← h]; exact e)
  own := World.ownsRow_nil _ _ _ _
  bg := d.bg
  ns := d.ns
  nl := by intro e; cases e
  sl := by intro k _ e; cases e
  size := d.size
  loose := fun x hx => by cases hx
  left := d.left

/-- A cell of a block that is not written. -/
theorem cell_beyond {w : World} {p : Addr} {k i : Nat} {u v : Value} (h : w.cell? p = some v) (hn : p.block ≠ k) : (w.setCell ⟨k, i, none⟩ u).cell? p = some v := by
  rw [World.cell?_of_block (heap_setCell_other _ _ _ _ hn)]
  exact h

def refWhich (all : Bool) (Z : List Int) (t : Nat) : Bool := all || named Z Z.length t

def RSettling (w1 : World) (B g : Nat) (S L : Value) (y : Int) (D : Dev) (p : Nat → Bool) (kS : Nat) (v : Value) (wr : World) : Prop :=
  ∃ i, i ≤ D.loose.length ∧ v = .int .i64 (i : Int) ∧ IsRef wr B g S L y { D with sure := lays D.sure (keptTo D.loose p i) } ∧ Apart (fun k => k = kS) w1 wr
def RSettled (w : World) (B g : Nat) (S L : Value) (y : Int) (D : Dev) (p : Nat → Bool) (e : Ending) (w' : World) : Prop :=
  e = .returned (.tuple #[]) ∧ IsRef w' B g S (.slice none 0 0) y (D.settle p) ∧ Apart (rfoot g S L) w w'

set_option maxHeartbeats 1600000 in
theorem refSettle_all {w : World} {B g : Nat} {S L : Value} {y : Int} {D : Dev} (d : IsRef w B g S L y D) {A : Option Addr} {n c : Nat} (Z : List Int) :
    Calls Try.prog 32 #[.pointer (some ⟨g, 0, none⟩), .agg #[.bool true, .slice A n c]] w (RSettled w B g S L y D (refWhich true Z)) := by
  have bx : Below w.heap.size w (w.alloc (.cells #[.bool true, .slice A n c] 76)) := (Below.refl _ _).alloc (Nat.le_refl _) _
  obtain ⟨AS, capS, rfl, hS1, hS2, hS⟩ := own_slice d.sure
  obtain ⟨kS, rfl, hkS⟩ := hS (by have := d.size; omega)
  obtain ⟨AL, capL, rfl, hL1, hL2, hL⟩ := own_slice d.own
  have hs := d.size
  have HD := Lib.hid (d.below bx)
  have BX := Lib.hid bx
  obtain ⟨m, hm⟩ : ∃ m, m = D.loose.length := ⟨_, rfl⟩
  have HM := Lib.hid hm
  have hml : m ≤ 9223372036854775807 := by omega
  have K0 : Hid ((w.alloc (.cells #[.bool true, .slice A n c] 76)).heap[w.heap.size]? = some (.cells #[.bool true, .slice A n c] 76)) := Lib.hid (heap_alloc_new w _)
  have GF := Lib.hid (fun k hk => (d.lt k hk).2)
  clear d bx hm hL hS
  go_enter Try.func32, Try.ntmps32
  go_wp2
  go_loopw [4] (fun v wr => RSettling (w.alloc (.cells #[.bool true, .slice A n c] 76)) B g (.slice (some ⟨kS, 0, none⟩) D.size capS) (.slice AL D.loose.length capL) y D (refWhich true Z) kS v wr) (fun v _ => m - (intOf v).toNat)
  case atStart => exact ⟨0, Nat.zero_le _, rfl, HD.out, Apart.refl _ _⟩
  case round =>
    obtain ⟨i, hi, rfl, hd, ha⟩ := hrel
    have D1 := Lib.hid hd
    have A1 := Lib.hid ha
    obtain ⟨c0, c1, -, -, cf⟩ := hd.cells
    have cf1 := cf 1
    rw [← HM.out] at hi c1
    have kb : wr.heap[w.heap.size]? = _ := (ha.block w.heap.size (by simp) (by omega)).trans K0.out
    have b0 : wr.cell? ⟨w.heap.size, 0, none⟩ = some (.bool true) := by rw [cell_of_row _ _ _ _ _ _ kb]; rfl
    have b1 : wr.cell? ⟨w.heap.size, 1, none⟩ = some (.slice A n c) := by rw [cell_of_row _ _ _ _ _ _ kb]; rfl
    clear hd ha cf kb
    by_cases h0 : i < m
    · have hi' : i < D.loose.length := by have := HM.out; omega
      obtain ⟨A', cap', hv, hB1, hB2, hB⟩ := own_slice D1.out.own
      obtain ⟨k, rfl, hkw⟩ := hB (by show 0 < D.loose.length; omega)
      obtain ⟨rfl, -, rfl⟩ : AL = some ⟨k, 0, none⟩ ∧ D.loose.length = D.loose.length ∧ capL = cap' := by simpa using hv
      obtain ⟨x, hx⟩ : ∃ x, x = D.loose[i] := ⟨_, rfl⟩
      have w0 : wr.cell? ⟨k, i * 2, none⟩ = some (.int .i64 (x.at_ : Int)) := own_cell D1.out.own (by have := rlcells_at D.loose hi' (j := 0) (by omega); rw [Nat.add_zero] at this; rw [this, hx]; rfl)
      have w1 : wr.cell? ⟨k, i * 2 + 1, none⟩ = some (text64 x.data) := own_cell D1.out.own (by have := rlcells_at D.loose hi' (j := 1) (by omega); rw [this, hx]; rfl)
      have hxs : x.at_ < D.size := D1.out.loose x (by rw [hx]; exact List.getElem_mem hi')
      have v0 : wr.cell? ⟨kS, x.at_, none⟩ = some (text64 (lays D.sure (keptTo D.loose (refWhich true Z) i) x.at_)) := own_cell D1.out.sure (rcells_at _ hxs)
      have vf : wr.frozen? ⟨kS, x.at_, none⟩ = false := own_free D1.out.sure _
      have n1 : g ≠ kS := fun e => D1.out.ns (by show some kS = some g; rw [e])
      have n2 : k ≠ kS := fun e => D1.out.sl kS rfl (by show some k = some kS; rw [e])
      obtain ⟨T, hT⟩ : ∃ T, T = text64 x.data := ⟨_, rfl⟩
      have HX := Lib.hid hx
      have hlt : (x.at_ : Int) < (D.size : Int) := by omega
      have hl0 : (0 : Int) ≤ (x.at_ : Int) := by omega
      have i0 : (i : Int) < (m : Int) := by omega
      have i1 : (0 : Int) ≤ (i : Int) := by omega
      rw [← HM.out] at hB1
      obtain ⟨S0, hS0⟩ : ∃ S0, S0 = text64 (lays D.sure (keptTo D.loose (refWhich true Z) i) x.at_) := ⟨_, rfl⟩
      have hS0' : ∃ s, S0 = .string s := ⟨_, hS0⟩
      obtain ⟨s0, rfl⟩ := hS0'
      have hT' : ∃ s, T = .string s := ⟨_, hT⟩
      obtain ⟨t0, rfl⟩ := hT'
      rw [← hS0] at v0
      rw [← hT] at w1
      have HT := Lib.hid hT
      clear hv hB hx hxs hT hS0 cf1
      go_wp2
      go_region_held3 (fun w' => w'.cell? ⟨g, 0, none⟩ = some (.slice (some ⟨kS, 0, none⟩) D.size capS) ∧ w'.cell? ⟨g, 1, none⟩ = some (.slice (some ⟨k, 0, none⟩) m capL) ∧ w'.cell? ⟨k, i * 2, none⟩ = some (.int .i64 (x.at_ : Int)) ∧ w'.cell? ⟨k, i * 2 + 1, none⟩ = some (.string t0))
        (first
          | exact ⟨c0, c1, w0, w1⟩
          | exact ⟨cell_beyond (w := wr.drew) c0 n1, cell_beyond (w := wr.drew) c1 n1, cell_beyond (w := wr.drew) w0 n2, cell_beyond (w := wr.drew) w1 n2⟩)
        (fail)
      clear v0 vf w0 w1 c0 c1 b0 b1
      go_wp2
      go_roundw
      case rel =>
        refine ⟨i + 1, by omega, by go_num, ?_, (A1.out.drew).trans (apart_set _ kS _ _) fun _ _ e => e⟩
        have h6 := IsRef.settled (D := { D with sure := lays D.sure (keptTo D.loose (refWhich true Z) i) }) (D1.out.below ((Below.refl _ wr).drew)) x
        rw [HT.out]
        rw [keptTo_yes hi' (by simp [refWhich]), lays_snoc, ← HX.out]
        exact h6
      case measure => simp [intOf]; omega
    · obtain rfl : i = m := by omega
      clear b0 b1 c0
      go_wp2
      go_end0
      refine ⟨rfl, ?_, ?_⟩
      · have := D1.out.emptied
        unfold Dev.settle
        rw [← HM.out]
        exact this
      · refine ((Apart.of_below (F := rfoot g (.slice (some ⟨kS, 0, none⟩) D.size capS) (.slice AL D.loose.length capL)) BX.out).trans A1.out fun j hj e => .inr (.inl (by rw [e]; rfl))).trans (apart_set _ g 1 _) fun _ _ e => .inl e

set_option maxHeartbeats 1600000 in
theorem refSettle_some {w : World} {B g : Nat} {S L : Value} {y : Int} {D : Dev} (d : IsRef w B g S L y D) {A : Option Addr} {n c : Nat} {Z : List Int} (s : ∀ W, Apart (rfoot g S L) w W → IntsIn W .i64 A n c Z) :
    Calls Try.prog 32 #[.pointer (some ⟨g, 0, none⟩), .agg #[.bool false, .slice A n c]] w (RSettled w B g S L y D (refWhich false Z)) := by
  have bx : Below w.heap.size w (w.alloc (.cells #[.bool false, .slice A n c] 76)) := (Below.refl _ _).alloc (Nat.le_refl _) _
  obtain ⟨AS, capS, rfl, hS1, hS2, hS⟩ := own_slice d.sure
  obtain ⟨kS, rfl, hkS⟩ := hS (by have := d.size; omega)
  obtain ⟨AL, capL, rfl, hL1, hL2, hL⟩ := own_slice d.own
  have hs := d.size
  have HD := Lib.hid (d.below bx)
  have HI := Lib.hid s
  have BX := Lib.hid bx
  obtain ⟨m, hm⟩ : ∃ m, m = D.loose.length := ⟨_, rfl⟩
  have HM := Lib.hid hm
  have hml : m ≤ 9223372036854775807 := by omega
  have K0 : Hid ((w.alloc (.cells #[.bool false, .slice A n c] 76)).heap[w.heap.size]? = some (.cells #[.bool false, .slice A n c] 76)) := Lib.hid (heap_alloc_new w _)
  have GF := Lib.hid (fun k hk => (d.lt k hk).2)
  clear d s bx hm hL hS
  go_enter Try.func32, Try.ntmps32
  go_wp2
  go_loopw [4] (fun v wr => RSettling (w.alloc (.cells #[.bool false, .slice A n c] 76)) B g (.slice (some ⟨kS, 0, none⟩) D.size capS) (.slice AL D.loose.length capL) y D (refWhich false Z) kS v wr) (fun v _ => m - (intOf v).toNat)
  case atStart => exact ⟨0, Nat.zero_le _, rfl, HD.out, Apart.refl _ _⟩
  case round =>
    obtain ⟨i, hi, rfl, hd, ha⟩ := hrel
    have D1 := Lib.hid hd
    have A1 := Lib.hid ha
    obtain ⟨c0, c1, -, -, cf⟩ := hd.cells
    have cf1 := cf 1
    rw [← HM.out] at hi c1
    have kb : wr.heap[w.heap.size]? = _ := (ha.block w.heap.size (by simp) (by omega)).trans K0.out
    have b0 : wr.cell? ⟨w.heap.size, 0, none⟩ = some (.bool false) := by rw [cell_of_row _ _ _ _ _ _ kb]; rfl
    have b1 : wr.cell? ⟨w.heap.size, 1, none⟩ = some (.slice A n c) := by rw [cell_of_row _ _ _ _ _ _ kb]; rfl
    clear hd ha cf kb
    by_cases h0 : i < m
    · have hi' : i < D.loose.length := by have := HM.out; omega
      obtain ⟨A', cap', hv, hB1, hB2, hB⟩ := own_slice D1.out.own
      obtain ⟨k, rfl, hkw⟩ := hB (by show 0 < D.loose.length; omega)
      obtain ⟨rfl, -, rfl⟩ : AL = some ⟨k, 0, none⟩ ∧ D.loose.length = D.loose.length ∧ capL = cap' := by simpa using hv
      obtain ⟨x, hx⟩ : ∃ x, x = D.loose[i] := ⟨_, rfl⟩
      have w0 : wr.cell? ⟨k, i * 2, none⟩ = some (.int .i64 (x.at_ : Int)) := own_cell D1.out.own (by have := rlcells_at D.loose hi' (j := 0) (by omega); rw [Nat.add_zero] at this; rw [this, hx]; rfl)
      have w1 : wr.cell? ⟨k, i * 2 + 1, none⟩ = some (text64 x.data) := own_cell D1.out.own (by have := rlcells_at D.loose hi' (j := 1) (by omega); rw [this, hx]; rfl)
      have hxs : x.at_ < D.size := D1.out.loose x (by rw [hx]; exact List.getElem_mem hi')
      have v0 : wr.cell? ⟨kS, x.at_, none⟩ = some (text64 (lays D.sure (keptTo D.loose (refWhich false Z) i) x.at_)) := own_cell D1.out.sure (rcells_at _ hxs)
      have vf : wr.frozen? ⟨kS, x.at_, none⟩ = false := own_free D1.out.sure _
      have n1 : g ≠ kS := fun e => D1.out.ns (by show some kS = some g; rw [e])
      have n2 : k ≠ kS := fun e => D1.out.sl kS rfl (by show some k = some kS; rw [e])
      obtain ⟨T, hT⟩ : ∃ T, T = text64 x.data := ⟨_, rfl⟩
      have HX := Lib.hid hx
      have hlt : (x.at_ : Int) < (D.size : Int) := by omega
      have hl0 : (0 : Int) ≤ (x.at_ : Int) := by omega
      have i0 : (i : Int) < (m : Int) := by omega
      have i1 : (0 : Int) ≤ (i : Int) := by omega
      rw [← HM.out] at hB1
      obtain ⟨S0, hS0⟩ : ∃ S0, S0 = text64 (lays D.sure (keptTo D.loose (refWhich false Z) i) x.at_) := ⟨_, rfl⟩
      have hS0' : ∃ s, S0 = .string s := ⟨_, hS0⟩
      obtain ⟨s0, rfl⟩ := hS0'
      have hT' : ∃ s, T = .string s := ⟨_, hT⟩
      obtain ⟨t0, rfl⟩ := hT'
      rw [← hS0] at v0
      rw [← hT] at w1
      have HT := Lib.hid hT
      clear hv hB hx hxs hT hS0 cf1
      go_wp2_with fail
      refine (refHas_any (HI.out _ ((Apart.of_below BX.out).trans A1.out fun j hj e => .inr (.inl (by rw [e]; rfl)))) i).mono ?_
      rintro e w' ⟨rfl, rfl⟩
      by_cases hp : named Z Z.length i = true
      · rw [hp]
        have HP := Lib.hid hp
        clear hp
        go_wp2
        go_region_held3 (fun w' => w'.cell? ⟨g, 0, none⟩ = some (.slice (some ⟨kS, 0, none⟩) D.size capS) ∧ w'.cell? ⟨g, 1, none⟩ = some (.slice (some ⟨k, 0, none⟩) m capL) ∧ w'.cell? ⟨k, i * 2, none⟩ = some (.int .i64 (x.at_ : Int)) ∧ w'.cell? ⟨k, i * 2 + 1, none⟩ = some (.string t0))
          (first
            | exact ⟨c0, c1, w0, w1⟩
            | exact ⟨cell_beyond (w := wr.drew) c0 n1, cell_beyond (w := wr.drew) c1 n1, cell_beyond (w := wr.drew) w0 n2, cell_beyond (w := wr.drew) w1 n2⟩)
          (fail)
        clear v0 vf w0 w1 c0 c1 b0 b1
        go_wp2
        go_roundw
        case rel =>
          refine ⟨i + 1, by omega, by go_num, ?_, (A1.out.drew).trans (apart_set _ kS _ _) fun _ _ e => e⟩
          have h6 := IsRef.settled (D := { D with sure := lays D.sure (keptTo D.loose (refWhich false Z) i) }) (D1.out.below ((Below.refl _ wr).drew)) x
          rw [HT.out]
          rw [keptTo_yes hi' (by unfold refWhich; rw [HP.out]; rfl), lays_snoc, ← HX.out]
          exact h6
        case measure => simp [intOf]; omega
      · have hp' : named Z Z.length i = false := by simpa using hp
        have HP := Lib.hid hp'
        rw [hp']
        clear hp hp' v0 vf w0 w1 c0 c1 b0 b1
        go_wp2
        go_roundw
        case rel =>
          refine ⟨i + 1, by omega, by go_num, ?_, A1.out⟩
          rw [keptTo_no (by unfold refWhich; rw [HP.out]; rfl)]
          exact D1.out
        case measure => simp [intOf]; omega
    · obtain rfl : i = m := by omega
      clear b0 b1 c0
      go_wp2
      go_end0
      refine ⟨rfl, ?_, ?_⟩
      · have := D1.out.emptied
        unfold Dev.settle
        rw [← HM.out]
        exact this
      · refine ((Apart.of_below (F := rfoot g (.slice (some ⟨kS, 0, none⟩) D.size capS) (.slice AL D.loose.length capL)) BX.out).trans A1.out fun j hj e => .inr (.inl (by rw [e]; rfl))).trans (apart_set _ g 1 _) fun _ _ e => .inl e

/-- What Flush answers. -/
def RFlushed (w : World) (B g : Nat) (S L : Value) (D : Dev) (e : Ending) (w' : World) : Prop :=
  Apart (rfoot g S L) w w' ∧ ∃ y',
    ((D.power.1 = true ∧ e = .returned (.int .i64 0) ∧ IsRef w' B g S (.slice none 0 0) y' (D.power.2.settle (fun _ => true))) ∨ (D.power.1 = false ∧ e = .returned (.int .i64 10) ∧ IsRef w' B g S L y' D.power.2))
theorem refFlush_any {w : World} {B g : Nat} {S L : Value} {y : Int} {D : Dev} (d : IsRef w B g S L y D) :
    Calls Try.prog 17 #[.pointer (some ⟨g, 0, none⟩)] w (RFlushed w B g S L D) := by
  obtain ⟨-, -, -, c3, -⟩ := d.cells
  have HD := Lib.hid d
  clear d
  by_cases ho : D.off = true
  · rw [ho] at c3
    have e : D.power = (false, D) := by unfold Dev.power; rw [if_pos ho]
    have HE := Lib.hid e
    clear e ho
    go_enter Try.func17, Try.ntmps17
    go_wp2
    go_ret
    exact ⟨Apart.refl _ _, y, .inr ⟨by rw [HE.out], rfl, by rw [HE.out]; exact HD.out⟩⟩
  · have ho' : D.off = false := by simpa using ho
    rw [ho'] at c3
    have HO := Lib.hid ho'
    clear ho ho'
    go_enter Try.func17, Try.ntmps17
    go_wp2_with fail
    refine (spend_any HD.out HO.out).mono ?_
    rintro e w1 ⟨y', rfl, hd, ha⟩
    have D1 := Lib.hid hd
    have A1 := Lib.hid ha
    clear hd ha c3
    by_cases hp : D.power.1 = true
    · have HP := Lib.hid hp
      rw [hp]
      clear hp
      go_wp2_with fail
      refine (refSettle_all D1.out []).mono ?_
      rintro e w2 ⟨rfl, hd, ha⟩
      have D2 := Lib.hid hd
      have A2 := Lib.hid ha
      clear hd ha
      go_wp2
      go_ret
      exact ⟨(A1.out.mono fun _ _ e => .inl e).trans A2.out fun _ _ e => e, y', .inl ⟨HP.out, rfl, D2.out⟩⟩
    · have hp' : D.power.1 = false := by simpa using hp
      have HP := Lib.hid hp'
      rw [hp']
      clear hp hp'
      go_wp2
      go_ret
      exact ⟨A1.out.mono fun _ _ e => .inl e, y', .inr ⟨HP.out, rfl, D1.out⟩⟩

def RCrashed (w : World) (B g : Nat) (S L : Value) (D : Dev) (Z : List Int) (e : Ending) (w' : World) : Prop :=
  e = .returned (.tuple #[]) ∧ IsRef w' B g S (.slice none 0 0) (-1) (D.crash Z) ∧ Apart (rfoot g S L) w w'
theorem refCrash_any {w : World} {B g : Nat} {S L : Value} {y : Int} {D : Dev} (d : IsRef w B g S L y D) {A : Option Addr} {n c : Nat} {Z : List Int} (s : ∀ W, Apart (rfoot g S L) w W → IntsIn W .i64 A n c Z) :
    Calls Try.prog 20 #[.pointer (some ⟨g, 0, none⟩), .slice A n c] w (RCrashed w B g S L D Z) := by
  have HD := Lib.hid d
  have HS := Lib.hid s
  clear d s
  go_enter Try.func20, Try.ntmps20
  go_wp2_with fail
  refine (refSettle_some HD.out HS.out).mono ?_
  rintro e w2 ⟨rfl, hd, ha⟩
  obtain ⟨-, -, c2, c3, cf⟩ := hd.cells
  have f2 := cf 2
  have f3 := cf 3
  have D2 := Lib.hid hd
  have A2 := Lib.hid ha
  clear hd ha cf
  go_wp2
  go_end0
  have ha := (apart_set w2 g 3 (.bool false)).trans (apart_set _ g 2 (.int .i64 (-1))) (fun _ _ e => e)
  refine ⟨rfl, D2.out.head_ ha ?_ rfl rfl rfl ⟨(fun h => by cases h), fun _ => by omega, by omega, by omega⟩, A2.out.trans ha fun _ _ e => .inl e⟩
  rw [heap_setCell_same _ g 2 _ _ _ (heap_setCell_same w2 g 3 _ _ _ D2.out.head)]; rfl
end Go.Proofs.Ytcnoadikkfedaaa
