/- The document's own device: spend, Get, has. -/
import Derived.Test.YtcnoadikkfedaaaRefWords
namespace Go.Proofs.Ytcnoadikkfedaaa
open Go.RowKit

/-- A ref behind a turn of its head alone. -/
theorem IsRef.head_ {w w' : World} {B g : Nat} {S L : Value} {y y' : Int} {D D' : Dev} (d : IsRef w B g S L y D) (a : Apart (fun k => k = g) w w')
    (hh : w'.heap[g]? = some (.cells #[S, L, .int .i64 y', .bool D'.off] 47 (0, 0)))
    (e1 : D'.size = D.size) (e2 : D'.sure = D.sure) (e3 : D'.loose = D.loose) (e4 : (D'.limited = true → y' = D'.left ∧ 0 ≤ y') ∧ (D'.limited = false → y' < 0) ∧ -9223372036854775808 ≤ y' ∧ y' ≤ 9223372036854775807) : IsRef w' B g S L y' D' where
  head := hh
  sure := by rw [e1, e2]; exact owns_apart d.sure a fun k e h => d.ns (by rw [← h]; exact e)
  own := by rw [e3]; exact owns_apart d.own a fun k e h => d.nl (by rw [← h]; exact e)
  bg := d.bg
  ns := d.ns
  nl := d.nl
  sl := d.sl
  size := by rw [e1]; exact d.size
  loose := by rw [e1, e3]; exact d.loose
  left := e4

/-- Behind an attempt while the power is on. -/
def Spent (w : World) (B g : Nat) (S L : Value) (D : Dev) (e : Ending) (w' : World) : Prop :=
  ∃ y', e = .returned (.bool (!D.power.1)) ∧ IsRef w' B g S L y' D.power.2 ∧ Apart (fun k => k = g) w w'

theorem spend_any {w : World} {B g : Nat} {S L : Value} {y : Int} {D : Dev} (d : IsRef w B g S L y D) (ho : D.off = false) :
    Calls Try.prog 28 #[.pointer (some ⟨g, 0, none⟩)] w (Spent w B g S L D) := by
  obtain ⟨-, -, c2, c3, cf⟩ := d.cells
  have f2 := cf 2
  have f3 := cf 3
  have HD := Lib.hid d
  obtain ⟨l1, l2, l3, l4⟩ := d.left
  rw [ho] at c3
  clear cf d
  by_cases hl : D.limited = true
  · obtain ⟨hy, hy0⟩ := l1 hl
    by_cases h0 : y = 0
    · have e : D.power = (false, { D with off := true }) := by
        unfold Dev.power
        rw [if_neg (by rw [ho]; simp), if_neg (by rw [hl]; simp), if_pos (by omega)]
      have HE := Lib.hid e
      have HY := Lib.hid hy
      have HL := Lib.hid hl
      subst h0
      clear e hy l1 l2 hl
      go_enter Try.func28, Try.ntmps28
      go_wp2
      go_ret
      have ha := apart_set w g 3 (.bool true)
      refine ⟨0, by rw [HE.out]; rfl, ?_, ha⟩
      rw [HE.out]
      exact HD.out.head_ ha (by rw [heap_setCell_same w g 3 _ _ _ HD.out.head]; rfl) rfl rfl rfl ⟨fun _ => ⟨HY.out, by omega⟩, fun h => absurd h (by show ¬ D.limited = false; rw [HL.out]; simp), by omega, by omega⟩
    · have e : D.power = (true, { D with left := D.left - 1 }) := by
        unfold Dev.power
        rw [if_neg (by rw [ho]; simp), if_neg (by rw [hl]; simp), if_neg (by omega)]
      have HE := Lib.hid e
      have HY := Lib.hid hy
      have HL := Lib.hid hl
      have hyp : 0 < y := by omega
      have h0' : (y == 0) = false := by simpa using h0
      clear e hy l1 l2 hl h0
      go_enter Try.func28, Try.ntmps28
      go_wp2
      go_ret
      have ha := apart_set w g 2 (.int .i64 (y - 1))
      refine ⟨y - 1, by rw [HE.out]; rfl, ?_, ha⟩
      rw [HE.out]
      have hy := HY.out
      exact HD.out.head_ ha (by rw [heap_setCell_same w g 2 _ _ _ HD.out.head]; rfl) rfl rfl rfl ⟨fun _ => ⟨by show y - 1 = D.left - 1; omega, by omega⟩, fun h => absurd h (by show ¬ D.limited = false; rw [HL.out]; simp), by omega, by omega⟩
  · have hl' : D.limited = false := by simpa using hl
    have hyn := l2 hl'
    have e : D.power = (true, D) := power_free ho hl'
    have HE := Lib.hid e
    have h0' : (y == 0) = false := by simp; omega
    have hn : ¬ 0 < y := by omega
    clear e l1 l2 hl
    go_enter Try.func28, Try.ntmps28
    go_wp2
    go_ret
    refine ⟨y, by rw [HE.out]; rfl, ?_, Apart.refl _ _⟩
    rw [HE.out]
    exact HD.out

theorem named_no (Z : List Int) (t : Nat) : named Z 0 t = false := by simp [named]

theorem refHas_any {w : World} {A : Option Addr} {n c : Nat} {Z : List Int} (s : IntsIn w .i64 A n c Z) (t : Nat) :
    Calls Try.prog 37 #[.slice A n c, .int .i64 (t : Int)] w fun e w' => e = .returned (.bool (named Z Z.length t)) ∧ w = w' := by
  have HS := Lib.hid s
  have hn : n ≤ 9223372036854775807 := by have := s.cap; have := s.most; omega
  have HL := Lib.hid s.len
  clear s
  go_enter Try.func37, Try.ntmps37
  go_wp2
  go_loop [5] (fun v => ∃ i : Nat, i ≤ n ∧ v = .int .i64 (i : Int) ∧ named Z i t = false) (fun v => n - (intOf v).toNat)
  case atStart => exact ⟨0, Nat.zero_le _, rfl, named_no _ _⟩
  case round =>
    obtain ⟨i, hi, rfl, hno⟩ := hrel
    have HN := Lib.hid hno
    clear hno
    by_cases h0 : i < n
    · obtain ⟨ad, rfl⟩ := HS.out.addr (by omega)
      have hiZ : i < Z.length := by have := HL.out; omega
      obtain ⟨x, hx⟩ : ∃ x, x = Z[i] := ⟨_, rfl⟩
      have hz : w.cell? (ad.add i) = some (.int .i64 x) := by
        have h8 := HS.out.cell ad rfl i h0
        rw [List.getD_eq_getElem?_getD, List.getElem?_eq_getElem hiZ] at h8
        rw [hx]
        exact h8
      have HX := Lib.hid hx
      clear hx
      by_cases he : x = (t : Int)
      · have hb : (x == (t : Int)) = true := by simpa using he
        have HE := Lib.hid he
        clear he
        go_wp2
        go_ret
        refine ⟨?_, rfl⟩
        have : named Z Z.length t = true := by
          unfold named
          rw [List.take_length]
          simp only [decide_eq_true_eq]
          rw [← HE.out, HX.out]
          exact List.getElem_mem hiZ
        rw [this]
        rfl
      · have hb : (x == (t : Int)) = false := by simpa using he
        have HE := Lib.hid he
        clear he
        go_wp2
        clear hz hb
        go_round
        case rel =>
          refine ⟨i + 1, by omega, by go_num, ?_⟩
          rw [named_next hiZ, ← HX.out, HN.out]
          have : decide ((t : Int) = x) = false := by have := HE.out; simp; omega
          rw [this]; rfl
        case measure => simp [intOf]; omega
    · obtain rfl : i = n := by omega
      go_wp2
      go_ret
      exact ⟨by rw [HL.out, HN.out]; rfl, rfl⟩

theorem refGet_down {w : World} {B g : Nat} {S L : Value} {y : Int} {D : Dev} (d : IsRef w B g S L y D) (z : Int) (ho : D.off = true) :
    Calls Try.prog 15 #[.pointer (some ⟨g, 0, none⟩), .int .i64 z] w fun e w' => e = .returned (.tuple #[.string ⟨#[]⟩, .int .i64 10]) ∧ w = w' := by
  obtain ⟨-, -, -, c3, -⟩ := d.cells
  rw [ho] at c3
  clear d
  go_enter Try.func15, Try.ntmps15
  go_wp2
  go_ret2
  exact ⟨rfl, rfl⟩
theorem refGet_range {w : World} {B g : Nat} {S L : Value} {y : Int} {D : Dev} (d : IsRef w B g S L y D) (z : Int) (ho : D.off = false) (hr : hasB D z = false) :
    Calls Try.prog 15 #[.pointer (some ⟨g, 0, none⟩), .int .i64 z] w fun e w' => e = .returned (.tuple #[.string ⟨#[]⟩, .int .i64 5]) ∧ w = w' := by
  obtain ⟨c0, -, -, c3, -⟩ := d.cells
  obtain ⟨A, cap, rfl, -⟩ := own_slice d.sure
  rw [ho] at c3
  have hs := d.size
  have hz : z < 0 ∨ (D.size : Int) ≤ z := by
    unfold hasB at hr
    have : ¬ (0 ≤ z ∧ z < D.size) := by simpa using hr
    omega
  clear d hr
  by_cases h0 : z < 0
  · clear hz
    go_enter Try.func15, Try.ntmps15
    go_wp2
    go_ret2
    exact ⟨rfl, rfl⟩
  · have h1 : (D.size : Int) ≤ z := by omega
    have d0 : decide (z < 0) = false := by simpa using h0
    clear hz
    go_enter Try.func15, Try.ntmps15
    go_wp2
    go_ret2
    exact ⟨rfl, rfl⟩
theorem refGet_ok {w : World} {B g : Nat} {S L : Value} {y : Int} {D : Dev} (d : IsRef w B g S L y D) {t : Nat} (ho : D.off = false) (ht : t < D.size) :
    Calls Try.prog 15 #[.pointer (some ⟨g, 0, none⟩), .int .i64 (t : Int)] w fun e w' => e = .returned (.tuple #[.string (str (D.view t) 64), .int .i64 0]) ∧ w = w' := by
  obtain ⟨c0, c1, -, c3, -⟩ := d.cells
  obtain ⟨A, cap, rfl, hA1, hA2, hA⟩ := own_slice d.sure
  obtain ⟨kS, rfl, -⟩ := hA (by omega)
  obtain ⟨A', cap', rfl, hB1, hB2, hB⟩ := own_slice d.own
  rw [ho] at c3
  have hs := d.size
  have HD := Lib.hid d
  obtain ⟨m, hm⟩ : ∃ m, m = D.loose.length := ⟨_, rfl⟩
  rw [← hm] at c1 hB1 hB
  have HM := Lib.hid hm
  have d0 : decide ((t : Int) < 0) = false := by simp
  have d1 : ¬ (D.size : Int) ≤ (t : Int) := by omega
  obtain ⟨T, hT⟩ : ∃ T, T = str (D.view t) 64 := ⟨_, rfl⟩
  rw [← hT]
  have HT := Lib.hid hT
  clear d hA hm hT
  go_enter Try.func15, Try.ntmps15
  go_wp2
  go_loop [6] (fun v => ∃ n : Nat, n ≤ m ∧ v = .int .i64 ((n : Int) - 1) ∧ (∀ j (hj : j < D.loose.length), n ≤ j → D.loose[j].at_ ≠ t)) (fun v => (intOf v + 1).toNat)
  case atStart => exact ⟨m, by omega, rfl, fun j hj hn => by have := HM.out; omega⟩
  case round =>
    obtain ⟨n, hn, rfl, hno⟩ := hrel
    have HN := Lib.hid hno
    clear hno
    by_cases h0 : n = 0
    · subst h0
      have hv : D.view t = D.sure t := lays_none fun k hk => HN.out k hk (Nat.zero_le _)
      have ct : w.cell? ⟨kS, t, none⟩ = some (.string T) := by
        rw [HT.out, hv]
        exact own_cell HD.out.sure (rcells_at _ ht)
      clear hv
      go_wp2
      go_ret2
      exact ⟨rfl, rfl⟩
    · obtain ⟨i, rfl⟩ : ∃ i, n = i + 1 := ⟨n - 1, by omega⟩
      obtain ⟨k, rfl, hkw⟩ := hB (by omega)
      have hi : i < D.loose.length := by have := HM.out; omega
      have hd := HD.out.own
      have w0 : w.cell? ⟨k, i * 2, none⟩ = some (.int .i64 (D.loose[i].at_ : Int)) := own_cell hd (by have := rlcells_at D.loose hi (j := 0) (by omega); rw [Nat.add_zero] at this; rw [this]; rfl)
      have w1 : w.cell? ⟨k, i * 2 + 1, none⟩ = some (text64 D.loose[i].data) := own_cell hd (by have := rlcells_at D.loose hi (j := 1) (by omega); rw [this]; rfl)
      have e1 : ((i + 1 : Nat) : Int) - 1 = (i : Int) := by omega
      rw [e1]
      obtain ⟨x, hx⟩ : ∃ x, x = D.loose[i].at_ := ⟨_, rfl⟩
      rw [← hx] at w0
      have HX := Lib.hid hx
      clear e1 hd hx
      by_cases he : x = t
      · have hv : D.view t = D.loose[i].data := lays_last hi (by rw [← HX.out]; exact he) (fun j hj hij => HN.out j hj hij)
        have w2 : w.cell? ⟨k, i * 2 + 1, none⟩ = some (.string T) := by rw [w1, HT.out, hv]; rfl
        have hb : ((x : Int) == (t : Int)) = true := by simp [he]
        have HE := Lib.hid he
        clear he hv w1
        go_wp2
        go_ret2
        exact ⟨rfl, rfl⟩
      · have hb : ((x : Int) == (t : Int)) = false := by simp; omega
        have HE := Lib.hid he
        clear he w1
        go_wp2
        clear w0 hb
        go_round
        case rel => exact ⟨i, by omega, by go_num, fun j hj hij => by
          rcases Nat.eq_or_lt_of_le hij with rfl | h5
          · have := HE.out; have := HX.out; omega
          · exact HN.out j hj h5⟩
        case measure => simp [intOf]
end Go.Proofs.Ytcnoadikkfedaaa
