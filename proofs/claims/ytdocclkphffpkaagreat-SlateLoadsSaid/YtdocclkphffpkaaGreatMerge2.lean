/- Row's answer is a row of the call's own: bytes may be put behind it. slices.Grow of nil: bytes. Places, or none, as values: how they compare. Unrow, and where its numbers lie. -/
import Derived.Test.YtdocclkphffpkaaGreatMerge1
import Derived.Test.YtdocclkphffpkaaGreatAxisFlat
namespace Go.Proofs.YtdocclkphffpkaaGreat
open Go.RowKit

theorem join_own (k : Nat) (A : Option Addr) (n c : Nat) (G : Nat → Nat) (w : World) (h1 : 1 ≤ k) (h4 : k ≤ 4) (hn : n ≤ 9223372036854775807) (hr : n * k ≤ 140737488355328) (hG : ∀ i, i < n → G i < 256 ^ k) (h : IntsAt w A n (fun i => (G i : Int))) :
    Calls Tryz.prog 94 #[.int .i64 (k : Int), .slice A n c] w fun e w' => ∃ v, e = .returned v ∧ Own w' w.heap.size v (n * k) (rowB G k) ∧ Below w.heap.size w w' := by
  have H := Lib.hid h
  have HG := Lib.hid hG
  have HR := Lib.hid hr
  clear h hG hr
  go_enter Tryz.func94, Tryz.ntmps94
  go_wp2
  go_loopw [4, 10] (fun v x wr => ∃ i : Nat, i ≤ n ∧ x = .int .i64 (i : Int) ∧ JoinLoop G k (i * k) w v wr) (fun _ x _ => n - (intOf x).toNat)
  case atStart => exact ⟨0, by omega, rfl, by rw [Nat.zero_mul]; exact own_none _ _ _, Below.refl _ _⟩
  case round =>
    obtain ⟨i, hi, rfl, ho, hb⟩ := hrel
    have HO := Lib.hid ho
    have HB := Lib.hid hb
    clear ho hb
    by_cases hk : i < n
    · obtain ⟨ad, rfl⟩ := H.out.addr (by omega)
      have hc := cell_later HB.out (H.out.at_ hk)
      obtain ⟨z, ez⟩ : ∃ z, z = G i := ⟨_, rfl⟩
      have hz : z < 4294967296 := by
        have h2 := pow_le_four h4
        have h3 := HG.out i hk
        omega
      simp only [← ez] at hc
      have EZ := Lib.hid ez
      clear ez
      have HT : Hid (i * k + k ≤ 140737488355328) := Lib.hid (by
        have h5 : (i + 1) * k ≤ n * k := Nat.mul_le_mul_right k hk
        have h6 := HR.out
        rw [Nat.add_mul, Nat.one_mul] at h5
        omega)
      go_wp2
      clear hc
      go_loopw [4, 15] (fun v x wr => ∃ j : Nat, j ≤ k ∧ x = .int .i64 (j : Int) ∧ JoinLoop G k (i * k + j) w v wr) (fun _ x _ => k - (intOf x).toNat)
      case atStart => exact ⟨0, by omega, rfl, HO.out, HB.out⟩
      case round =>
        clear HO HB
        obtain ⟨j, hj, rfl, ho, hb⟩ := hrel
        have HO := Lib.hid ho
        have HB := Lib.hid hb
        clear ho hb
        by_cases hjk : j < k
        · obtain ⟨y, ey⟩ : ∃ y, y = dig z k j := ⟨_, rfl⟩
          have hs := byte_shr ey
          have hy : y < 256 := by rw [ey]; exact dig_lt _ _ _
          have EY : Hid (y = rowB G k (i * k + j)) := Lib.hid (by rw [ey, EZ.out, rowB_at hjk])
          clear ey
          have hbx : Below w.heap.size w (wr.alloc (.cells #[.int .u8 (y : Int)] 5)) := HB.out.alloc HB.out.size _
          obtain ⟨v2, w2, r2, o2, _, g2⟩ := run_bytes (c := 1) 44 (HO.out.alloc (.cells #[.int .u8 (y : Int)] 5)) (one_new wr hy) (by intro e; cases e) (by have := HT.out; omega) hbx.size
          have hb2 : Below w.heap.size w w2 := (HO.out.alloc (.cells #[.int .u8 (y : Int)] 5)).grown_below hbx (Nat.le_refl _) hbx.size g2
          have o3 : Own w2 w.heap.size v2 (i * k + (j + 1)) (rowB G k) := Own.congr (n := i * k + j + 1) o2 fun t ht => by
            by_cases h5 : t < i * k + j
            · rw [behind_low h5]
            · obtain rfl : t = i * k + j := by omega
              rw [behind_high (Nat.le_refl _), EY.out]
          have R2 := Lib.hid r2
          have O3 := Lib.hid o3
          have B2 := Lib.hid hb2
          clear r2 o2 o3 hb2 g2 hbx
          go_wp2_with (at_builtin; refine Lib.wpList_append_run _ rfl (.tmp 18) (.tmp 27) _ _ rfl _ _ rfl rfl _ _ R2.out ?_)
          clear hs
          go_roundw
          case rel => exact ⟨j + 1, by omega, by go_num, O3.out, B2.out⟩
          case measure => simp [intOf]; omega
        · obtain rfl : j = k := by omega
          go_wp2
          go_roundw
          case rel => exact ⟨i + 1, by omega, by go_num, by rw [Nat.add_mul, Nat.one_mul]; exact HO.out, HB.out⟩
          case measure => simp [intOf]; omega
    · obtain rfl : i = n := by omega
      go_wp2
      go_ret
      exact ⟨_, rfl, HO.out, HB.out⟩

/-- The answer: a row of the call's own, n bytes f, and no error. -/
def Owns (n : Nat) (f : Nat → Nat) (w : World) (e : Ending) (w' : World) : Prop :=
  ∃ v, e = .returned (.tuple #[v, .int .i64 0]) ∧ Own w' w.heap.size v n f ∧ Below w.heap.size w w'

/-- How Row's loop stands. -/
theorem row_own (k : Nat) (A : Option Addr) (n c : Nat) (G : Nat → Nat) (w : World) (h1 : 1 ≤ k) (h4 : k ≤ 4) (hn : n ≤ 9223372036854775807) (hr : n * k ≤ 140737488355328) (hG : ∀ i, i < n → G i < 256 ^ k) (h : IntsAt w A n (fun i => (G i : Int))) :
    Calls Tryz.prog 69 #[.int .i64 (k : Int), .slice A n c] w (Owns (n * k) (rowB G k) w) := by
  have H := Lib.hid h
  have HG := Lib.hid hG
  have HR := Lib.hid hr
  clear h hG hr
  go_enter Tryz.func69, Tryz.ntmps69
  go_wp2_with fail
  with_reducible refine (isSize_yes k _ h1 h4).mono ?_
  rintro e w' ⟨rfl, rfl⟩
  go_wp2
  go_loop [13] (fun x => ∃ i : Nat, i ≤ n ∧ x = .int .i64 (i : Int)) (fun x => n - (intOf x).toNat)
  case atStart => exact ⟨0, by omega, rfl⟩
  case round =>
    obtain ⟨i, hi, rfl⟩ := hrel
    by_cases hk : i < n
    · obtain ⟨ad, rfl⟩ := H.out.addr (by omega)
      have hc := H.out.at_ hk
      obtain ⟨z, ez⟩ : ∃ z, z = G i := ⟨_, rfl⟩
      have hz : decide ((0 : Int) ≤ (z : Int) ∧ (z : Int) < ((256 ^ k : Nat) : Int)) = true := by
        have h3 := HG.out i hk
        rw [decide_eq_true_eq]
        rw [ez]
        omega
      simp only [← ez] at hc
      have EZ := Lib.hid ez
      have HZ := Lib.hid hz
      clear ez hz
      go_wp2_with fail
      with_reducible refine (fits_any (z : Int) k _ h1 h4).mono ?_
      rintro e w' ⟨rfl, rfl⟩
      rw [HZ.out]
      go_wp2
      clear hc
      go_round
      case rel => exact ⟨i + 1, by omega, by go_num⟩
      case measure => simp [intOf]; omega
    · obtain rfl : i = n := by omega
      go_wp2_with fail
      with_reducible refine (join_own k A i c G _ h1 h4 hn HR.out HG.out H.out).mono ?_
      rintro e w' ⟨v, rfl, hv, hb⟩
      have HV := Lib.hid hv
      have HB := Lib.hid hb
      clear hv hb
      go_wp2
      go_ret2
      exact ⟨v, rfl, HV.out, HB.out⟩

end Go.Proofs.YtdocclkphffpkaaGreat

namespace Go.Proofs.YtdocclkphffpkaaGreat
open Go.RowKit

theorem zero_size (k : Nat) : (Builtin.zeroCells (Value.int .u8 0).cells k).size = k := by
  unfold Builtin.zeroCells
  simp [Value.cells]

/-- What append(nil, make([]byte, k)...) leaves, cut to nothing. -/
theorem grow_run (k : Nat) (w : World) (h0 : 0 < k) (hk : k ≤ 140737488355328) :
    ∃ cap w', (Builtin.append_ #[44, 3] 44 #[.slice none 0 0, .int .i64 (k : Int)]).run Tryz.prog w = .ok (.slice (some ⟨w.heap.size, 0, none⟩) k cap) w' ∧ k ≤ cap ∧ cap ≤ 9223372036854775807 ∧
      (∀ f, Own w' w.heap.size (.slice (some ⟨w.heap.size, 0, none⟩) 0 cap) 0 f) ∧ Below w.heap.size w w' := by
  obtain ⟨i0, hi, hz0, hz1, hz2⟩ := info_parts byte_info
  have hr := Lib.run_append_nil_zeros (P := Tryz.prog) w 44 3 44 5 i0 (.int .u8 0) .i64 .i64 Tryz.underlying44 Tryz.underlying3 hi hz0 k h0 (by omega) (by omega) (by rw [hz2]; omega)
  have hge := grownCap_ge w k 0 5
  have hle := grownCap_le_maxLen w k 0 5 (by unfold maxLen; omega)
  refine ⟨_, _, hr, hge, by unfold maxLen at hle; omega, fun f => ⟨rfl, .inr ⟨w.heap.size, _, _, rfl, Nat.le_refl _, heap_alloc_new w.drew _, Nat.zero_le _, hle, ?_, by simp [cellsOf]⟩⟩, (Below.refl _ _).drew.alloc (Nat.le_refl _) _⟩
  rw [Array.size_append, zero_size, zero_size]
  omega

/-- slices.Grow of nil: an empty row with room. -/
theorem grow_any (k : Nat) (K : Int) (hK : K = (k : Int)) (w : World) (h0 : 0 < k) (hk : k ≤ 140737488355328) :
    Calls Tryz.prog 97 #[.slice none 0 0, .int .i64 K] w fun e w' => ∃ v, e = .returned v ∧ (∀ f, Own w' w.heap.size v 0 f) ∧ Below w.heap.size w w' := by
  subst hK
  obtain ⟨cap, w1, r1, h1, h2, h3, h4⟩ := grow_run k w h0 hk
  have R1 := Lib.hid r1
  have H3 := Lib.hid h3
  have H4 := Lib.hid h4
  clear r1 h3 h4
  have d0 : decide ((k : Int) < 0) = false := by simp
  go_enter Tryz.func97, Tryz.ntmps97
  go_wp2_with (at_builtin; refine Lib.wpList_append_run _ rfl (.tmp 20) (.tmp 21) _ _ rfl _ _ rfl rfl _ _ R1.out ?_)
  go_ret
  exact ⟨_, rfl, H3.out, H4.out⟩

end Go.Proofs.YtdocclkphffpkaaGreat

namespace Go.Proofs.YtdocclkphffpkaaGreat
open Go.RowKit

/-- A place by its parts, or none. -/
abbrev Pl := Option (Nat × Nat)
def zre : Pl → Nat
  | none => 13830554455654793216
  | some p => fl p.1
def zim : Pl → Nat
  | none => 0
  | some p => fl p.2
def zval (p : Pl) : Value := .complex .f64 (zre p) (zim p)
/-- A place that may be, or none. -/
def Good (p : Pl) : Prop := ∀ q, p = some q → q.1 < 24 ∧ q.2 < 16
theorem good_none : Good none := fun _ h => by cases h
theorem good_some {a b : Nat} (ha : a < 24) (hb : b < 16) : Good (some (a, b)) := fun _ h => by cases h; exact ⟨ha, hb⟩

theorem order_none_some (a : Nat) (ha : a < 25) : FloatKind.f64.format.order 13830554455654793216 (fl a) = some .lt := by
  have h : ∀ a : Fin 25, FloatKind.f64.format.order 13830554455654793216 (fl a.val) = some .lt := by decide +kernel
  exact h ⟨a, ha⟩
theorem order_some_none (a : Nat) (ha : a < 25) : FloatKind.f64.format.order (fl a) 13830554455654793216 = some .gt := by
  have h : ∀ a : Fin 25, FloatKind.f64.format.order (fl a.val) 13830554455654793216 = some .gt := by decide +kernel
  exact h ⟨a, ha⟩
theorem order_none : FloatKind.f64.format.order 13830554455654793216 13830554455654793216 = some .eq := by decide +kernel
theorem order_zero : FloatKind.f64.format.order 0 0 = some .eq := by decide +kernel

/-- How two of them compare: their first parts, and where these are equal, their second ones. -/
theorem z_order {p q : Pl} (hp : Good p) (hq : Good q) :
    (p = q → FloatKind.f64.format.order (zre p) (zre q) = some .eq ∧ FloatKind.f64.format.order (zim p) (zim q) = some .eq) ∧
      (p ≠ q → (FloatKind.f64.format.order (zre p) (zre q) == some .eq) = false ∨ (FloatKind.f64.format.order (zre p) (zre q) = some .eq ∧ (FloatKind.f64.format.order (zim p) (zim q) == some .eq) = false)) := by
  cases p with
  | none =>
    cases q with
    | none => exact ⟨fun _ => ⟨order_none, order_zero⟩, fun h => absurd rfl h⟩
    | some q => exact ⟨(fun h => by cases h), fun _ => .inl (by show (FloatKind.f64.format.order 13830554455654793216 (fl q.1) == some .eq) = false; rw [order_none_some _ (by have := (hq q rfl).1; omega)]; rfl)⟩
  | some p =>
    have hp1 := hp p rfl
    cases q with
    | none => exact ⟨(fun h => by cases h), fun _ => .inl (by show (FloatKind.f64.format.order (fl p.1) 13830554455654793216 == some .eq) = false; rw [order_some_none _ (by omega)]; rfl)⟩
    | some q =>
      have hq1 := hq q rfl
      have e1 := fl_order p.1 q.1 (by omega) (by omega)
      have e2 := fl_order p.2 q.2 (by omega) (by omega)
      refine ⟨fun h => ?_, fun h => ?_⟩
      · obtain rfl := Option.some.inj h
        exact ⟨fl_eq _ (by omega), fl_eq _ (by omega)⟩
      · show (FloatKind.f64.format.order (fl p.1) (fl q.1) == some .eq) = false ∨ (FloatKind.f64.format.order (fl p.1) (fl q.1) = some .eq ∧ (FloatKind.f64.format.order (fl p.2) (fl q.2) == some .eq) = false)
        by_cases h1 : p.1 = q.1
        · have h2 : p.2 ≠ q.2 := fun e => h (by rw [Prod.ext h1 e])
          refine .inr ⟨by rw [e1, Nat.compare_eq_eq.2 h1], ?_⟩
          rw [e2]
          have : compare p.2 q.2 ≠ .eq := fun e => h2 (Nat.compare_eq_eq.1 e)
          cases hc : compare p.2 q.2 <;> first | rfl | exact absurd hc this
        · refine .inl ?_
          rw [e1]
          have : compare p.1 q.1 ≠ .eq := fun e => h1 (Nat.compare_eq_eq.1 e)
          cases hc : compare p.1 q.1 <;> first | rfl | exact absurd hc this
end Go.Proofs.YtdocclkphffpkaaGreat

namespace Go.Proofs.YtdocclkphffpkaaGreat
open Go.RowKit

theorem unrow_lies (A : Option Addr) (n q c k : Nat) (f : Nat → Nat) (w : World) (hn : n = q * k) (hc : n ≤ c) (hm : c ≤ 9223372036854775807) (hq : 8 * q ≤ 281474976710656) (h1 : 1 ≤ k) (h4 : k ≤ 4) (h : BytesAt w A n f) :
    Calls Tryz.prog 100 #[.slice A n c, .int .i64 (k : Int)] w fun e w' => e = .returned (.tuple #[.slice (some ⟨w.heap.size, 0, none⟩) q q, .int .i64 0]) ∧ IntsLie w' w.heap.size (fun i => (rowN f k i : Int)) q ∧ Below w.heap.size w w' := by
  have H := Lib.hid h
  have hmk := make_ints q hq
  have e1 : (n : Int) % (k : Int) = 0 := by rw [hn, Int.natCast_mul]; exact Int.mul_emod_left _ _
  have e2 : (n : Int) / (k : Int) = (q : Int) := by rw [hn, Int.natCast_mul]; exact Int.mul_ediv_cancel _ (by omega)
  have hk0 : ¬ (k : Int) = 0 := by omega
  have HN := Lib.hid hn
  clear h hn
  go_enter Tryz.func100, Tryz.ntmps100
  go_wp2_with fail
  with_reducible refine (isSize_yes k _ h1 h4).mono ?_
  rintro e w' ⟨rfl, rfl⟩
  go_wp2
  clear hmk e1 e2
  go_loopw [23] (fun x wr => UnrowLoop f k q w x wr) (fun x _ => q - (intOf x).toNat)
  case atStart => exact ⟨0, by omega, rfl, (made_ints _ q).congr (fun i _ => by unfold upTo; rw [if_neg (by omega)]), (Below.refl _ _).alloc (Nat.le_refl _) _⟩
  case round =>
    obtain ⟨i, hi, rfl, hl, hb⟩ := hrel
    have HL := Lib.hid hl
    have HB := Lib.hid hb
    clear hl hb
    by_cases hk : i < q
    · obtain ⟨p, hp⟩ : ∃ p, p = i * k := ⟨_, rfl⟩
      have hpn : p + k ≤ n := by
        have h5 : (i + 1) * k ≤ q * k := Nat.mul_le_mul_right k hk
        rw [HN.out, hp]
        rw [Nat.add_mul, Nat.one_mul] at h5
        exact h5
      have p1 : (i : Int) * (k : Int) = (p : Int) := by rw [hp, Int.natCast_mul]
      have p2 : ((i : Int) + 1) * (k : Int) = ((p + k : Nat) : Int) := by rw [Int.add_mul, p1]; omega
      obtain ⟨ad, rfl⟩ := H.out.addr (by omega)
      have HS := Lib.hid ((H.out.below HB.out).from_ hpn)
      have d2 : ¬ c = p := by omega
      have c0 := HL.out.cell (i := i) hk
      have c1 := HL.out.free i
      have HP := Lib.hid hp
      clear hp
      go_wp2_with fail
      with_reducible refine (number_any (some (ad.add p)) k (c - p) (fun j => f (p + j)) _ h4 HS.out).mono ?_
      rintro e w' ⟨rfl, rfl⟩
      obtain ⟨y, ey⟩ : ∃ y, y = val (fun j => f (p + j)) k := ⟨_, rfl⟩
      rw [← ey]
      have EY : Hid ((y : Int) = upTo f k (i + 1) i) := Lib.hid (by unfold upTo rowN; rw [if_pos (by omega), ey, HP.out])
      clear ey
      go_wp2
      clear p1 p2 c0 c1
      go_roundw
      case rel => exact ⟨i + 1, by omega, by go_num, HL.out.set_ hk EY.out (fun j hj => by
        unfold upTo
        by_cases h5 : j < i
        · rw [if_pos h5, if_pos (by omega)]
        · rw [if_neg h5, if_neg (by omega)]), HB.out.setCell (Nat.le_refl _) _⟩
      case measure => simp [intOf]; omega
    · obtain rfl : i = q := by omega
      go_wp2
      go_ret2
      exact ⟨rfl, HL.out.congr (g := fun i => (rowN f k i : Int)) (fun j hj => by unfold upTo; rw [if_pos hj]), HB.out⟩

/-- How many numbers two bytes each there are in n bytes; none if a byte is left. -/
def halves (n : Nat) : Nat := if n % 2 = 0 then n / 2 else 0
theorem unrow_two (A : Option Addr) (n c : Nat) (f : Nat → Nat) (w : World) (hc : n ≤ c) (hm : c ≤ 9223372036854775807) (hn : n ≤ 1000000) (h : BytesAt w A n f) :
    Calls Tryz.prog 100 #[.slice A n c, .int .i64 2] w fun e w' => ∃ B d x, e = .returned (.tuple #[.slice B (halves n) d, .int .i64 x]) ∧ ((halves n = 0) ∨ (B = some ⟨w.heap.size, 0, none⟩ ∧ IntsLie w' w.heap.size (fun i => (rowN f 2 i : Int)) (halves n))) ∧ Below w.heap.size w w' := by
  unfold halves
  by_cases h2 : n % 2 = 0
  · rw [if_pos h2]
    exact Calls.mono (unrow_lies A n (n / 2) c 2 f w (by omega) hc hm (by omega) (by omega) (by omega) h) fun e w' ⟨he, hr, hb⟩ => ⟨_, _, 0, he, .inr ⟨rfl, hr⟩, hb⟩
  · rw [if_neg h2]
    exact Calls.mono (unrow_len A n c 2 w (by omega) (by omega) (by omega) h2) fun e w' ⟨he, hw⟩ => by
      subst hw
      exact ⟨_, _, 6, he, .inl rfl, Below.refl _ _⟩
end Go.Proofs.YtdocclkphffpkaaGreat

