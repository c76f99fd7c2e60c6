/- What Count answers of any bytes: the package's own, and the document's. What the document's Count answers of any bytes. -/
import Derived.Test.YtdocclkphffpkaaGreatMerge4
import Derived.Test.YtdocclkphffpkaaGreatMerge1
import Derived.Lib.SlBytesConst
namespace Go.Proofs.YtdocclkphffpkaaGreat
open Go.RowKit

/-- Bytes that are a sealed sector. -/
def Sealed (n : Nat) (f : Nat → Nat) : Prop := n = 64 ∧ ∀ i, i < 4 → f (60 + i) = sumB (crc f 60) i
/-- Bytes that begin with SLAT. -/
def Slat (f : Nat → Nat) : Prop := f 0 = 83 ∧ f 1 = 76 ∧ f 2 = 65 ∧ f 3 = 84
def seqIn (f : Nat → Nat) : Nat := val (fun j => f (4 + j)) 4
/-- Bytes that are a header, as far as Count asks. -/
def Header (n : Nat) (f : Nat → Nat) : Prop := Sealed n f ∧ Slat f ∧ (1 ≤ seqIn f ∧ seqIn f ≤ 1073741824) ∧ f 10 ≤ 11

/-- Open: what it answers, in one. -/
def openCode (n : Nat) (f : Nat → Nat) : Prop := Sealed n f
theorem open_any (v : Value) (n : Nat) (f : Nat → Nat) (w : World) (hv : Reads w v n f) :
    Calls Tryz.prog 54 #[v] w fun e w' =>
      (Sealed n f ∧ Gives 60 f w e w') ∨ (¬ Sealed n f ∧ ∃ x : Int, x ≠ 0 ∧ e = .returned (.tuple #[.slice none 0 0, .int .i64 x]) ∧ Below w.heap.size w w') := by
  obtain ⟨A, c, rfl, p1, p2, p3, p4⟩ := hv
  by_cases h64 : n = 64
  · subst h64
    obtain ⟨ad, rfl⟩ := p4.addr (by omega)
    by_cases hs : ∀ i, i < 4 → f (60 + i) = sumB (crc f 60) i
    · exact (open_ok ad c f w p1 p2 p4 hs).mono fun e w' h => .inl ⟨⟨rfl, hs⟩, h⟩
    · obtain ⟨j, hj, he, hne⟩ := first_bad f _ hs
      refine (open_bad ad c f w p1 p2 p4 j hj he hne).mono fun e w' h => .inr ⟨fun k => hs k.2, 2, by omega, ?_⟩
      obtain ⟨q, he, hw⟩ := h
      exact ⟨he, by rw [← hw]; exact below_drewN (Below.refl _ _) _⟩
  · refine (open_len A n c w h64).mono fun e w' h => .inr ⟨fun k => h64 k.1, 6, by omega, ?_⟩
    obtain ⟨he, hw⟩ := h
    exact ⟨he, by rw [← hw]; exact Below.refl _ _⟩
theorem refOpen_any (v : Value) (n : Nat) (f : Nat → Nat) (w : World) (hv : Reads w v n f) :
    Calls Tryz.prog 16 #[v] w fun e w' =>
      (Sealed n f ∧ Gives 60 f w e w') ∨ (¬ Sealed n f ∧ ∃ x : Int, x ≠ 0 ∧ e = .returned (.tuple #[.slice none 0 0, .int .i64 x]) ∧ Below w.heap.size w w') := by
  obtain ⟨A, c, rfl, p1, p2, p3, p4⟩ := hv
  by_cases h64 : n = 64
  · subst h64
    obtain ⟨ad, rfl⟩ := p4.addr (by omega)
    by_cases hs : ∀ i, i < 4 → f (60 + i) = sumB (crc f 60) i
    · exact (refOpen_ok ad c f w p1 p2 p4 hs).mono fun e w' h => .inl ⟨⟨rfl, hs⟩, h⟩
    · exact (refOpen_bad ad c f w p1 p2 p4 hs).mono fun e w' h => .inr ⟨fun k => hs k.2, 2, by omega, h⟩
  · refine (refOpen_len A n c w h64).mono fun e w' h => .inr ⟨fun k => h64 k.1, 6, by omega, ?_⟩
    obtain ⟨he, hw⟩ := h
    exact ⟨he, by rw [← hw]; exact Below.refl _ _⟩

/-- Two byte rows: the same? -/
theorem equal_any (v u : Value) (n m : Nat) (f g : Nat → Nat) (w : World) (hv : Reads w v n f) (hu : Reads w u m g) :
    Calls Tryz.prog 59 #[v, u] w fun e w' => ∃ b, e = .returned (.bool b) ∧ (b = true ↔ n = m ∧ ∀ i, i < n → f i = g i) ∧ w = w' := by
  have c1 := hv.conv
  have c2 := hu.conv
  have hlen : ∀ (h : Nat → Nat) (k : Nat), (str h k).toList.length = k := fun h k => by rw [str_list]; simp
  have hb : (((str f n).toList == (str g m).toList) = true ↔ n = m ∧ ∀ i, i < n → f i = g i) := by
    constructor
    · intro h
      have he : (str f n).toList = (str g m).toList := by simpa using h
      have hl : n = m := by rw [← hlen f n, ← hlen g m, he]
      subst hl
      obtain ⟨_, _, rfl, _, _, _, p⟩ := hv
      obtain ⟨_, _, rfl, _, _, _, q⟩ := hu
      exact ⟨rfl, str_inj p.small q.small h⟩
    · rintro ⟨rfl, h⟩
      exact str_same h
  obtain ⟨X, eX⟩ : ∃ X, X = str f n := ⟨_, rfl⟩
  obtain ⟨Y, eY⟩ : ∃ Y, Y = str g m := ⟨_, rfl⟩
  rw [← eX] at c1 hb
  rw [← eY] at c2 hb
  obtain ⟨b, eb⟩ : ∃ b, b = (X.toList == Y.toList) := ⟨_, rfl⟩
  rw [← eb] at hb
  have ebr := eb.symm
  have HB := Lib.hid hb
  obtain ⟨A, c, rfl, _, _, _, _⟩ := hv
  obtain ⟨B, d, rfl, _, _, _, _⟩ := hu
  clear eX eY hb eb hlen
  go_enter Tryz.func59, Tryz.ntmps59
  go_wp2
  go_ret
  exact ⟨_, rfl, HB.out, rfl⟩

theorem Reads.first {w : World} {A : Option Addr} {n c m : Nat} {f : Nat → Nat} (h : Reads w (.slice A n c) n f) (hm : m ≤ n) : Reads w (.slice A m c) m f := by
  obtain ⟨A', c', e, h1, h2, h3, hs⟩ := h
  cases e
  exact ⟨A, c, rfl, by omega, h2, h3, hs.first hm⟩

theorem prefix_any (v u : Value) (n m : Nat) (f g : Nat → Nat) (w : World) (hv : Reads w v n f) (hu : Reads w u m g) :
    Calls Tryz.prog 55 #[v, u] w fun e w' => ∃ b, e = .returned (.bool b) ∧ (b = true ↔ m ≤ n ∧ ∀ i, i < m → f i = g i) ∧ w = w' := by
  have V := Lib.hid hv
  have U := Lib.hid hu
  obtain ⟨A, c, rfl, h1, h2, h3, _⟩ := hv
  obtain ⟨B, d, rfl, k1, k2, k3, _⟩ := hu
  by_cases hm : m ≤ n
  · have HM := Lib.hid hm
    go_enter Tryz.func55, Tryz.ntmps55
    go_wp2_with fail
    with_reducible refine (equal_any _ _ m m f g _ (V.out.first hm) U.out).mono ?_
    rintro e w' ⟨b, rfl, hb, rfl⟩
    have HB := Lib.hid hb
    clear hb
    go_wp2
    go_ret
    exact ⟨_, rfl, by rw [HB.out]; exact ⟨fun h => ⟨HM.out, h.2⟩, fun h => ⟨by simp, h.2⟩⟩, rfl⟩
  · have hd : decide ((m : Int) ≤ (n : Int)) = false := by simp; omega
    go_enter Tryz.func55, Tryz.ntmps55
    go_wp2
    go_ret
    exact ⟨_, rfl, ⟨fun h => (by cases h), fun h => absurd h.1 hm⟩, rfl⟩

theorem isSeq_yes (k : Nat) (w : World) (h : 1 ≤ k ∧ k ≤ 1073741824) :
    Calls Tryz.prog 44 #[.int .i64 (k : Int)] w fun e w' => e = .returned (.bool true) ∧ w = w' := by
  have d : decide ((k : Int) ≤ 1073741824) = true := by simp; omega
  have d1 : (1 : Int) ≤ (k : Int) := by omega
  clear h
  go_enter Tryz.func44, Tryz.ntmps44
  go_wp2
  go_ret
  exact ⟨rfl, rfl⟩
theorem isSeq_no (s : Int) (w : World) (h : ¬ (1 ≤ s ∧ s ≤ 1073741824)) :
    Calls Tryz.prog 44 #[.int .i64 s] w fun e w' => e = .returned (.bool false) ∧ w = w' := by
  by_cases h1 : 1 ≤ s
  · have d : decide (s ≤ 1073741824) = false := by simp; omega
    clear h
    go_enter Tryz.func44, Tryz.ntmps44
    go_wp2
    go_ret
    exact ⟨rfl, rfl⟩
  · clear h
    go_enter Tryz.func44, Tryz.ntmps44
    go_wp2
    go_ret
    exact ⟨rfl, rfl⟩

/-- The four bytes of SLAT. -/
def magic (i : Nat) : Nat := if i = 0 then 83 else if i = 1 then 76 else if i = 2 then 65 else 84
theorem magic_new (w : World) : Reads (w.alloc (.cells #[.int .u8 83, .int .u8 76, .int .u8 65, .int .u8 84] 5 (4, 5))) (.slice (some ⟨w.heap.size, 0, none⟩) 4 4) 4 magic :=
  ⟨_, 4, rfl, Nat.le_refl _, by omega, (by intro e; cases e), fun i hi => by
    rcases (by omega : i = 0 ∨ i = 1 ∨ i = 2 ∨ i = 3) with rfl | rfl | rfl | rfl <;> decide, fun i hi => ⟨_, rfl, by
    rcases (by omega : i = 0 ∨ i = 1 ∨ i = 2 ∨ i = 3) with rfl | rfl | rfl | rfl <;> (rw [add_nil, World.cell?_alloc_mark]; rfl)⟩⟩
theorem slat_iff (f : Nat → Nat) : (4 ≤ 60 ∧ ∀ i, i < 4 → f i = magic i) ↔ Slat f := by
  constructor
  · intro h
    exact ⟨h.2 0 (by omega), h.2 1 (by omega), h.2 2 (by omega), h.2 3 (by omega)⟩
  · rintro ⟨h0, h1, h2, h3⟩
    refine ⟨by omega, fun i hi => ?_⟩
    rcases (by omega : i = 0 ∨ i = 1 ∨ i = 2 ∨ i = 3) with rfl | rfl | rfl | rfl <;> assumption

theorem Gives.reads {n : Nat} {f : Nat → Nat} {w w' : World} {e : Ending} (h : Gives n f w e w') (hf : ∀ i, i < n → f i < 256) :
    ∃ v, e = .returned (.tuple #[v, .int .i64 0]) ∧ Reads w' v n f ∧ Below w.heap.size w w' := by
  obtain ⟨v, he, hr, hb⟩ := h
  obtain ⟨g, cap, rfl, _, _, h1, h2, hs⟩ := hr.bytes (Nat.le_refl _) hf
  exact ⟨_, he, ⟨_, _, rfl, h1, h2, (by intro e; cases e), hs⟩, hb⟩

/-- What Count answers. -/
def Counted (n : Nat) (f : Nat → Nat) (w : World) (e : Ending) (w' : World) : Prop :=
  ((Header n f ∧ e = .returned (.tuple #[.int .i64 (f 10 : Int), .int .i64 (seqIn f : Int), .int .i64 0])) ∨
    (¬ Header n f ∧ e = .returned (.tuple #[.int .i64 0, .int .i64 0, .int .i64 11]))) ∧ Below w.heap.size w w'

set_option maxRecDepth 20000 in
theorem count_any (v : Value) (n : Nat) (f : Nat → Nat) (w : World) (hv : Reads w v n f) :
    Calls Tryz.prog 33 #[v] w (Counted n f w) := by
  have hsm : n = 64 → ∀ i, i < 60 → f i < 256 := by
    intro h i hi
    obtain ⟨_, _, _, _, _, _, p⟩ := hv
    exact p.small i (by omega)
  have SM := Lib.hid hsm
  have V := Lib.hid hv
  clear hsm hv
  go_enter Tryz.func33, Tryz.ntmps33
  go_wp2_with fail
  with_reducible refine (open_any v n f _ V.out).mono ?_
  rintro e w1 (⟨hs, hg⟩ | ⟨hs, x, hx, rfl, hb⟩)
  · have S := Lib.hid hs
    obtain ⟨v1, rfl, hr, hb⟩ := hg.reads (SM.out hs.1)
    have hf10 := SM.out hs.1 10 (by omega)
    have hsq : seqIn f < 4294967296 := val_lt (k := 4) fun i hi => SM.out S.out.1 (4 + i) (by omega)
    have R := Lib.hid hr
    have B := Lib.hid hb
    have hb2 : Below w.heap.size w (w1.alloc (.cells #[.int .u8 83, .int .u8 76, .int .u8 65, .int .u8 84] 5 (4, 5))) := B.out.alloc B.out.size _
    have B2 := Lib.hid hb2
    have R2 := Lib.hid (R.out.below ((Below.refl _ w1).alloc (Nat.le_refl _) (.cells #[.int .u8 83, .int .u8 76, .int .u8 65, .int .u8 84] 5 (4, 5))))
    obtain ⟨w2, hw2⟩ : ∃ w2, w2 = w1.alloc (.cells #[.int .u8 83, .int .u8 76, .int .u8 65, .int .u8 84] 5 (4, 5)) := ⟨_, rfl⟩
    have M := Lib.hid (magic_new w1)
    rw [← hw2] at B2 R2 M
    obtain ⟨A1, c1, rfl, q1, q2, q3, q4⟩ := R2.out
    obtain ⟨ad, rfl⟩ := q4.addr (by omega)
    have h10 : w2.cell? ⟨ad.block, ad.off + 10, none⟩ = some (.int .u8 (f 10 : Int)) := q4.at_ (i := 10) (by omega)
    have G1 := Lib.hid (get_ok (some ad) 60 c1 f 4 4 w2 q1 q2 (by omega) (by omega) (by omega) q4)
    have R3 : Hid (Reads w2 (.slice (some ad) 60 c1) 60 f) := R2
    have ns : ¬ Slat f → ¬ Header n f := fun h k => h k.2.1
    have NS := Lib.hid ns
    have kc := Lib.run_convert_bytes_const (P := Tryz.prog) w1 44 5 #[.int .u8 83, .int .u8 76, .int .u8 65, .int .u8 84] 4 4 Tryz.underlying44 Tryz.underlying5
    clear hs hg hr hb hb2 ns R2 R
    go_wp2_with fail
    rw [← hw2]
    with_reducible refine (prefix_any _ _ 60 4 f magic w2 R3.out M.out).mono ?_
    rintro e w' ⟨b, rfl, hbb, rfl⟩
    rw [slat_iff] at hbb
    cases b with
    | false =>
      have N := Lib.hid (NS.out fun h => by have := hbb.2 h; cases this)
      clear hbb hw2
      go_wp2
      go_ret3
      exact ⟨.inr ⟨N.out, rfl⟩, B2.out⟩
    | true =>
      have L := Lib.hid (hbb.1 rfl)
      clear hbb hw2
      have GS : ((seqIn f : Nat) : Int) = ((val (fun j => f (4 + j)) 4 : Nat) : Int) := rfl
      obtain ⟨q, eq⟩ : ∃ q, q = seqIn f := ⟨_, rfl⟩
      have G2 : Calls Tryz.prog 56 #[.slice (some ad) 60 c1, .int .i64 4, .int .i64 4] w2 fun e w' => e = .returned (.tuple #[.int .i64 (q : Int), .int .i64 0]) ∧ w2 = w' := by rw [eq]; exact G1.out
      have EQ := Lib.hid eq
      have G3 := Lib.hid G2
      clear GS eq G2 G1
      obtain ⟨m, em⟩ : ∃ m, m = f 10 := ⟨_, rfl⟩
      rw [← em] at h10 hf10
      have EM := Lib.hid em
      clear em
      go_wp2_with fail
      with_reducible refine (G3.out).mono ?_
      rintro e w' ⟨rfl, rfl⟩
      by_cases hq : 1 ≤ q ∧ q ≤ 1073741824
      · go_wp2_with fail
        with_reducible refine (isSeq_yes q _ hq).mono ?_
        rintro e w' ⟨rfl, rfl⟩
        by_cases h11 : m ≤ 11
        · have d11 : decide ((12 : Int) ≤ (m : Int)) = false := by simp; omega
          have HH : Hid (Header n f) := Lib.hid ⟨S.out, L.out, by rw [← EQ.out]; exact hq, by rw [← EM.out]; exact h11⟩
          clear hq h11
          go_wp2
          go_ret3
          exact ⟨.inl ⟨HH.out, by rw [← EQ.out, ← EM.out]; rfl⟩, B2.out⟩
        · have d11 : decide ((12 : Int) ≤ (m : Int)) = true := by simp; omega
          have HH : Hid (¬ Header n f) := Lib.hid fun k => h11 (by rw [EM.out]; exact k.2.2.2)
          clear hq h11
          go_wp2
          go_ret3
          exact ⟨.inr ⟨HH.out, rfl⟩, B2.out⟩
      · have HH : Hid (¬ Header n f) := Lib.hid fun k => hq (by rw [EQ.out]; exact k.2.2.1)
        go_wp2_with fail
        with_reducible refine (isSeq_no q _ (by omega)).mono ?_
        rintro e w' ⟨rfl, rfl⟩
        clear hq
        go_wp2
        go_ret3
        exact ⟨.inr ⟨HH.out, rfl⟩, B2.out⟩
  · have hx2 : (x == 0) = false := by simpa using hx
    have hx3 : (x != 0) = true := by simp [hx]
    have HH : Hid (¬ Header n f) := Lib.hid fun k => hs k.1
    have B := Lib.hid hb
    clear hs hx hb
    go_wp2
    go_ret3
    exact ⟨.inr ⟨HH.out, rfl⟩, B.out⟩

/-- The document's number of bytes. -/
theorem number_ok (A : Option Addr) (n c : Nat) (f : Nat → Nat) (t k : Nat) (w : World) (hc : n ≤ c) (hm : c ≤ 9223372036854775807) (h1 : 1 ≤ k) (h4 : k ≤ 4) (ht : t + k ≤ n) (h : BytesAt w A n f) :
    Calls Tryz.prog 17 #[.slice A n c, .int .i64 (t : Int), .int .i64 (k : Int)] w fun e w' => e = .returned (.int .i64 (val (fun j => f (t + j)) k : Int)) ∧ w = w' := by
  have G := Lib.hid (refGet_ok A n c f t k w hc hm h1 h4 ht h)
  obtain ⟨q, eq⟩ : ∃ q, q = val (fun j => f (t + j)) k := ⟨_, rfl⟩
  rw [← eq] at G ⊢
  clear h eq
  go_enter Tryz.func17, Tryz.ntmps17
  go_wp2_with fail
  with_reducible refine G.out.mono ?_
  rintro e w' ⟨rfl, rfl⟩
  go_wp2
  go_ret
  exact ⟨rfl, rfl⟩
end Go.Proofs.YtdocclkphffpkaaGreat

namespace Go.Proofs.YtdocclkphffpkaaGreat
open Go.RowKit

set_option maxRecDepth 20000 in
theorem refCount_any (v : Value) (n : Nat) (f : Nat → Nat) (w : World) (hv : Reads w v n f) :
    Calls Tryz.prog 20 #[v] w (Counted n f w) := by
  have hsm : n = 64 → ∀ i, i < 60 → f i < 256 := by
    intro h i hi
    obtain ⟨_, _, _, _, _, _, p⟩ := hv
    exact p.small i (by omega)
  have SM := Lib.hid hsm
  have V := Lib.hid hv
  clear hsm hv
  go_enter Tryz.func20, Tryz.ntmps20
  go_wp2_with fail
  with_reducible refine (refOpen_any v n f _ V.out).mono ?_
  rintro e w1 (⟨hs, hg⟩ | ⟨hs, x, hx, rfl, hb⟩)
  · have S := Lib.hid hs
    obtain ⟨v1, rfl, hr, hb⟩ := hg.reads (SM.out hs.1)
    have B2 := Lib.hid hb
    obtain ⟨A1, c1, rfl, q1, q2, q3, q4⟩ := hr
    obtain ⟨ad, rfl⟩ := q4.addr (by omega)
    have G1 := Lib.hid (number_ok (some ad) 60 c1 f 4 4 w1 q1 q2 (by omega) (by omega) (by omega) q4)
    have G2 := Lib.hid (number_ok (some ad) 60 c1 f 10 1 w1 q1 q2 (by omega) (by omega) (by omega) q4)
    have C1 := conv_str c1 (q4.first (m := 4) (by omega))
    have e2 : val (fun j => f (10 + j)) 1 = f 10 := by simp [val]
    rw [e2] at G2
    have hsl : (((str f 4).toList == (str magic 4).toList) = true) ↔ Slat f := by
      rw [← slat_iff]
      constructor
      · intro h
        exact ⟨by omega, fun i hi => str_inj (fun i hi => q4.small i (by omega)) (fun i hi => by rcases (by omega : i = 0 ∨ i = 1 ∨ i = 2 ∨ i = 3) with rfl | rfl | rfl | rfl <;> decide) h i hi⟩
      · intro h
        exact str_same fun i hi => h.2 i hi
    have em : str magic 4 = ⟨#[83, 76, 65, 84]⟩ := by decide +kernel
    have e4 : (⟨#[83, 76, 65, 84]⟩ : ByteArray).toList = [83, 76, 65, 84] := by rw [ByteArray.toList_eq]
    rw [em, e4] at hsl
    clear em e4
    obtain ⟨X, eX⟩ : ∃ X, X = str f 4 := ⟨_, rfl⟩
    rw [← eX] at C1 hsl
    have SL := Lib.hid hsl
    obtain ⟨q, eq⟩ : ∃ q, q = seqIn f := ⟨_, rfl⟩
    obtain ⟨m, em⟩ : ∃ m, m = f 10 := ⟨_, rfl⟩
    have G3 : Hid (Calls Tryz.prog 17 #[.slice (some ad) 60 c1, .int .i64 4, .int .i64 4] w1 fun e w' => e = .returned (.int .i64 (q : Int)) ∧ w1 = w') := Lib.hid (by rw [eq]; exact G1.out)
    have G4 : Hid (Calls Tryz.prog 17 #[.slice (some ad) 60 c1, .int .i64 10, .int .i64 1] w1 fun e w' => e = .returned (.int .i64 (m : Int)) ∧ w1 = w') := Lib.hid (by rw [em]; exact G2.out)
    have EQ := Lib.hid eq
    have EM := Lib.hid em
    clear hs hg hb hsl e2 eX eq em G1 G2
    by_cases hS : Slat f
    · have hX : (X.toList == [83, 76, 65, 84]) = true := SL.out.2 hS
      have L := Lib.hid hS
      clear hS SL
      go_wp2_with fail
      with_reducible refine (G3.out).mono ?_
      rintro e w' ⟨rfl, rfl⟩
      by_cases h1 : 1 ≤ q
      · have d1 : decide ((q : Int) < 1) = false := by simp; omega
        by_cases h2 : q ≤ 1073741824
        · have d2 : decide ((1073741824 : Int) < (q : Int)) = false := by simp; omega
          have Q := Lib.hid (And.intro h1 h2)
          clear h1 h2
          go_wp2_with fail
          with_reducible refine (G3.out).mono ?_
          rintro e w' ⟨rfl, rfl⟩
          go_wp2_with fail
          with_reducible refine (G4.out).mono ?_
          rintro e w' ⟨rfl, rfl⟩
          by_cases h11 : m ≤ 11
          · have d11 : decide ((11 : Int) < (m : Int)) = false := by simp; omega
            have HH : Hid (Header n f) := Lib.hid ⟨S.out, L.out, by rw [← EQ.out]; exact Q.out, by rw [← EM.out]; exact h11⟩
            clear h11
            go_wp2_with fail
            with_reducible refine (G4.out).mono ?_
            rintro e w' ⟨rfl, rfl⟩
            go_wp2_with fail
            with_reducible refine (G3.out).mono ?_
            rintro e w' ⟨rfl, rfl⟩
            go_wp2
            go_ret3
            exact ⟨.inl ⟨HH.out, by rw [← EQ.out, ← EM.out]; rfl⟩, B2.out⟩
          · have d11 : decide ((11 : Int) < (m : Int)) = true := by simp; omega
            have HH : Hid (¬ Header n f) := Lib.hid fun k => h11 (by rw [EM.out]; exact k.2.2.2)
            clear h11
            go_wp2
            go_ret3
            exact ⟨.inr ⟨HH.out, rfl⟩, B2.out⟩
        · have d2 : decide ((1073741824 : Int) < (q : Int)) = true := by simp; omega
          have HH : Hid (¬ Header n f) := Lib.hid fun k => h2 (by rw [EQ.out]; exact k.2.2.1.2)
          clear h1 h2
          go_wp2_with fail
          with_reducible refine (G3.out).mono ?_
          rintro e w' ⟨rfl, rfl⟩
          go_wp2
          go_ret3
          exact ⟨.inr ⟨HH.out, rfl⟩, B2.out⟩
      · have d1 : decide ((q : Int) < 1) = true := by simp; omega
        have HH : Hid (¬ Header n f) := Lib.hid fun k => h1 (by rw [EQ.out]; exact k.2.2.1.1)
        clear h1
        go_wp2
        go_ret3
        exact ⟨.inr ⟨HH.out, rfl⟩, B2.out⟩
    · have hX : (X.toList == [83, 76, 65, 84]) = false := by
        cases e : (X.toList == [83, 76, 65, 84]) with
        | true => exact absurd (SL.out.1 e) hS
        | false => rfl
      have HH : Hid (¬ Header n f) := Lib.hid fun k => hS k.2.1
      clear hS SL
      go_wp2
      go_ret3
      exact ⟨.inr ⟨HH.out, rfl⟩, B2.out⟩
  · have hx2 : (x == 0) = false := by simpa using hx
    have hx3 : (x != 0) = true := by simp [hx]
    have HH : Hid (¬ Header n f) := Lib.hid fun k => hs k.1
    have B := Lib.hid hb
    clear hs hx hb
    go_wp2
    go_ret3
    exact ⟨.inr ⟨HH.out, rfl⟩, B.out⟩

end Go.Proofs.YtdocclkphffpkaaGreat

