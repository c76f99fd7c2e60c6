
/- The device's small functions. -/
import Derived.Test.YtmgeifolgdgapaaMerge4
import Derived.StillTailTactics
import Derived.RegionTactic
namespace Go.Proofs.Ytmgeifolgdgapaa
open Go.RowKit

/-- Is there such a sector? -/
def hasB (D : Dev) (z : Int) : Bool := decide (0 ≤ z ∧ z < D.size)

set_option maxRecDepth 100000 in
theorem has_any {w : World} {base g h : Nat} {L : Value} {D : Dev} (d : IsDev w base g h L D) (z : Int) :
    Calls Try.prog 18 #[.pointer (some ⟨g, 0, none⟩), .int .i64 z] w fun e w' => e = .returned (.bool (hasB D z)) ∧ w = w' := by
  obtain ⟨c0, c1, c2, c3, c4, cf⟩ := d.cells
  clear c1 c2 c3 c4 cf
  have hs := d.size
  by_cases h0 : 0 ≤ z
  · obtain ⟨n, rfl⟩ := Int.eq_ofNat_of_zero_le h0
    by_cases h1 : n < D.size
    · have e : hasB D n = true := by unfold hasB; simp; omega
      rw [e]
      clear e
      go_enter Try.func18, Try.ntmps18
      go_wp2
      go_ret
      exact ⟨rfl, rfl⟩
    · have e : hasB D n = false := by unfold hasB; simp; omega
      rw [e]
      clear e
      go_enter Try.func18, Try.ntmps18
      go_wp2
      go_ret
      exact ⟨rfl, rfl⟩
  · have e : hasB D z = false := by unfold hasB; simp; omega
    have hd : decide (0 ≤ z) = false := by simpa using h0
    rw [e]
    clear e
    go_enter Try.func18, Try.ntmps18
    go_wp2
    go_ret
    exact ⟨rfl, rfl⟩

/-- The power at one more attempt: is it there, and the device behind it. -/
def Dev.power (D : Dev) : Bool × Dev :=
  if D.off then (false, D) else if D.limited = false then (true, D) else if D.left = 0 then (false, { D with off := true }) else (true, { D with left := D.left - 1 })

/-- A device behind a turn of its head alone. -/
theorem IsDev.head_ {w w' : World} {base g h : Nat} {L : Value} {D D' : Dev} (d : IsDev w base g h L D) (a : Apart (fun k => k = g) w w')
    (hh : w'.heap[g]? = some (.cells #[.slice (some ⟨h, 0, none⟩) D'.size D'.size, L, .bool D'.off, .bool D'.limited, .int .i64 D'.left] 48 (0, 0)))
    (e1 : D'.size = D.size) (e2 : D'.sure = D.sure) (e3 : D'.loose = D.loose) (e4 : -9223372036854775808 ≤ D'.left ∧ D'.left ≤ 9223372036854775807 ∧ (D'.limited = true → 0 ≤ D'.left)) : IsDev w' base g h L D' where
  head := hh
  body := by rw [e1, e2]; exact d.body.apart a (Ne.symm d.ne)
  own := by
    rw [e3]
    refine ⟨d.own.1, ?_⟩
    rcases d.own.2 with h2 | ⟨k, cap, cur, e, hb0, hg, rest⟩
    · exact .inl h2
    · exact .inr ⟨k, cap, cur, e, hb0, (a.block k (Array.getElem?_eq_some_iff.1 hg).1 (fun e5 => d.ng (by rw [e, ← e5]; rfl))).trans hg, rest⟩
  bg := d.bg
  bh := d.bh
  ne := d.ne
  ng := d.ng
  nh := d.nh
  size := by rw [e1]; exact d.size
  sure := by rw [e1, e2]; exact d.sure
  loose := by rw [e1, e3]; exact d.loose
  left := e4

set_option maxRecDepth 100000 in
theorem powered_any {w : World} {base g h : Nat} {L : Value} {D : Dev} (d : IsDev w base g h L D) :
    Calls Try.prog 19 #[.pointer (some ⟨g, 0, none⟩)] w fun e w' => e = .returned (.bool D.power.1) ∧ IsDev w' base g h L D.power.2 ∧ Apart (fun k => k = g) w w' := by
  obtain ⟨c0, c1, c2, c3, c4, cf⟩ := d.cells
  have hd := Lib.hid d
  have cf2 := cf 2
  have cf4 := cf 4
  have hl := d.left
  clear c0 c1 cf d
  unfold Dev.power
  by_cases h1 : D.off = true
  · rw [if_pos h1]
    rw [h1] at c2
    clear c3 c4
    go_enter Try.func19, Try.ntmps19
    go_wp2
    go_ret
    exact ⟨rfl, hd.out, Apart.refl _ _⟩
  · have e1 : D.off = false := by simpa using h1
    rw [if_neg h1]
    rw [e1] at c2
    by_cases h2 : D.limited = false
    · rw [if_pos h2]
      rw [h2] at c3
      clear c4
      go_enter Try.func19, Try.ntmps19
      go_wp2
      go_ret
      exact ⟨rfl, hd.out, Apart.refl _ _⟩
    · have e2 : D.limited = true := by simpa using h2
      rw [if_neg h2]
      rw [e2] at c3
      clear h1 h2
      by_cases h3 : D.left = 0
      · rw [if_pos h3]
        rw [h3] at c4
        go_enter Try.func19, Try.ntmps19
        go_wp2
        go_ret
        have ha : Apart (fun k => k = g) w (w.setCell ⟨g, 2, none⟩ (.bool true)) := apart_set _ _ _ _
        exact ⟨rfl, hd.out.head_ ha (by rw [heap_setCell_same w g 2 _ _ _ hd.out.head]; rfl) rfl rfl rfl hl, ha⟩
      · rw [if_neg h3]
        have h4 := hl.2.2 e2
        obtain ⟨x, hx⟩ : ∃ x, x = D.left := ⟨_, rfl⟩
        rw [← hx] at c4 h3 h4 hl ⊢
        have HX := Lib.hid hx
        have h3' : (x == 0) = false := by simpa using h3
        obtain ⟨l1, l2, l3⟩ := hl
        clear hx e1 e2 l3
        go_enter Try.func19, Try.ntmps19
        go_wp2
        go_ret
        have ha := apart_set w g 4 (.int .i64 (x - 1))
        exact ⟨rfl, hd.out.head_ ha (by rw [heap_setCell_same w g 4 _ _ _ hd.out.head]; rfl) rfl rfl rfl ⟨by show _ ≤ x - 1; omega, by show x - 1 ≤ _; omega, fun _ => by show 0 ≤ x - 1; omega⟩, ha⟩

/-- A row of marks. -/
def MarksAt (w : World) (A : Option Addr) (n : Nat) (m : Nat → Bool) : Prop := ∀ i, i < n → ∃ ad, A = some ad ∧ w.cell? (ad.add i) = some (.bool (m i))

set_option maxRecDepth 100000 in
/-- The closure that looks for a sector's write. -/
theorem sought_any {w : World} {p b o : Nat} {x z : Int} (hp : w.cell? ⟨p, 0, none⟩ = some (.int .i64 z)) (hb : w.cell? ⟨b, o, none⟩ = some (.int .i64 x)) :
    Calls Try.prog 36 #[.pointer (some ⟨b, o, none⟩), .pointer (some ⟨p, 0, none⟩)] w (Drawn (.bool (x == z)) w) := by
  go_enter Try.func36, Try.ntmps36
  go_wp2
  go_quiet (fail)
  go_wp2
  go_ret
  exact ⟨_, rfl, rfl⟩

/-- The last write of sector t, or none. -/
def Sought (D : Dev) (t : Nat) (w : World) (e : Ending) (w' : World) : Prop :=
  ((∃ (k : Nat) (hk : k < D.loose.length), D.loose[k].at_ = t ∧ (∀ j (hj : j < D.loose.length), k < j → D.loose[j].at_ ≠ t) ∧ e = .returned (.tuple #[.int .i64 (k : Int), .bool true])) ∨
    ((∀ j (hj : j < D.loose.length), D.loose[j].at_ ≠ t) ∧ e = .returned (.tuple #[.int .i64 0, .bool false]))) ∧ ∃ q, w.drewN q = w'

set_option maxRecDepth 100000 in
theorem search_any {w : World} {base g h p : Nat} {L : Value} {D : Dev} (d : IsDev w base g h L D) {t : Nat} (hp : w.cell? ⟨p, 0, none⟩ = some (.int .i64 (t : Int))) :
    Calls Try.prog 35 #[.pointer (some ⟨g, 0, none⟩), .func (.func 36) #[] #[.pointer (some ⟨p, 0, none⟩)]] w (Sought D t w) := by
  obtain ⟨-, c1, -, -, -, -⟩ := d.cells
  obtain ⟨A, cap, rfl, hlc, hcm, hA⟩ := d.slice
  have HD := Lib.hid d
  have HP := Lib.hid hp
  obtain ⟨m, hm⟩ : ∃ m, m = D.loose.length := ⟨_, rfl⟩
  rw [← hm] at c1 hlc hA
  have HM := Lib.hid hm
  clear d hp hm
  go_enter Try.func35, Try.ntmps35
  go_wp2
  go_loopw [6] (fun v wr => ∃ n : Nat, n ≤ m ∧ v = .int .i64 ((n : Int) - 1) ∧ (∀ j (hj : j < D.loose.length), n ≤ j → D.loose[j].at_ ≠ t) ∧ ∃ q, w.drewN q = wr) (fun v _ => (intOf v + 1).toNat)
  case atStart => exact ⟨m, by omega, rfl, fun j hj hn => by have := HM.out; omega, 0, rfl⟩
  case round =>
    obtain ⟨n, hn, rfl, hno, q, rfl⟩ := hrel
    have HN := Lib.hid hno
    clear hno
    by_cases h0 : n = 0
    · subst h0
      go_wp2
      go_ret2
      exact ⟨.inr ⟨fun j hj => HN.out j hj (Nat.zero_le _), rfl⟩, q, rfl⟩
    · obtain ⟨i, rfl⟩ : ∃ i, n = i + 1 := ⟨n - 1, by omega⟩
      obtain ⟨k, rfl, hkw, hkg, hkh⟩ := hA (by omega)
      have hi : i < D.loose.length := by have := HM.out; omega
      have hw : (w.drewN q).cell? ⟨k, i * 65, none⟩ = some (.int .i64 (D.loose[i].at_ : Int)) := by
        have hd := HD.out
        have := hd.write hi 0 (.int .i64 (D.loose[i].at_ : Int)) rfl
        simpa using this
      have HW := Lib.hid hw
      have e1 : ((i + 1 : Nat) : Int) - 1 = (i : Int) := by omega
      rw [e1]
      clear hw e1
      go_wp2_with fail
      refine (sought_any (w := w.drewN q) (p := p) (b := k) (o := i * 65) HP.out HW.out).mono ?_
      rintro e w' ⟨q2, rfl, rfl⟩
      rw [World.drewN_drewN]
      by_cases he : D.loose[i].at_ = t
      · have hb : ((D.loose[i].at_ : Int) == (t : Int)) = true := by simp [he]
        rw [hb]
        have HE := Lib.hid he
        clear he hb
        go_wp2
        go_ret2
        exact ⟨.inl ⟨i, hi, HE.out, fun j hj hij => HN.out j hj hij, rfl⟩, q + q2, rfl⟩
      · have hb : ((D.loose[i].at_ : Int) == (t : Int)) = false := by simp; omega
        rw [hb]
        have HE := Lib.hid he
        clear he hb
        go_wp2
        go_roundw
        case rel => exact ⟨i, by omega, by go_num, fun j hj hij => by
          rcases Nat.eq_or_lt_of_le hij with rfl | h5
          · exact HE.out
          · exact HN.out j hj h5, q + q2, rfl⟩
        case measure => simp [intOf]
end Go.Proofs.Ytmgeifolgdgapaa
