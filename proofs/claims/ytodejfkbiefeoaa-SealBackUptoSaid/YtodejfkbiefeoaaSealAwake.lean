/- The first facts, which the statements of package seal ask. -/
import Derived.Test.YtodejfkbiefeoaaSealText
import Derived.Lib.SlBytesConst
namespace Go.Proofs.Ytodejfkbiefeoaa
open Go.RowKit

def ab : Nat → Nat | 0 => 97 | _ => 98
def digits : Nat → Nat | 0 => 49 | 1 => 50 | 2 => 51 | 3 => 52 | 4 => 53 | 5 => 54 | 6 => 55 | 7 => 56 | _ => 57

theorem ab_lt (i : Nat) (_ : i < 2) : ab i < 256 := by unfold ab; split <;> omega
theorem digits_lt (i : Nat) (_ : i < 9) : digits i < 256 := by unfold digits; split <;> omega
theorem digits_sum : num (crc digits 9) = 4236843288 := by decide +kernel
theorem ab_text : str (sec ab 2) 2 = ⟨#[97, 98]⟩ := by decide +kernel

theorem ab_new (w : World) : BytesAt (w.alloc (.cells #[.int .u8 97, .int .u8 98] 5 (2, 3))) (some ⟨w.heap.size, 0, none⟩) 2 ab :=
  ⟨ab_lt, fun i hi => ⟨_, rfl, by
    rcases (by omega : i = 0 ∨ i = 1) with rfl | rfl <;> (rw [add_nil, World.cell?_alloc_mark]; rfl)⟩⟩
theorem digits_new (w : World) : BytesAt (w.alloc (.cells #[.int .u8 49, .int .u8 50, .int .u8 51, .int .u8 52, .int .u8 53, .int .u8 54, .int .u8 55, .int .u8 56, .int .u8 57] 5 (9, 10))) (some ⟨w.heap.size, 0, none⟩) 9 digits :=
  ⟨digits_lt, fun i hi => ⟨_, rfl, by
    rcases (by omega : i = 0 ∨ i = 1 ∨ i = 2 ∨ i = 3 ∨ i = 4 ∨ i = 5 ∨ i = 6 ∨ i = 7 ∨ i = 8) with rfl | rfl | rfl | rfl | rfl | rfl | rfl | rfl | rfl <;> (rw [add_nil, World.cell?_alloc_mark]; rfl)⟩⟩

theorem Row.bytes {B : Nat} {w : World} {v : Value} {n m : Nat} {f : Nat → Nat} (h : Row B w v n f) (hm : m ≤ n) (hf : ∀ i, i < m → f i < 256) :
    ∃ g cap, v = .slice (some ⟨g, 0, none⟩) n cap ∧ B ≤ g ∧ g < w.heap.size ∧ n ≤ cap ∧ cap ≤ 9223372036854775807 ∧ BytesAt w (some ⟨g, 0, none⟩) m f := by
  obtain ⟨g, cap, hv, hB, hlt, hn, hc, hcell, _⟩ := h.open_
  exact ⟨g, cap, hv, hB, hlt, hn, hc, hf, fun i hi => ⟨_, rfl, by rw [add_nil]; exact hcell i (by omega)⟩⟩

theorem awake_any (w : World) : Calls Try.prog 9 #[] w (Fresh (.bool true) w) := by
  have kc := fun (w : World) (C : Array Value) (n c : Nat) => Lib.run_convert_bytes_const (P := Try.prog) w 23 5 C n c Try.underlying23 Try.underlying5
  go_enter Try.func9, Try.ntmps9
  go_wp2_with fail
  refine (close_any (some ⟨w.heap.size, 0, none⟩) 2 _ ab _ (by omega) (ab_new w)).mono ?_
  rintro e w2 ⟨v, rfl, hr, hb⟩
  obtain ⟨g, cap, rfl, hB, hlt, hn, hc, hbytes⟩ := hr.bytes (Nat.le_refl _) (fun i _ => sec_lt ab_lt i)
  have HB := Lib.hid hb
  have HY := Lib.hid hbytes
  have HG := Lib.hid hB
  clear hr hb hbytes hB
  go_wp2_with fail
  refine (open_ok ⟨g, 0, none⟩ cap (sec ab 2) w2 hn hc HY.out (fun i _ => sec_sealed ab 2 i)).mono ?_
  rintro e w3 ⟨v2, rfl, hr2, hb2⟩
  obtain ⟨g2, cap2, rfl, hB2, hlt2, hn2, hc2, hbytes2⟩ := hr2.bytes (m := 2) (by omega) (fun i _ => sec_lt ab_lt i)
  have HB2 := Lib.hid hb2
  have HY2 := Lib.hid hbytes2
  clear hr2 hb2 hbytes2 hB2
  have hcv : ∀ o : Obj, (convert 23 9 (.slice (some ⟨g2, 0, none⟩) 2 cap2)).run Try.prog (w3.alloc o) = .ok (.string ⟨#[97, 98]⟩) (w3.alloc o) := fun o => by
    rw [← ab_text]
    exact conv_str cap2 (HY2.out.below ((Below.refl _ _).alloc (Nat.le_refl _) _))
  go_wp2_with fail
  refine (sum_any (some ⟨w3.heap.size, 0, none⟩) 9 _ digits _ (by omega) (digits_new w3)).mono ?_
  rintro e w' ⟨rfl, rfl⟩
  rw [digits_sum]
  go_wp2
  go_ret
  refine ⟨rfl, ?_⟩
  have s1 := HB.out.size
  have s2 := HB2.out.size
  exact (((((Below.refl _ w).alloc (Nat.le_refl _) _).trans (HB.out.mono (by simp)))).trans (HB2.out.mono (by simp at s1; omega))).alloc (by simp at s1; omega) _

/-- A slice of bytes that came in. -/
def ofInts (Z : List Int) (i : Nat) : Nat := (Z.getD i 0).toNat
theorem bytes_in {w : World} {A : Option Addr} {n c : Nat} {Z : List Int} (h : IntsIn w .u8 A n c Z) : BytesAt w A n (ofInts Z) := by
  have hz : ∀ i, i < n → 0 ≤ Z.getD i 0 ∧ Z.getD i 0 ≤ 255 := fun i hi => by
    have hl : i < Z.length := by rw [h.len]; exact hi
    have hw := h.wf Z[i] (List.getElem_mem hl)
    rw [List.getD_eq_getElem?_getD, List.getElem?_eq_getElem hl]
    simpa [Lit.wf, IntKind.min, IntKind.max, IntKind.signed, IntKind.bits] using hw
  refine ⟨fun i hi => ?_, fun i hi => ?_⟩
  · have := hz i hi
    unfold ofInts
    omega
  · obtain ⟨ad, rfl⟩ := h.addr (by omega)
    refine ⟨ad, rfl, ?_⟩
    rw [h.cell ad rfl i hi]
    have := hz i hi
    unfold ofInts
    congr 2
    omega

end Go.Proofs.Ytodejfkbiefeoaa
