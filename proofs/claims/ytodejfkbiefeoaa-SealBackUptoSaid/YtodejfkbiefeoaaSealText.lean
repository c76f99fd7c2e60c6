/- Bytes as strings: what a conversion gives, and when two are alike. -/
import Derived.Test.YtodejfkbiefeoaaSealOpen
import Derived.Laws.IdiomStrings
namespace Go.Proofs.Ytodejfkbiefeoaa
open Go.RowKit

/-- The first n values of f, as a string. -/
def str (f : Nat → Nat) (n : Nat) : ByteArray := ⟨((List.range n).map fun i => UInt8.ofNat (f i)).toArray⟩

theorem str_list (f : Nat → Nat) (n : Nat) : (str f n).toList = (List.range n).map fun i => UInt8.ofNat (f i) := by
  rw [ByteArray.toList_eq]
  simp [str]

theorem str_at (f : Nat → Nat) {n i : Nat} (h : i < n) : (str f n).toList[i]? = some (UInt8.ofNat (f i)) := by
  rw [str_list]
  simp [List.getElem?_range h]

theorem str_congr {f g : Nat → Nat} {n : Nat} (h : ∀ i, i < n → f i = g i) : str f n = str g n := by
  unfold str
  congr 2
  apply List.map_congr_left
  intro i hi
  rw [h i (List.mem_range.1 hi)]

theorem str_same {f g : Nat → Nat} {n : Nat} (h : ∀ i, i < n → f i = g i) : ((str f n).toList == (str g n).toList) = true := by
  rw [str_congr h]
  simp

theorem byte_inj {a b : Nat} (ha : a < 256) (hb : b < 256) (h : UInt8.ofNat a = UInt8.ofNat b) : a = b := by
  have := congrArg UInt8.toNat h
  simp at this
  omega

theorem str_inj {f g : Nat → Nat} {n : Nat} (hf : ∀ i, i < n → f i < 256) (hg : ∀ i, i < n → g i < 256) (h : ((str f n).toList == (str g n).toList) = true) (i : Nat) (hi : i < n) : f i = g i := by
  have h1 : (str f n).toList = (str g n).toList := by simpa using h
  have h2 : (str f n).toList[i]? = (str g n).toList[i]? := by rw [h1]
  rw [str_at f hi, str_at g hi] at h2
  exact byte_inj (hf i hi) (hg i hi) (Option.some.inj h2)

theorem str_other {f g : Nat → Nat} {n : Nat} (hf : ∀ i, i < n → f i < 256) (hg : ∀ i, i < n → g i < 256) {i : Nat} (hi : i < n) (h : f i ≠ g i) : ((str f n).toList == (str g n).toList) = false := by
  cases e : ((str f n).toList == (str g n).toList) with
  | true => exact absurd (str_inj hf hg e i hi) h
  | false => rfl

/-- string(b) of bytes that lie somewhere. -/
theorem conv_str {w : World} {A : Option Addr} {n : Nat} {f : Nat → Nat} (c : Nat) (h : BytesAt w A n f) :
    (convert 23 9 (.slice A n c)).run Try.prog w = .ok (.string (str f n)) w := by
  by_cases hn : n = 0
  · subst hn
    rw [run_convert_bytes_string w 23 9 5 A 0 c Try.underlying23 Try.underlying5 Try.underlying9]
    cases A with
    | none => simp [Conv.bytesToString, str]; rfl
    | some ad =>
      have hl := run_loadCells_list (P := Try.prog) w ad [] (by simp)
      rw [run_bytesToString w ad 0 c [] (by simpa using hl)]
      rfl
  · obtain ⟨ad, rfl⟩ := h.addr (by omega)
    have hc := run_convert_bytes_back (P := Try.prog) w 23 9 5 ad c ((List.range n).map fun i => UInt8.ofNat (f i)) Try.underlying23 Try.underlying5 Try.underlying9 (fun j hj => by
      simp only [List.length_map, List.length_range] at hj
      rw [h.at_ hj]
      have := h.small j hj
      simp only [List.getElem_map, List.getElem_range]
      congr 2
      simp
      omega)
    simpa [str] using hc

theorem conv_nil (w : World) (c : Nat) : (convert 23 9 (.slice none 0 c)).run Try.prog w = .ok (.string (str (fun _ => 0) 0)) w :=
  conv_str c ⟨fun i hi => absurd hi (by omega), fun i hi => absurd hi (by omega)⟩

end Go.Proofs.Ytodejfkbiefeoaa
