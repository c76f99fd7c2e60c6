/- No quotients, and slices of unlike lengths, are refused. For every input, no condition. -/
import Derived.Test.YtdebhebleojdbaaRatioAwake
import Derived.Laws.AppendOwn
import Derived.Laws.AppendOwnNone
import Derived.OwnWalk
namespace Go.Proofs.Ytdebhebleojdbaa.ratioNone
open Go.ChangeShapes Go.WideShapes Go.ChangeAt Go.RowKit

theorem int_info : (Try.prog.info? 3).map (fun i => (i.zero, i.size, i.bytes)) = some (some (.int .i64 0), 1, 8) := by kernel_rfl

theorem own_base {w : World} {base : Nat} {e : TypeId} {size n : Nat} {v : Value} {xs : List Value} (h : w.ownsRow base e size v n xs) (k : Nat) (hk : v.ownBlock = some k) : base ≤ k := by
  rcases h.2 with ⟨rfl, _⟩ | ⟨g, _, _, rfl, hg, _⟩
  · simp [Value.ownBlock] at hk
  · simp [Value.ownBlock] at hk
    omega

theorem own_form {w : World} {base : Nat} {e : TypeId} {size n : Nat} {v : Value} {xs : List Value} (h : w.ownsRow base e size v n xs) (hn : 0 < n) : ∃ g cap, v = .slice (some ⟨g, 0, none⟩) n cap := by
  rcases h.2 with ⟨_, h0⟩ | ⟨g, cap, _, rfl, _⟩
  · omega
  · exact ⟨g, cap, rfl⟩

theorem news_cells {w : World} {ad : Addr} {n c : Nat} {K : List Int} (t : IntsIn w .i64 (some ad) n c K) (o : Obj) (j : Nat) (u : Value) (h : (K.map (Value.int .i64))[j]? = some u) : (w.alloc o).cell? (ad.add j) = some u := by
  rw [List.getElem?_map] at h
  cases hk : K[j]? with
  | none => rw [hk] at h; cases h
  | some z =>
    rw [hk] at h
    have hj : j < n := by
      have := (List.getElem?_eq_some_iff.1 hk).1
      rw [t.len] at this
      exact this
    have hc := t.cell ad rfl j hj
    rw [List.getD_eq_getElem?_getD, hk] at hc
    have := cell_later ((Below.refl _ w).alloc (Nat.le_refl _) o) hc
    rw [this]
    exact h

theorem one_each (K : List Int) (u : Value) (h : u ∈ K.map (Value.int .i64)) : u.oneCell' = true := by
  rw [List.mem_map] at h
  obtain ⟨z, _, rfl⟩ := h
  rfl

theorem one_cell (w : World) (j : Nat) (u : Value) (h : [Value.int .i64 1][j]? = some u) : (w.alloc (.cells #[.int .i64 1] 3)).cell? ((⟨w.heap.size, 0, none⟩ : Addr).add j) = some u := by
  cases j with
  | zero => simp at h; subst h; go_simp
  | succ j => simp at h

theorem text (A : Option Addr) (n c : Nat) (Z : List Int) (w : World) (s : IntsIn w .i64 A n c Z) :
    Calls Try.prog 8 #[.slice A n c] w (Fresh (.bool true) w) := by
  obtain ⟨i0, hi0, hz0, hz1, hz2⟩ := info_parts int_info
  have b1 := s.cap
  have b2 := s.most
  cases A with
  | none =>
    obtain ⟨hn, hc⟩ := s.bare rfl
    subst hn
    subst hc
    clear s
    go_enter Try.func8, Try.ntmps8
    go_wp2_with fail
    with_reducible refine (best_err _ _ _ _ _ _ _ (by omega) (by omega) (by omega)).mono ?_
    rintro e w' ⟨rfl, rfl⟩
    go_wp2_with fail
    with_reducible refine (best_err _ _ _ _ _ _ _ (by omega) (by omega) (by omega)).mono ?_
    rintro e w' ⟨rfl, rfl⟩
    go_wp2_with fail
    refine (awake_any _).mono ?_
    rintro e w' ⟨rfl, hb⟩
    go_wp2
    go_ret
    exact ⟨rfl, Below.trans (Below.drew (Below.alloc (Below.alloc (Below.alloc (Below.refl _ _) (Nat.le_refl _) _) (by simp) _) (by simp; omega) _)) (hb.mono (by simp; omega))⟩
  | some ad =>
    by_cases h : 1000 < n
    · obtain ⟨K, hK⟩ : ∃ K, K = Z.take 1000 := ⟨_, rfl⟩
      have t := s.first (m := 1000) (by omega)
      rw [← hK] at t
      clear hK
      have T := Lib.hid t
      clear s t
      have own0 : (w.alloc (.cells #[] 3)).ownsRow w.heap.size 3 1 (.slice (some ⟨w.heap.size, 0, none⟩) 0 0) 0 [] := World.ownsRow_lit w #[] 0 (Nat.le_refl _) (by decide) rfl
      have O0 := Lib.hid own0
      clear own0
      go_enter Try.func8, Try.ntmps8
      go_wp2_with fail
      with_reducible refine (best_err _ _ _ _ _ _ _ (by omega) (by omega) (by omega)).mono ?_
      rintro e w' ⟨rfl, rfl⟩
      go_wp2_with (first
        | (at_builtin
           refine wpList_append_own _ rfl (.tmp 18) (.tmp 19) _ rfl w.heap.size 3 i0 _ 1 8 Try.underlying30 hi0 hz0 hz1 hz2 rfl (by decide) (.slice (some ⟨w.heap.size, 0, none⟩) 0 0) 0 [] rfl O0.out ad 1000 c (K.map (Value.int .i64)) rfl (by rw [List.length_map, T.out.len, Nat.mul_one]) (news_cells T.out _) (one_each K) (by unfold maxLen; omega) (by omega) (by simp) ?_
           intro v1 w1 hown1 hg1 _
           have hB1 : Below w.heap.size w w1 := ((Below.refl _ w).alloc (Nat.le_refl _) _).grown hg1 (by simp) (fun k hk => by simp [Value.ownBlock] at hk; omega))
        | (at_builtin
           refine wpList_append_own _ rfl (.tmp 20) (.tmp 21) _ rfl w.heap.size 3 i0 _ 1 8 Try.underlying30 hi0 hz0 hz1 hz2 rfl (by decide) v1 (0 + 1000) ([] ++ K.map (Value.int .i64)) rfl (hown1.alloc _) ⟨w1.heap.size, 0, none⟩ 1 1 [.int .i64 1] rfl rfl (one_cell w1) (one_each [1]) (by unfold maxLen; omega) (by omega) (by have := hB1.size; simp; omega) ?_
           intro v2 w2 hown2 hg2 _
           have hB2 : Below w.heap.size w w2 := (hB1.alloc hB1.size _).grown hg2 (by have := hB1.size; simp; omega) (own_base hown1)))
      obtain ⟨g, cap, rfl⟩ := own_form hown2 (by omega)
      with_reducible refine (best_err _ _ _ _ _ _ _ (by omega) (by omega) (by omega)).mono ?_
      rintro e w' ⟨rfl, rfl⟩
      go_wp2_with fail
      refine (awake_any _).mono ?_
      rintro e w' ⟨rfl, hb⟩
      go_wp2
      go_ret
      exact ⟨rfl, hB2.trans (hb.mono hB2.size)⟩
    · have t := s
      obtain ⟨K, hK⟩ : ∃ K, K = Z := ⟨_, rfl⟩
      rw [← hK] at t
      clear hK
      have h' : n ≤ 1000 := by omega
      have T := Lib.hid t
      clear s t
      have own0 : (w.alloc (.cells #[] 3)).ownsRow w.heap.size 3 1 (.slice (some ⟨w.heap.size, 0, none⟩) 0 0) 0 [] := World.ownsRow_lit w #[] 0 (Nat.le_refl _) (by decide) rfl
      have O0 := Lib.hid own0
      clear own0
      go_enter Try.func8, Try.ntmps8
      go_wp2_with fail
      with_reducible refine (best_err _ _ _ _ _ _ _ (by omega) (by omega) (by omega)).mono ?_
      rintro e w' ⟨rfl, rfl⟩
      go_wp2_with (first
        | (at_builtin
           refine wpList_append_own _ rfl (.tmp 18) (.tmp 19) _ rfl w.heap.size 3 i0 _ 1 8 Try.underlying30 hi0 hz0 hz1 hz2 rfl (by decide) (.slice (some ⟨w.heap.size, 0, none⟩) 0 0) 0 [] rfl O0.out ad n c (K.map (Value.int .i64)) rfl (by rw [List.length_map, T.out.len, Nat.mul_one]) (news_cells T.out _) (one_each K) (by unfold maxLen; omega) (by omega) (by simp) ?_
           intro v1 w1 hown1 hg1 _
           have hB1 : Below w.heap.size w w1 := ((Below.refl _ w).alloc (Nat.le_refl _) _).grown hg1 (by simp) (fun k hk => by simp [Value.ownBlock] at hk; omega))
        | (at_builtin
           refine wpList_append_own _ rfl (.tmp 20) (.tmp 21) _ rfl w.heap.size 3 i0 _ 1 8 Try.underlying30 hi0 hz0 hz1 hz2 rfl (by decide) v1 (0 + n) ([] ++ K.map (Value.int .i64)) rfl (hown1.alloc _) ⟨w1.heap.size, 0, none⟩ 1 1 [.int .i64 1] rfl rfl (one_cell w1) (one_each [1]) (by unfold maxLen; omega) (by omega) (by have := hB1.size; simp; omega) ?_
           intro v2 w2 hown2 hg2 _
           have hB2 : Below w.heap.size w w2 := (hB1.alloc hB1.size _).grown hg2 (by have := hB1.size; simp; omega) (own_base hown1)))
      obtain ⟨g, cap, rfl⟩ := own_form hown2 (by omega)
      with_reducible refine (best_err _ _ _ _ _ _ _ (by omega) (by omega) (by omega)).mono ?_
      rintro e w' ⟨rfl, rfl⟩
      go_wp2_with fail
      refine (awake_any _).mono ?_
      rintro e w' ⟨rfl, hb⟩
      go_wp2
      go_ret
      exact ⟨rfl, hB2.trans (hb.mono hB2.size)⟩

set_option linter.unusedVariables false in
theorem walk (w : World) (A0 : Option Addr) (n0 c0 : Nat) (Z0 : List Int) (s0 : IntsIn w .i64 A0 n0 c0 Z0) (r0 : n0 * 8 ≤ 140737488351232) :
    Calls Try.prog 8 #[.slice A0 n0 c0] w (Fresh (.bool true) w) := by
  exact text A0 n0 c0 Z0 w s0

/-! ### the law's end -/
set_option linter.unusedVariables false
theorem own : ownKnob Try.prog.godebug = none := by kernel_rfl
theorem laidOut : laidOutB Try.prog = true := by kernel_rfl
set_option maxRecDepth 100000 in
theorem lifted (os : Os) (started : os.Started) (H : Type) (enc : TypeId × Value → H) :
    ReturnsInHanded {} Try.checked os 8 .any (Rows.ratioNoneSpec.pre6 enc Try.prog Try.f8 Rows.ratioNoneRow.domain false) (Rows.ratioNoneSpec.post enc Try.prog Try.f8 false true false false) := by
  refine returnsInHanded_of_change_sized (C := Try.checked) own started (by kernel_rfl) Try.func8
    (ChangeSpec.witness6 (enc := enc) (C := Try.checked) false ⟨#[], #[.slice none 0 0], []⟩ 8 (by kernel_rfl) (by kernel_rfl) (by kernel_rfl) (by kernel_rfl)) ?_
  intro W base args ds gs before hval0 hW _ hsz0 _
  have hsz : (DataW.weightsEach Try.prog (Try.f8.params.toList ++ Rows.ratioNoneSpec.plain.varTypes Try.prog) (ds ++ gs)).all (· ≤ reachBytes) = true := hsz0
  clear hsz0
  have hval : ∀ (j : Nat) t v, Try.f8.params[j]? = some t → args[j]? = some v → Value.okWide Try.prog W .any base t v := hval0
  have hW' := hW
  obtain ⟨p, q, hA0, hV, rfl, _, _⟩ := hW
  have hA : DataW.TrodAll enc Try.prog W 0 (fun _ => true) true Try.f8.params.toList args.toList ds p := hA0
  rw [Try.params8] at hA hval hsz
  obtain ⟨v0, vs0, d0, ds0, p0, q0, hargs, rfl, rfl, h0, u0⟩ := trodAll_cons hA
  obtain ⟨rfl, rfl, rfl⟩ := trodAll_nil u0
  obtain rfl : args = #[v0] := by cases args; simp_all
  obtain ⟨rfl, rfl⟩ := trodVars_none hV
  clear hA0 hval0
  obtain ⟨A0, n0, c0, rfl⟩ := okWide_slice Try.underlying30 (hval 0 30 v0 rfl rfl)
  have k0 := h0
  obtain ⟨Z0, s0, z0⟩ := view_ints Try.underlying30 Try.underlying3 (by kernel_rfl) h0
  have r0 := reach_of (b := 8) hsz (j := 0) (t := 30) (e := 3) rfl rfl Try.underlying30 (by kernel_rfl) z0
  simp only [List.append_nil] at hW'
  have hlt : ∀ x ∈ p0, x.block < W.heap.size := fun x hx => by simpa using hW'.lt x (by simpa using hx)
  refine (walk W A0 n0 c0 Z0 s0 r0).mono fun e W' ⟨he, hb⟩ => ?_
  subst he
  exact ⟨_, rfl, _, _, _, [], _, [], hW', (trodAll_cons_mk (shut_bool Try.underlying4 _) trodAll_mk0), (trodAll_cons_mk (Below.trod laidOut (by kernel_rfl) (of_decide_eq_true (by kernel_rfl)) k0 hb (fun x hx => hlt x (by simp [hx]))) trodAll_mk0), rfl, hb.frame _, fun h => by cases h⟩

theorem over : Rows.ratioNoneRow.holds Try.pinned (OpenSpec.ofChange Rows.ratioNoneSpec) :=
  OpenClaim.holds_of_wide 8 Try.f8 rfl rfl rfl rfl rfl rfl rfl ⟨rfl, rfl, rfl, rfl, rfl⟩ rfl rfl rfl rfl rfl (by kernel_rfl) Try.func8 (by kernel_rfl)
    (of_decide_eq_true (by kernel_rfl)) (by unfold Func.isWrapper; first | (rw [if_pos (by decide +kernel)]; kernel_rfl) | (rw [if_neg (by decide +kernel)]; exact ⟨rfl, rfl⟩))
    (fun os started H enc _ => lifted os started H enc)

theorem proved : Rows.RatioNoneSaid := over
#print axioms proved
end Go.Proofs.Ytdebhebleojdbaa.ratioNone
