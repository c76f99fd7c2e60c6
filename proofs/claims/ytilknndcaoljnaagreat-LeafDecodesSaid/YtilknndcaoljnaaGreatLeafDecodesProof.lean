/- What any pages are is what the document says. For every input, no condition. -/
import Derived.Test.YtilknndcaoljnaaGreatRfDecode
import Derived.Test.YtilknndcaoljnaaGreatMerge13
import Derived.Test.YtilknndcaoljnaaGreatPagesIn
namespace Go.Proofs.YtilknndcaoljnaaGreat.leafDecodes
open Go.ChangeShapes Go.WideShapes Go.ChangeAt Go.RowKit

/-- A state and a geometry, each laid into a block of its own. -/
structure Two (W w3 w4 w5 : World) (K S : Nat → Nat) (V : Nat → Value) (s b : Int) : Prop where
  e3 : w3 = (W.alloc (.cells (scells z0 z0 zV).toArray 29)).alloc (.cells #[.int .i64 0, .int .i64 0] 31)
  e4 : w4 = w3.setCells W.heap.size 0 (scells K S V)
  e5 : w5 = (w4.setCell ⟨W.heap.size + 1, 0, none⟩ (.int .i64 s)).setCell ⟨W.heap.size + 1, 1, none⟩ (.int .i64 b)
  there : w3.there W.heap.size 0 (scells K S V).toArray.size
  p0 : w4.cell? ⟨W.heap.size + 1, 0, none⟩ = some (.int .i64 0)
  p1 : w4.cell? ⟨W.heap.size + 1, 1, none⟩ = some (.int .i64 0)
  f0 : w4.frozen? ⟨W.heap.size + 1, 0, none⟩ = false
  f1 : w4.frozen? ⟨W.heap.size + 1, 1, none⟩ = false
  p2 : (w4.setCell ⟨W.heap.size + 1, 0, none⟩ (.int .i64 s)).cell? ⟨W.heap.size + 1, 1, none⟩ = some (.int .i64 0)
  f2 : (w4.setCell ⟨W.heap.size + 1, 0, none⟩ (.int .i64 s)).frozen? ⟨W.heap.size + 1, 1, none⟩ = false
  st : StIs w5 W.heap.size K S V
  c0 : w5.cell? ⟨W.heap.size + 1, 0, none⟩ = some (.int .i64 s)
  c1 : w5.cell? ⟨W.heap.size + 1, 1, none⟩ = some (.int .i64 b)
  below : Below W.heap.size W w5

theorem two_any (W : World) (K S : Nat → Nat) (V : Nat → Value) (s b : Int) : ∃ w3 w4 w5, Two W w3 w4 w5 K S V s b := by
  obtain ⟨w3, hw3⟩ : ∃ w3, w3 = (W.alloc (.cells (scells z0 z0 zV).toArray 29)).alloc (.cells #[.int .i64 0, .int .i64 0] 31) := ⟨_, rfl⟩
  have b3 : Below W.heap.size W w3 := by rw [hw3]; exact ((Below.refl _ W).alloc (Nat.le_refl _) _).alloc (by simp) _
  have S3 : StIs w3 W.heap.size z0 z0 zV := by rw [hw3]; exact (st_new W z0 z0 zV).below ((Below.refl _ _).alloc (Nat.le_refl _) _)
  have P3 : RowIs w3 (W.heap.size + 1) 31 (fun _ => .int .i64 0) 2 := by
    rw [hw3]
    have h := row_new (W.alloc (.cells (scells z0 z0 zV).toArray 29)) 31 (fun _ => .int .i64 0) 2 [.int .i64 0, .int .i64 0] rfl (fun i hi => by rcases (by omega : i = 0 ∨ i = 1) with rfl | rfl <;> rfl)
    rw [World.size_alloc] at h
    exact h
  obtain ⟨w4, hw4, st4, a4⟩ := store_state (K' := K) (S' := S) (V' := V) S3
  have P4 : RowIs w4 (W.heap.size + 1) 31 (fun _ => .int .i64 0) 2 := RowIs.apart P3 a4 (by omega)
  have P5 : RowIs (w4.setCell ⟨W.heap.size + 1, 0, none⟩ (.int .i64 s)) (W.heap.size + 1) 31 (fun i => if i = 0 then .int .i64 s else .int .i64 0) 2 := P4.set_ (fun _ => by simp) (fun i _ hi => by simp [hi])
  have P6 : RowIs ((w4.setCell ⟨W.heap.size + 1, 0, none⟩ (.int .i64 s)).setCell ⟨W.heap.size + 1, 1, none⟩ (.int .i64 b)) (W.heap.size + 1) 31 (fun i => if i = 0 then .int .i64 s else .int .i64 b) 2 := P5.set_ (fun _ => by simp) (fun i hi hk => by rw [if_pos (show i = 0 by omega), if_pos (show i = 0 by omega)])
  have a6 : Apart (fun k => k = W.heap.size + 1) w4 ((w4.setCell ⟨W.heap.size + 1, 0, none⟩ (.int .i64 s)).setCell ⟨W.heap.size + 1, 1, none⟩ (.int .i64 b)) :=
    ((Apart.refl (fun k => k = W.heap.size + 1) w4).setCell (p := ⟨W.heap.size + 1, 0, none⟩) (fun _ => rfl) _).setCell (p := ⟨W.heap.size + 1, 1, none⟩) (fun _ => rfl) _
  have b4 : Below W.heap.size W w4 := b3.trans (a4.below b3.size fun i hi e => by omega)
  exact ⟨w3, w4, _, hw3, hw4, rfl, StIs.there_ S3, RowIs.cell P4 (i := 0) (by omega), RowIs.cell P4 (i := 1) (by omega), RowIs.free P4 0, RowIs.free P4 1, RowIs.cell P5 (i := 1) (by omega), RowIs.free P5 1,
    RowIs.apart st4 a6 (by omega), RowIs.cell P6 (i := 0) (by omega), RowIs.cell P6 (i := 1) (by omega), b4.trans (a6.below b4.size fun i hi e => by omega)⟩

/-- An answer as it is seen: the rows of its state, all places or none. -/
structure Seen (W : World) (V : Nat → Value) (M : Nat → Nat) (Z : Nat → Nat → Pl) : Prop where
  row : ∀ i, i < 8 → ReadsZ W (V i) (M i) (Z i)
  good : ∀ i j, Good (Z i j)
theorem Seen.later {W W' : World} {V : Nat → Value} {M : Nat → Nat} {Z : Nat → Nat → Pl} (h : Seen W V M Z) (hb : Below W.heap.size W W') : Seen W' V M Z := ⟨fun i hi => (h.row i hi).below hb, h.good⟩
theorem Seen.one {W : World} {V : Nat → Value} {M : Nat → Nat} {Z : Nat → Nat → Pl} (h : Seen W V M Z) : ∀ i, i < 8 → (V i).oneCell' = true := fun i hi => by
  obtain ⟨_, _, e, _⟩ := h.row i hi
  rw [e]; rfl
theorem seen_zero (W : World) : Seen W zV z0 (fun _ _ => none) := ⟨fun _ _ => readsZ_none W _, fun _ _ => good_none⟩
theorem seen_laid {W : World} {base N : Nat} {L : Nat → Nat} {F : Nat → Nat → Nat} {s b seq : Nat} {K S M : Nat → Nat} {Z : Nat → Nat → Pl} {V : Nat → Value} (hl : Laid N L F s b seq K S M Z) (hz : ∀ i, i < 8 → OwnZ W base (V i) (M i) (Z i)) : Seen W V M (kept M Z) :=
  ⟨fun i hi => (hz i hi).reads.congr (kept_alike K S M Z i hi).2.2.2, fun i j q hq => by
    have h := kept_narrow hl.1 i j q hq
    have g := hl.1.1.2.2
    exact ⟨h.1, by omega⟩⟩

/-- Both answers, and how they are one. -/
theorem answers {N : Nat} {L : Nat → Nat} {F : Nat → Nat → Nat} {w w2 : World} {e : Ending} (h : DecA N L F w e w2) :
    Below w.heap.size w w2 ∧ ∃ (s b q x : Int) (K S M : Nat → Nat) (Z : Nat → Nat → Pl) (V : Nat → Value), e = .returned (.tuple #[.agg (scells K S V).toArray, .agg #[.int .i64 s, .int .i64 b], .int .i64 q, .int .i64 x]) ∧ Seen w2 V M Z ∧
      ((∃ s' b' q' : Nat, s = s' ∧ b = b' ∧ q = q' ∧ x = 0 ∧ Laid N L F s' b' q' K S M Z) ∨ ((∀ s b seq K S M Z, ¬ Laid N L F s b seq K S M Z) ∧ s = 0 ∧ b = 0 ∧ q = 0 ∧ x = 11 ∧ Alike K S M z0 z0 z0 Z (fun _ _ => none))) := by
  obtain ⟨h, hb⟩ := h
  refine ⟨hb, ?_⟩
  rcases h with ⟨s, b, q, K, S, M, Z, V, hl, rfl, hz⟩ | ⟨no, rfl⟩
  · exact ⟨s, b, q, 0, K, S, M, kept M Z, V, rfl, seen_laid hl hz, .inl ⟨s, b, q, rfl, rfl, rfl, rfl, hl.alike (kept_alike K S M Z)⟩⟩
  · exact ⟨0, 0, 0, 11, z0, z0, z0, fun _ _ => none, zV, rfl, seen_zero _, .inr ⟨no, rfl, rfl, rfl, rfl, fun _ _ => ⟨rfl, rfl, rfl, fun _ _ => rfl⟩⟩⟩

set_option maxRecDepth 20000 in
set_option maxHeartbeats 1000000 in
theorem text (v : Value) (N : Nat) (L : Nat → Nat) (F : Nat → Nat → Nat) (w : World) (hv : ReadsP w v N L F) : Calls Tryz.prog 3 #[v] w (Fresh (.bool true) w) := by
  obtain ⟨A, c, rfl, -⟩ := id hv
  have hzs := zero_state
  have hzp := plat_zero
  have HV := Lib.hid hv
  clear hv
  go_enter Tryz.func3, Tryz.ntmps3
  go_wp2_with fail
  with_reducible refine (decode_any _ _ _ _ _ HV.out).mono ?_
  rintro e w1 h1
  obtain ⟨hb1, s, b, q, x, K, S, M, Z, V, rfl, hs1, ho1⟩ := answers h1
  obtain ⟨w3, w4, w5, h2⟩ := two_any w1 K S V s b
  have V1 := scells_one hs1.one (K := K) (S := S)
  have RT := h2.there
  have hw3 := h2.e3
  have hw4 := h2.e4
  have hw5 := h2.e5
  have p0 := h2.p0
  have p1 := h2.p1
  have p2 := h2.p2
  have f0 := h2.f0
  have f1 := h2.f1
  have f2 := h2.f2
  have T1 := Lib.hid h2
  have HS := Lib.hid (hs1.later h2.below)
  have B5 := Lib.hid (hb1.trans (h2.below.mono hb1.size))
  have HO := Lib.hid ho1
  clear h1 hb1 hs1 h2 ho1
  go_wp2_with (first
    | (rw [← hw3]; clear hw3; refine wpList_store_mid rfl 29 (.tmp 3) (.tmp 14) rfl w1.heap.size 0 (scells K S V).toArray rfl rfl RT (state_len' _ _ _) V1 ?_; rw [show (scells K S V).toArray.toList = scells K S V from rfl, ← hw4]; clear hw4 RT V1)
    | (rw [← hw5]; clear hw5 p0 p1 p2 f0 f1 f2))
  with_reducible refine (refDecode_any _ _ _ _ _ (HV.out.below B5.out)).mono ?_
  rintro e y1 k1
  obtain ⟨kb1, s', b', q', x', K', S', M', Z', V', rfl, ks1, ko1⟩ := answers k1
  obtain ⟨y3, y4, y5, k2⟩ := two_any y1 K' S' V' s' b'
  have W1 := scells_one ks1.one (K := K') (S := S')
  have QT := k2.there
  have hy3 := k2.e3
  have hy4 := k2.e4
  have hy5 := k2.e5
  have r0 := k2.p0
  have r1 := k2.p1
  have r2 := k2.p2
  have g0 := k2.f0
  have g1 := k2.f1
  have g2 := k2.f2
  have both : s' = s ∧ b' = b ∧ q' = q ∧ x' = x ∧ Alike K S M K' S' M' Z Z' := by
    rcases HO.out with ⟨s1, b1, q1, rfl, rfl, rfl, rfl, l1⟩ | ⟨n1, rfl, rfl, rfl, rfl, a1⟩
    · rcases ko1 with ⟨s2, b2, q2, rfl, rfl, rfl, rfl, l2⟩ | ⟨n2, _⟩
      · obtain ⟨rfl, rfl, rfl, al⟩ := l1.one l2
        exact ⟨rfl, rfl, rfl, rfl, al⟩
      · exact absurd l1 (n2 _ _ _ _ _ _ _)
    · rcases ko1 with ⟨s2, b2, q2, rfl, rfl, rfl, rfl, l2⟩ | ⟨n2, rfl, rfl, rfl, rfl, a2⟩
      · exact absurd l2 (n1 _ _ _ _ _ _ _)
      · exact ⟨rfl, rfl, rfl, rfl, a1.trans a2.symm⟩
  obtain ⟨rfl, rfl, rfl, rfl, al⟩ := both
  have AL := Lib.hid al
  have by1 : Below w5.heap.size w5 y5 := kb1.trans (k2.below.mono kb1.size)
  have ST1 := Lib.hid (T1.out.st.below by1)
  have C0 := Lib.hid (cell_later by1 T1.out.c0)
  have C1 := Lib.hid (cell_later by1 T1.out.c1)
  have ST2 := Lib.hid k2.st
  have D0 := Lib.hid k2.c0
  have D1 := Lib.hid k2.c1
  have SN1 := Lib.hid (HS.out.later by1)
  have SN2 := Lib.hid (ks1.later k2.below)
  have BY := Lib.hid (B5.out.trans (by1.mono B5.out.size))
  clear k1 kb1 ks1 k2 ko1 al by1 HO HS T1 HV B5
  go_wp2_with (first
    | (rw [← hy3]; clear hy3; refine wpList_store_mid rfl 29 (.tmp 7) (.tmp 21) rfl y1.heap.size 0 (scells K' S' V').toArray rfl rfl QT (state_len' _ _ _) W1 ?_; rw [show (scells K' S' V').toArray.toList = scells K' S' V' from rfl, ← hy4]; clear hy4 QT W1)
    | (rw [← hy5]; clear hy5 r0 r1 r2 g0 g1 g2))
  with_reducible refine (awake_any y5).mono ?_
  rintro e z1 ⟨rfl, hz1⟩
  have c0 := cell_later hz1 C0.out
  have c1 := cell_later hz1 C1.out
  have d0 := cell_later hz1 D0.out
  have d1 := cell_later hz1 D1.out
  have ST3 := Lib.hid (ST1.out.below hz1)
  have ST4 := Lib.hid (ST2.out.below hz1)
  have SN3 := Lib.hid (SN1.out.later hz1)
  have SN4 := Lib.hid (SN2.out.later hz1)
  have BZ := Lib.hid (BY.out.trans (hz1.mono BY.out.size))
  clear hz1
  go_wp2_with (first
    | (refine BigFrame.wpList_want (by rfl) (fun _ hK => wp_load_mid 29 (.tmp 3) rfl w1.heap.size 0 rfl (scells K S V) _ (StIs.whole ST3.out) Tryz.underlying29 rfl (state_len _ _ _) (hK _ _ ?_)))
    | (refine BigFrame.wpList_want (by rfl) (fun _ hK => wp_load_mid 29 (.tmp 7) rfl y1.heap.size 0 rfl (scells K' S' V') _ (StIs.whole ST4.out) Tryz.underlying29 rfl (state_len _ _ _) (hK _ _ ?_))))
  with_reducible refine (refSame_states K S M K' S' M' V V' Z Z' z1 SN3.out.row SN4.out.row SN3.out.good AL.out).mono ?_
  rintro e z2 ⟨rfl, hz2⟩
  have BE := Lib.hid (BZ.out.trans (hz2.mono BZ.out.size))
  clear hz2 c0 c1 d0 d1
  go_wp2
  go_ret
  exact ⟨rfl, BE.out⟩

set_option linter.unusedVariables false in
theorem walk (w : World) (A0 : Option Addr) (n0 c0 : Nat) (L0 : Nat → Nat) (F0 : Nat → Nat → Nat) (s0 : ReadsP w (.slice A0 n0 c0) n0 L0 F0) :
    Calls Tryz.prog 3 #[.slice A0 n0 c0] w (Fresh (.bool true) w) := by
  exact text _ _ _ _ w s0

/-! ### the law's end -/
set_option linter.unusedVariables false
theorem own : ownKnob Tryz.prog.godebug = none := by kernel_rfl
theorem laidOut : laidOutB Tryz.prog = true := by kernel_rfl
set_option maxRecDepth 100000 in

theorem lifted (os : Os) (started : os.Started) (H : Type) (enc : TypeId × Value → H) :
    ReturnsInHanded {} Tryz.checked os 3 .any (Rows.leafDecodesSpec.pre6 enc Tryz.prog Tryz.f3 Rows.leafDecodesRow.domain false) (Rows.leafDecodesSpec.post enc Tryz.prog Tryz.f3 false true false false) := by
  refine returnsInHanded_of_change_sized (C := Tryz.checked) own started (by kernel_rfl) Tryz.func3
    (ChangeSpec.witness6 (enc := enc) (C := Tryz.checked) false ⟨#[], #[.slice none 0 0], []⟩ 8 (by kernel_rfl) (by kernel_rfl) (by kernel_rfl) (by kernel_rfl)) ?_
  intro W base args ds gs before hval0 hW _ hsz0 _
  have hsz : (DataW.weightsEach Tryz.prog (Tryz.f3.params.toList ++ Rows.leafDecodesSpec.plain.varTypes Tryz.prog) (ds ++ gs)).all (· ≤ reachBytes) = true := hsz0
  clear hsz0
  have hval : ∀ (j : Nat) t v, Tryz.f3.params[j]? = some t → args[j]? = some v → Value.okWide Tryz.prog W .any base t v := hval0
  have hW' := hW
  obtain ⟨p, q, hA0, hV, rfl, _, _⟩ := hW
  have hA : DataW.TrodAll enc Tryz.prog W 0 (fun _ => true) true Tryz.f3.params.toList args.toList ds p := hA0
  rw [Tryz.params3] at hA hval hsz
  obtain ⟨v0, vs0, d0, ds0, p0, q0, hargs, rfl, rfl, h0, u0⟩ := trodAll_cons hA
  obtain ⟨rfl, rfl, rfl⟩ := trodAll_nil u0
  obtain rfl : args = #[v0] := by cases args; simp_all
  obtain ⟨rfl, rfl⟩ := trodVars_none hV
  clear hA0 hval0
  obtain ⟨A0, n0, c0, rfl⟩ := okWide_slice Tryz.underlying22 (hval 0 22 v0 rfl rfl)
  have k0 := h0
  obtain ⟨L0, F0, s0⟩ := view_pages Tryz.underlying22 Tryz.underlying43 Tryz.underlying5 (by kernel_rfl) (by kernel_rfl) h0
  simp only [List.append_nil] at hW'
  have hlt : ∀ x ∈ p0, x.block < W.heap.size := fun x hx => by simpa using hW'.lt x (by simpa using hx)
  refine (walk W A0 n0 c0 L0 F0 s0).mono fun e W' ⟨he, hb⟩ => ?_
  subst he
  exact ⟨_, rfl, _, _, _, [], _, [], hW', (trodAll_cons_mk (shut_bool Tryz.underlying4 _) trodAll_mk0), (trodAll_cons_mk (Below.trod laidOut (by kernel_rfl) (of_decide_eq_true (by kernel_rfl)) k0 hb (fun x hx => hlt x (by simp [hx]))) trodAll_mk0), rfl, hb.frame _, fun h => by cases h⟩

theorem over : Rows.leafDecodesRow.holds Tryz.pinned (OpenSpec.ofChange Rows.leafDecodesSpec) :=
  OpenClaim.holds_of_wide 3 Tryz.f3 rfl rfl rfl rfl rfl rfl rfl ⟨rfl, rfl, rfl, rfl, rfl⟩ rfl rfl rfl rfl rfl (by kernel_rfl) Tryz.func3 (by kernel_rfl)
    (of_decide_eq_true (by kernel_rfl)) (by unfold Func.isWrapper; first | (rw [if_pos (by decide +kernel)]; kernel_rfl) | (rw [if_neg (by decide +kernel)]; exact ⟨rfl, rfl⟩))
    (fun os started H enc _ => lifted os started H enc)

theorem proved : Rows.LeafDecodesSaid := over
#print axioms proved
end Go.Proofs.YtilknndcaoljnaaGreat.leafDecodes
