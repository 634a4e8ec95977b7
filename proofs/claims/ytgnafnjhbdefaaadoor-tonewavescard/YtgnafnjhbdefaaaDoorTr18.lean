/- ToneWaves' walk. No law is claimed here. -/
import Derived.Test.YtgnafnjhbdefaaaDoorTr17
set_option linter.unusedSimpArgs false
set_option linter.unusedVariables false
namespace Go.Proofs.YtgnafnjhbdefaaaDoor
open Go.RowKit Go.Great

set_option maxRecDepth 100000 in
set_option maxHeartbeats 8000000 in
theorem toneWaves_walk (k0 n0 a0 a1 a2 a3 : Int) (w : World) (hk0 : 0 ≤ k0 ∧ k0 < 256) (hn0 : 0 ≤ n0 ∧ n0 < 256) (h0 : 0 ≤ a0 ∧ a0 < 256) (h1 : 0 ≤ a1 ∧ a1 < 256) (h2 : 0 ≤ a2 ∧ a2 < 256) (h3 : 0 ≤ a3 ∧ a3 < 256) (hg : gl w) :
    Calls Tryd.prog 4 #[.int .u8 k0, .agg #[.int .u8 a0, .int .u8 a1, .int .u8 a2, .int .u8 a3], .int .u8 n0] w fun e w' => e = .returned (.bool true) ∧ Below w.heap.size w w' := by
  have hg0 : gl (w.alloc (.cells #[.int .u8 a0, .int .u8 a1, .int .u8 a2, .int .u8 a3] 37)) := hg.ext ((Ext.refl _).alloc _)
  have hb0 : Below w.heap.size w (w.alloc (.cells #[.int .u8 a0, .int .u8 a1, .int .u8 a2, .int .u8 a3] 37)) := ((Ext.refl _).alloc _).below
  have hat : (w.alloc (.cells #[.int .u8 a0, .int .u8 a1, .int .u8 a2, .int .u8 a3] 37)).heap[w.heap.size]? = some (.cells #[.int .u8 a0, .int .u8 a1, .int .u8 a2, .int .u8 a3] 37 (0, 0)) := heap_alloc_new w _
  have hlt : w.heap.size < (w.alloc (.cells #[.int .u8 a0, .int .u8 a1, .int .u8 a2, .int .u8 a3] 37)).heap.size := by simp
  obtain ⟨k, hk⟩ : ∃ k, k0 % 4 = k := ⟨_, rfl⟩
  have bk : 0 ≤ k ∧ k < 4 := by omega
  obtain ⟨N, hN⟩ : ∃ N, 1 + n0 % 8 = N := ⟨_, rfl⟩
  have bN : 1 ≤ N ∧ N ≤ 8 := by omega
  have zN : IntKind.u8.wrap (1 + n0 % 8) = N := by rw [wrap_u8_mod]; omega
  have zN2 : IntKind.u8.wrap N = N := by rw [wrap_u8_mod]; omega
  go_enter Tryd.func4, Tryd.ntmps4
  first | refine wp_region_lit ?_ | (refine wp_seq ?_; refine wp_region_lit ?_)
  refine wpList_boxTo rfl 37 _ rfl (some 4) rfl w.heap.size rfl #[.int .u8 a0, .int .u8 a1, .int .u8 a2, .int .u8 a3] rfl ?_
  generalize (w.alloc (.cells #[.int .u8 a0, .int .u8 a1, .int .u8 a2, .int .u8 a3] 37)) = W0 at *
  have FA := awake11_any W0 hg0
  go_upto_region 4 with (go_at_call 11; refine FA.mono ?_; rintro e w1 ⟨rfl, b1⟩)
  clear FA
  rw [hk]
  have g1 := hg0.below b1
  have hb1 := hb0.trans (b1.mono (Nat.le_of_lt hlt))
  have hat1 : w1.heap[w.heap.size]? = _ := (b1.block _ hlt).trans hat
  have hlt1 : w.heap.size < w1.heap.size := Nat.lt_of_lt_of_le hlt b1.size
  clear hg0 hb0 hat hlt b1
  first | refine wp_region_lit ?_ | (refine wp_seq ?_; refine wp_region_lit ?_)
  refine wpList_readTo rfl (some 15) rfl (.int .u8 k) (by kernel_rfl) ?_
  refine wpList_callEx rfl (some 16) rfl 12 #[.int .u8 k] (by kernel_rfl) _ (tnew_tw k w1 w1 bk g1 (Below.refl _ _)) ?_
  rintro e w2 ⟨rfl, hT⟩
  refine ⟨_, rfl, ?_⟩
  refine wpList_readTo rfl (some 17) rfl (.int .u8 k) (by kernel_rfl) ?_
  refine wpList_readTo rfl (some 18) rfl (.int .i64 (IntKind.i64.wrap k)) (by kernel_rfl) ?_
  rw [show IntKind.i64.wrap k = k from IntWalk.i64_in _ ⟨by omega, by omega⟩]
  refine wpList_callEx rfl (some 19) rfl 13 #[.int .i64 k] (by kernel_rfl) _ (rs_new k bk hT) ?_
  rintro e w3 ⟨x0, rfl, hR0, hW, hb, hrow⟩
  refine ⟨_, rfl, ?_⟩
  refine wpList_allocTo rfl (some 8) rfl (.pointer (some ⟨w3.heap.size, 0, none⟩)) (.cells rtZ 29 (0, 0)) (by kernel_rfl) ?_
  refine wpList_readTo rfl (some 7) rfl (.pointer (some ⟨w1.heap.size, 0, none⟩)) (by kernel_rfl) ?_
  refine wpList_store_rowTo rfl 29 _ _ rfl rfl w3.heap.size _ rfl rfl 29 rtZ (heap_alloc_new w3 _) (by kernel_rfl) rfl (rcells_one _) ?_
  rw [setRow_rowT _ _ _ 29 rtZ (heap_alloc_new w3 _)]
  have hX := BX.birth hW rtZ
  clear hT hW hb hrow
  generalize rowT (w3.alloc _) w3.heap.size 29 x0.cells = v0 at *
  generalize w3.heap.size = X at *
  generalize newT k = s0 at *
  have ok := hX.ok
  obtain ⟨m, hm⟩ : ∃ m, w1.heap.size = m := ⟨_, rfl⟩
  rw [hm] at hX hlt1 ⊢
  go_upto_region 6 with (go_at_call 16; refine (hX.en true).mono ?_; rintro e v1 ⟨rfl, hX1⟩)
  clear hX
  first | refine wp_region_lit ?_ | (refine wp_seq ?_; refine wp_region_lit ?_)
  refine wpList_load_row rfl 29 _ rfl X rfl 29 _ (0, 0) _ hX1.at Tryd.underlying29 rfl (by kernel_rfl) ?_
  refine wpList_callEx rfl (some 23) rfl 17 #[rtv x0, .bool true] (by kernel_rfl) _ (rs_en hX1.bw hR0 true) ?_
  rintro e v3 ⟨x1, rfl, hR', hw', hb', hrow'⟩
  refine ⟨_, rfl, ?_⟩
  refine wpList_store_rowTo rfl 29 _ _ rfl rfl X _ rfl rfl 29 _ (hX1.past hb').at (by kernel_rfl) rfl (rcells_one _) ?_
  rw [setRow_rowT _ _ _ 29 _ (hX1.past hb').at]
  have hX2 := hX1.upd hw' hb' hrow'
  clear hw' hrow' hb'
  generalize rowT v3 X 29 x1.cells = v2 at *
  clear hX1 hR0 ok
  have hat2 : v2.heap[w.heap.size]? = _ := (hX2.below.block _ hlt1).trans hat1
  go_upto_region 7 with (fail)
  first | refine wp_region_lit ?_ | (refine wp_seq ?_; refine wp_region_lit ?_)
  refine wpList_load_row rfl 37 _ rfl w.heap.size rfl 37 _ (0, 0) _ hat2 Tryd.underlying37 rfl (by kernel_rfl) ?_
  clear hat1 hat2
  go_upto_region 8 with (fail)
  go_loopw [25] (fun i wr => ∃ (j : Nat) (s : TS) (x : RT), i = .int .i64 j ∧ j ≤ 4 ∧ Rl s x ∧ BX w1 m X s x (rwl s) wr) (fun i _ => 4 - (intOf i).toNat)
  case atStart => exact ⟨0, _, _, rfl, by decide, hR', hX2⟩
  case round =>
    clear hX2 hR'
    obtain ⟨v, rfl⟩ : ∃ v, v = wr := ⟨wr, rfl⟩
    obtain ⟨j, s, x, rfl, hj, hR, hX⟩ := hrel
    have ok := hX.ok
    rcases (by omega : j = 0 ∨ j = 1 ∨ j = 2 ∨ j = 3 ∨ j = 4) with rfl | rfl | rfl | rfl | rfl
    · go_upto_region 9 with (fail)
      first | refine wp_region_lit ?_ | (refine wp_seq ?_; refine wp_region_lit ?_)
      refine wpList_readTo rfl (some 27) rfl (.int .i64 0) (by kernel_rfl) ?_
      refine wpList_readTo rfl (some 28) rfl (.int .u8 a0) (by kernel_rfl) ?_
      go_upto_region 11 with (go_at_call 18; refine (hX.put 0 a0 (by decide) h0).mono ?_; rintro e v1 ⟨rfl, hX1⟩)
      first | refine wp_region_lit ?_ | (refine wp_seq ?_; refine wp_region_lit ?_)
      refine wpList_load_row rfl 29 _ rfl X rfl 29 _ (0, 0) _ hX1.at Tryd.underlying29 rfl (by kernel_rfl) ?_
      refine wpList_readTo rfl (some 35) rfl (.int .i64 0) (by kernel_rfl) ?_
      refine wpList_readTo rfl (some 36) rfl (.int .u8 a0) (by kernel_rfl) ?_
      refine wpList_readTo rfl (some 37) rfl (.int .i64 (IntKind.i64.wrap a0)) (by kernel_rfl) ?_
      rw [show IntKind.i64.wrap a0 = a0 from IntWalk.i64_in _ ⟨by omega, by omega⟩]
      refine wpList_callEx rfl (some 38) rfl 19 #[rtv x, .int .i64 0, .int .i64 a0] (by kernel_rfl) _ (rs_put hX1.bw hR ok 0 a0 (by decide) h0) ?_
      rintro e v3 ⟨x1, rfl, hR', hw', hb', hrow'⟩
      refine ⟨_, rfl, ?_⟩
      refine wpList_store_rowTo rfl 29 _ _ rfl rfl X _ rfl rfl 29 _ (hX1.past hb').at (by kernel_rfl) rfl (rcells_one _) ?_
      rw [setRow_rowT _ _ _ 29 _ (hX1.past hb').at]
      have hX2 := hX1.upd hw' hb' hrow'
      clear hw' hrow' hb'
      generalize rowT v3 X 29 x1.cells = v2 at *
      clear hX hX1 hR ok
      go_wp2
      go_roundw
      case rel => exact ⟨1, _, _, by go_num, by decide, hR', hX2⟩
      case measure => simp [intOf]
    · go_upto_region 9 with (fail)
      first | refine wp_region_lit ?_ | (refine wp_seq ?_; refine wp_region_lit ?_)
      refine wpList_readTo rfl (some 27) rfl (.int .i64 1) (by kernel_rfl) ?_
      refine wpList_readTo rfl (some 28) rfl (.int .u8 a1) (by kernel_rfl) ?_
      go_upto_region 11 with (go_at_call 18; refine (hX.put 1 a1 (by decide) h1).mono ?_; rintro e v1 ⟨rfl, hX1⟩)
      first | refine wp_region_lit ?_ | (refine wp_seq ?_; refine wp_region_lit ?_)
      refine wpList_load_row rfl 29 _ rfl X rfl 29 _ (0, 0) _ hX1.at Tryd.underlying29 rfl (by kernel_rfl) ?_
      refine wpList_readTo rfl (some 35) rfl (.int .i64 1) (by kernel_rfl) ?_
      refine wpList_readTo rfl (some 36) rfl (.int .u8 a1) (by kernel_rfl) ?_
      refine wpList_readTo rfl (some 37) rfl (.int .i64 (IntKind.i64.wrap a1)) (by kernel_rfl) ?_
      rw [show IntKind.i64.wrap a1 = a1 from IntWalk.i64_in _ ⟨by omega, by omega⟩]
      refine wpList_callEx rfl (some 38) rfl 19 #[rtv x, .int .i64 1, .int .i64 a1] (by kernel_rfl) _ (rs_put hX1.bw hR ok 1 a1 (by decide) h1) ?_
      rintro e v3 ⟨x1, rfl, hR', hw', hb', hrow'⟩
      refine ⟨_, rfl, ?_⟩
      refine wpList_store_rowTo rfl 29 _ _ rfl rfl X _ rfl rfl 29 _ (hX1.past hb').at (by kernel_rfl) rfl (rcells_one _) ?_
      rw [setRow_rowT _ _ _ 29 _ (hX1.past hb').at]
      have hX2 := hX1.upd hw' hb' hrow'
      clear hw' hrow' hb'
      generalize rowT v3 X 29 x1.cells = v2 at *
      clear hX hX1 hR ok
      go_wp2
      go_roundw
      case rel => exact ⟨2, _, _, by go_num, by decide, hR', hX2⟩
      case measure => simp [intOf]
    · go_upto_region 9 with (fail)
      first | refine wp_region_lit ?_ | (refine wp_seq ?_; refine wp_region_lit ?_)
      refine wpList_readTo rfl (some 27) rfl (.int .i64 2) (by kernel_rfl) ?_
      refine wpList_readTo rfl (some 28) rfl (.int .u8 a2) (by kernel_rfl) ?_
      go_upto_region 11 with (go_at_call 18; refine (hX.put 2 a2 (by decide) h2).mono ?_; rintro e v1 ⟨rfl, hX1⟩)
      first | refine wp_region_lit ?_ | (refine wp_seq ?_; refine wp_region_lit ?_)
      refine wpList_load_row rfl 29 _ rfl X rfl 29 _ (0, 0) _ hX1.at Tryd.underlying29 rfl (by kernel_rfl) ?_
      refine wpList_readTo rfl (some 35) rfl (.int .i64 2) (by kernel_rfl) ?_
      refine wpList_readTo rfl (some 36) rfl (.int .u8 a2) (by kernel_rfl) ?_
      refine wpList_readTo rfl (some 37) rfl (.int .i64 (IntKind.i64.wrap a2)) (by kernel_rfl) ?_
      rw [show IntKind.i64.wrap a2 = a2 from IntWalk.i64_in _ ⟨by omega, by omega⟩]
      refine wpList_callEx rfl (some 38) rfl 19 #[rtv x, .int .i64 2, .int .i64 a2] (by kernel_rfl) _ (rs_put hX1.bw hR ok 2 a2 (by decide) h2) ?_
      rintro e v3 ⟨x1, rfl, hR', hw', hb', hrow'⟩
      refine ⟨_, rfl, ?_⟩
      refine wpList_store_rowTo rfl 29 _ _ rfl rfl X _ rfl rfl 29 _ (hX1.past hb').at (by kernel_rfl) rfl (rcells_one _) ?_
      rw [setRow_rowT _ _ _ 29 _ (hX1.past hb').at]
      have hX2 := hX1.upd hw' hb' hrow'
      clear hw' hrow' hb'
      generalize rowT v3 X 29 x1.cells = v2 at *
      clear hX hX1 hR ok
      go_wp2
      go_roundw
      case rel => exact ⟨3, _, _, by go_num, by decide, hR', hX2⟩
      case measure => simp [intOf]
    · go_upto_region 9 with (fail)
      first | refine wp_region_lit ?_ | (refine wp_seq ?_; refine wp_region_lit ?_)
      refine wpList_readTo rfl (some 27) rfl (.int .i64 3) (by kernel_rfl) ?_
      refine wpList_readTo rfl (some 28) rfl (.int .u8 a3) (by kernel_rfl) ?_
      go_upto_region 11 with (go_at_call 18; refine (hX.put 3 a3 (by decide) h3).mono ?_; rintro e v1 ⟨rfl, hX1⟩)
      first | refine wp_region_lit ?_ | (refine wp_seq ?_; refine wp_region_lit ?_)
      refine wpList_load_row rfl 29 _ rfl X rfl 29 _ (0, 0) _ hX1.at Tryd.underlying29 rfl (by kernel_rfl) ?_
      refine wpList_readTo rfl (some 35) rfl (.int .i64 3) (by kernel_rfl) ?_
      refine wpList_readTo rfl (some 36) rfl (.int .u8 a3) (by kernel_rfl) ?_
      refine wpList_readTo rfl (some 37) rfl (.int .i64 (IntKind.i64.wrap a3)) (by kernel_rfl) ?_
      rw [show IntKind.i64.wrap a3 = a3 from IntWalk.i64_in _ ⟨by omega, by omega⟩]
      refine wpList_callEx rfl (some 38) rfl 19 #[rtv x, .int .i64 3, .int .i64 a3] (by kernel_rfl) _ (rs_put hX1.bw hR ok 3 a3 (by decide) h3) ?_
      rintro e v3 ⟨x1, rfl, hR', hw', hb', hrow'⟩
      refine ⟨_, rfl, ?_⟩
      refine wpList_store_rowTo rfl 29 _ _ rfl rfl X _ rfl rfl 29 _ (hX1.past hb').at (by kernel_rfl) rfl (rcells_one _) ?_
      rw [setRow_rowT _ _ _ 29 _ (hX1.past hb').at]
      have hX2 := hX1.upd hw' hb' hrow'
      clear hw' hrow' hb'
      generalize rowT v3 X 29 x1.cells = v2 at *
      clear hX hX1 hR ok
      go_wp2
      go_roundw
      case rel => exact ⟨4, _, _, by go_num, by decide, hR', hX2⟩
      case measure => simp [intOf]
    · rw [show ((4 : Nat) : Int) = 4 from rfl]
      go_upto_region 14 with (fail)
      go_loopw [43] (fun i wr => ∃ (j : Nat) (s : TS) (x : RT), i = .int .u8 j ∧ j ≤ N ∧ Rl s x ∧ BX w1 m X s x (rwl s) wr) (fun i _ => 8 - (intOf i).toNat)
      case atStart => exact ⟨0, _, _, rfl, by omega, hR, hX⟩
      case round =>
        clear hX hR ok
        clear v
        obtain ⟨v, rfl⟩ : ∃ v, v = wr := ⟨wr, rfl⟩
        obtain ⟨j, s, x, rfl, hj, hR, hX⟩ := hrel
        have ok := hX.ok
        by_cases t1 : (j : Int) < N
        · go_upto_region 16 with (go_at_call 20; refine hX.qua.mono ?_; rintro e v1 ⟨rfl, hX1⟩)
          first | refine wp_region_lit ?_ | (refine wp_seq ?_; refine wp_region_lit ?_)
          refine wpList_load_row rfl 29 _ rfl X rfl 29 _ (0, 0) _ hX1.at Tryd.underlying29 rfl (by kernel_rfl) ?_
          refine wpList_callEx rfl (some 48) rfl 21 #[rtv x] (by kernel_rfl) _ (rs_qua hX1.bw hR ok) ?_
          rintro e v3 ⟨x1, rfl, hR', hw', hb', hrow'⟩
          refine ⟨_, rfl, ?_⟩
          refine wpList_store_rowTo rfl 29 _ _ rfl rfl X _ rfl rfl 29 _ (hX1.past hb').at (by kernel_rfl) rfl (rcells_one _) ?_
          rw [setRow_rowT _ _ _ 29 _ (hX1.past hb').at]
          have hX2 := hX1.upd hw' hb' hrow'
          clear hw' hrow' hb'
          generalize rowT v3 X 29 x1.cells = v2 at *
          clear hX hX1 hR ok
          go_wp2
          go_roundw
          case rel => exact ⟨j + 1, _, _, by go_num, by omega, hR', hX2⟩
          case measure => simp [intOf]; omega
        · go_upto_region 19 with (fail)
          go_loopw [50] (fun i wr => ∃ (j : Nat) (s : TS) (x : RT), i = .int .i64 j ∧ j ≤ 2000 ∧ Rl s x ∧ BX w1 m X s x (rwl s) wr) (fun i _ => 2000 - (intOf i).toNat)
          case atStart => exact ⟨0, _, _, rfl, by decide, hR, hX⟩
          case round =>
            clear hX hR ok hj t1
            clear v
            obtain ⟨v, rfl⟩ : ∃ v, v = wr := ⟨wr, rfl⟩
            obtain ⟨j, s, x, rfl, hj, hR, hX⟩ := hrel
            have ok := hX.ok
            by_cases t1 : (j : Int) < 2000
            · go_upto_region 21 with (go_at_call 22; refine hX.clock.mono ?_; rintro e v1 ⟨rfl, hX1⟩)
              first | refine wp_region_lit ?_ | (refine wp_seq ?_; refine wp_region_lit ?_)
              refine wpList_load_row rfl 29 _ rfl X rfl 29 _ (0, 0) _ hX1.at Tryd.underlying29 rfl (by kernel_rfl) ?_
              refine wpList_callEx rfl (some 55) rfl 23 #[rtv x] (by kernel_rfl) _ (rs_clock hX1.bw hR ok) ?_
              rintro e v3 ⟨x1, rfl, hR', hw', hb', hrow'⟩
              refine ⟨_, rfl, ?_⟩
              refine wpList_store_rowTo rfl 29 _ _ rfl rfl X _ rfl rfl 29 _ (hX1.past hb').at (by kernel_rfl) rfl (rcells_one _) ?_
              rw [setRow_rowT _ _ _ 29 _ (hX1.past hb').at]
              have hX2 := hX1.upd hw' hb' hrow'
              clear hw' hrow' hb'
              generalize rowT v3 X 29 x1.cells = v2 at *
              clear hX hX1 hR ok
              go_upto_region 22 with (fail)
              first | refine wp_region_lit ?_ | (refine wp_seq ?_; refine wp_region_lit ?_)
              refine wpList_readTo rfl (some 56) rfl (.pointer (some ⟨m, 0, none⟩)) (by kernel_rfl) ?_
              refine wpList_load_row rfl 29 _ rfl X rfl 29 _ (0, 0) _ hX2.at Tryd.underlying29 rfl (by kernel_rfl) ?_
              refine wpList_callEx rfl (some 58) rfl 15 #[.pointer (some ⟨m, 0, none⟩), rtv x1] (by kernel_rfl) _ (like11_any hX2.bw hR') ?_
              rintro e v4 ⟨rfl, hb4⟩
              refine ⟨_, rfl, ?_⟩
              have hX4 := hX2.past hb4
              clear hX2 hb4
              go_wp2
              go_roundw
              case rel => exact ⟨j + 1, _, _, by go_num, by omega, hR', hX4⟩
              case measure => simp [intOf]; omega
            · go_wp2
              go_ret
              have hB := hX.below
              rw [← hm] at hB hlt1
              exact ⟨rfl, hb1.trans (hB.mono hb1.size)⟩

end Go.Proofs.YtgnafnjhbdefaaaDoor
