/- The contract of the law package's few, where the writes are left as they are. No law is claimed here. -/
import Derived.Test.YtkgccoghdalniaaScrS
namespace Go.Proofs.Ytkgccoghdalniaa
open Go.RowKit

set_option maxRecDepth 100000 in
set_option maxHeartbeats 8000000 in
theorem few_raw (A : Option Addr) (n c : Nat) (S : Nat → Prop) (ws : List Wm) (w : World) (hr : RdX (shW .u8 .u32) w S A n c ws) (hS : ∀ b, S b → b < w.heap.size) (_hn : n ≤ 9223372036854775807) (hp : Hid (∀ x ∈ ws, 0 ≤ x.pl ∧ x.pl < 4294967296))
    (hd : Hid (∀ x ∈ ws, x.data.length ≤ 9223372036854775807)) :
    Calls Try.prog 12 #[.slice A n c, .bool false] w (RetFew w (fewN false ws)) := by
  have HL := Lib.hid hr.len
  obtain ⟨i0, hi, hz0, hz1, hz2⟩ := info_parts Try.infoWt
  obtain ⟨j0, hj, hy0, hy1, hy2⟩ := info_parts Try.inforWt
  go_enter Try.func12, Try.ntmps12
  go_wp2
  go_loopw [6, 7, 12] (fun v v2 i wr => ∃ (k : Nat) (A1 : Option Addr) (n1 c1 : Nat) (rs1 : List RawW) (A2 : Option Addr) (c2 : Nat) (rs2 : List RawW), k ≤ n ∧ k ≤ 8 ∧ n1 ≤ k ∧ i = .int .i64 k ∧ v = .slice A1 n1 c1 ∧ v2 = .slice A2 n1 c2 ∧
      Two wr w.heap.size A1 n1 c1 rs1 A2 n1 c2 rs2 (fewN false (ws.take k)) ∧ Below w.heap.size w wr)
    (fun _ _ i _ => n - (intOf i).toNat)
  case atStart => exact ⟨0, none, 0, 0, [], none, 0, [], Nat.zero_le _, Nat.zero_le _, Nat.zero_le _, rfl, rfl, rfl, ⟨OwnX.empty _ _ _ _ _, OwnX.empty _ _ _ _ _, fun k h => by simp at h⟩, Below.refl _ _⟩
  case round =>
    obtain ⟨k, A1, n1, c1, rs1, A2, c2, rs2, hk, hk8, hnk, rfl, rfl, rfl, htw, hb⟩ := hrel
    have hsz := hb.size
    by_cases hlt : k < n
    · have hkx : k < ws.length := by rw [HL.out]; exact hlt
      obtain ⟨b, off, A3, n3, c3, rfl, hSb, hc0, hc1, hc2, hrd⟩ := rdW_at (hr.keep (Kp.below hb hS) (fun _ h => h)) k hkx
      have hpx := hp.out ws[k] (List.getElem_mem hkx)
      have hdx := hd.out ws[k] (List.getElem_mem hkx)
      by_cases h8 : k < 8
      · have HT := Lib.hid (fewN_snoc false ws k hkx h8)
        have hl3 := hrd.len
        generalize ws[k] = x at *
        obtain ⟨xs, xa, xd⟩ := x
        simp only at hc0 hc1 hpx hdx hrd hl3
        obtain ⟨hp0, hp1⟩ := hpx
        have hxs := xs.toNat_lt
        have hn3 : n3 ≤ 9223372036854775807 := by omega
        clear hl3 hdx
        have r3 := (hrd.rd hS).alloc hsz (.cells #[.int .u8 (xs.toNat : Int), .int .u32 xa, .slice A3 n3 c3] 44)
        have t8 : decide ((8 : Int) ≤ k) = false := by simp; omega
        go_wp2_with fail
        refine (cut_any A3 n3 c3 w.heap.size xd 60 _ r3 (by simp; omega) hn3 (by omega) (by omega)).mono ?_
        rintro e w1 ⟨A4, n4, c4, rfl, ho4, hb4⟩
        have hb4' : Below (wr.heap.size + 1) (wr.alloc (.cells #[.int .u8 (xs.toNat : Int), .int .u32 xa, .slice A3 n3 c3] 44)) w1 := hb4.mono (by simp)
        have f0 : ∀ i, w1.frozen? ⟨wr.heap.size, i, none⟩ = false := fun i => (hb4'.frozen (p := ⟨wr.heap.size, i, none⟩) (by show wr.heap.size < _; omega)).trans (frozen_new wr _ _ i)
        have f00 := f0 0
        have f01 := f0 1
        have f02 := f0 2
        have d0 : w1.cell? ⟨wr.heap.size, 0, none⟩ = some (.int .u8 (xs.toNat : Int)) := box_cell hb4' 0
        have d1 : w1.cell? ⟨wr.heap.size, 1, none⟩ = some (.int .u32 xa) := box_cell hb4' 1
        have d2 : w1.cell? ⟨wr.heap.size, 2, none⟩ = some (.slice A3 n3 c3) := box_cell hb4' 2
        have hn4 : n4 ≤ 60 := by have := ho4.len; simp at this; omega
        clear f0
        have hlt1 : wr.heap.size < w1.heap.size := by have := hb4'.size; simp at this; omega
        have oL1 : Off A1 wr.heap.size := htw.one.off (Nat.le_refl _)
        have oL2 : Off A2 wr.heap.size := htw.two.off (Nat.le_refl _)
        have hof1 : ∀ b, wr.heap.size ≤ b → Off A1 b := fun b h => htw.one.off h
        have hof2 : ∀ b, wr.heap.size ≤ b → Off A2 b := fun b h => htw.two.off h
        have kpA : Kp (fun b => b < wr.heap.size) wr w1 := (Kp.alloc (fun b h => h) _).trans (Kp.below hb4' (fun b h => by omega))
        have bel1 : Below w.heap.size w w1 := (hb.alloc hsz _).trans (hb4.mono (by simp; omega))
        have hne : ∀ i j, i ≠ j → (⟨wr.heap.size, i, none⟩ : Addr) ≠ ⟨wr.heap.size, j, none⟩ := fun i j h e => by injection e with e1 e2; exact h e2
        have ho4s : (wr.alloc (.cells #[.int .u8 (xs.toNat : Int), .int .u32 xa, .slice A3 n3 c3] 44)).heap.size = wr.heap.size + 1 := by simp
        rw [ho4s] at ho4
        rw [show (60 : Int).toNat = 60 from rfl] at ho4
        clear ho4s hb4 hb4'
        go_upto_region 13 with (fail)
        have HFX : Hid (fixW false k ⟨xs, xa, xd⟩ = ⟨xs, xa, xd.take 60⟩) := by
          show _ = _; unfold fixW; rw [if_neg (by decide)]
        have HRF : Hid (refW ⟨xs, xa, xd.take 60⟩ = ⟨xs, (if (100000 : Int) < xa then 100000 else xa), xd.take 60⟩) := by
          show _ = _; unfold refW; simp only; congr 1; split <;> omega
        have W0 : (w1.setCell ⟨wr.heap.size, 2, none⟩ (.slice A4 n4 c4)).cell? ⟨wr.heap.size, 0, none⟩ = some (.int .u8 (xs.toNat : Int)) := (World.cell?_setCell_other _ _ _ _ (hne _ _ (by omega))).trans d0
        have W1 : (w1.setCell ⟨wr.heap.size, 2, none⟩ (.slice A4 n4 c4)).cell? ⟨wr.heap.size, 1, none⟩ = some (.int .u32 xa) := (World.cell?_setCell_other _ _ _ _ (hne _ _ (by omega))).trans d1
        have W2 : (w1.setCell ⟨wr.heap.size, 2, none⟩ (.slice A4 n4 c4)).cell? ⟨wr.heap.size, 2, none⟩ = some (.slice A4 n4 c4) := World.cell?_setCell_same _ _ _ d2
        have tw : Two (w1.setCell ⟨wr.heap.size, 2, none⟩ (.slice A4 n4 c4)) w.heap.size A1 n1 c1 rs1 A2 n1 c2 rs2 (fewN false (ws.take k)) := htw.keep (kpA.trans (Kp.setCell (fun b h => by show b ≠ wr.heap.size; have : b < wr.heap.size := h; omega) _)) (by simp; omega)
        have rd5 : Rdp bv (w1.setCell ⟨wr.heap.size, 2, none⟩ (.slice A4 n4 c4)) (SF w.heap.size (w1.setCell ⟨wr.heap.size, 2, none⟩ (.slice A4 n4 c4)) A1 A2) A4 n4 c4 (xd.take 60) := ho4.rdp.keep (Kp.setCell (fun b h => by show b ≠ wr.heap.size; have := h.1; omega) _) (fun b h => ⟨by omega, by simp; omega, hof1 b (by omega), hof2 b (by omega)⟩)
        have belW : Below w.heap.size w (w1.setCell ⟨wr.heap.size, 2, none⟩ (.slice A4 n4 c4)) := bel1.setCell hsz _
        have hsW : wr.heap.size + 1 ≤ (w1.setCell ⟨wr.heap.size, 2, none⟩ (.slice A4 n4 c4)).heap.size := by simp; omega
        clear f00 f01 f02 d0 d1 d2 hne 
        generalize (w1.setCell ⟨wr.heap.size, 2, none⟩ (.slice A4 n4 c4)) = w2 at *
        have hsdl : (xs.toNat : Int) < 256 := by omega
        go_wp2_with (first
          | (at_builtin
             refine wpList_push (shW .u8 .u32) _ rfl (.tmp 40) (.tmp 42) 37 rfl w.heap.size 44 i0 _ 32 Try.underlying37 hi hz0 hz1 hz2 rfl _ A1 n1 c1 rs1 _ rfl tw.one _ _ _ _ _ ⟨xs, xa, A4, n4, c4⟩ ⟨xs, xa, xd.take 60⟩ rfl rfl rfl ⟨rfl, rfl, rd5⟩ (fun b h => ⟨h.2.1, h.2.2.1⟩) (by simp only [maxLen]; omega) (by omega) (by omega) ?_
             intro g6 c6 w6 hown6 hg6 hat6 hlt6
             have hL6 : w6.heap[wr.heap.size]? = w2.heap[wr.heap.size]? := hg6.block _ (by omega) oL1
             have X0 : w6.cell? ⟨wr.heap.size, 0, none⟩ = some (.int .u8 (xs.toNat : Int)) := (World.cell?_of_block (a := ⟨wr.heap.size, 0, none⟩) hL6).trans W0
             have X1 : w6.cell? ⟨wr.heap.size, 1, none⟩ = some (.int .u32 xa) := (World.cell?_of_block (a := ⟨wr.heap.size, 1, none⟩) hL6).trans W1
             have X2 : w6.cell? ⟨wr.heap.size, 2, none⟩ = some (.slice A4 n4 c4) := (World.cell?_of_block (a := ⟨wr.heap.size, 2, none⟩) hL6).trans W2
             have hz6 := hg6.size
             have sub6 : ∀ b, SF w.heap.size w2 A1 A2 b → SF w.heap.size w6 (some ⟨g6, 0, none⟩) A2 b := fun b h => ⟨h.1, by have := h.2.1; omega, off_pushed hat6 (by have := h.2.1; omega) h.2.2.1, h.2.2.2⟩
             have kp6 : Kp (SF w.heap.size w2 A1 A2) w2 w6 := Kp.grown hg6 (fun b h => ⟨h.2.1, h.2.2.1⟩)
             have two6 : OwnX (shW .i64 .i64) w6 w.heap.size 69 (SF w.heap.size w6 (some ⟨g6, 0, none⟩) A2) A2 n1 c2 rs2 ((fewN false (ws.take k)).map refW) := tw.two.keep (fun j hj' => hg6.block j (tw.two.lt j hj').2 (fun e => tw.sep j hj' e)) kp6 sub6
             have one6 := hown6.sub sub6
             have rd6 := rd5.keep kp6 sub6
             have off6 : ∀ j, A2.map (·.block) = some j → Off (some ⟨g6, 0, none⟩) j := fun j hj' => off_pushed hat6 (by have := (tw.two.lt j hj').2; omega) (tw.sep j hj')
             have bel6 := belW.grown hg6 (by omega) (fun j hj' => (tw.one.lt j hj').1)
             clear W0 W1 W2 hL6)
          | (at_builtin
             refine wpList_push (shW .i64 .i64) _ rfl (.tmp 44) (.tmp 55) 39 rfl w.heap.size 69 j0 _ 40 Try.underlying39 hj hy0 hy1 hy2 rfl _ A2 n1 c2 rs2 _ rfl two6 _ _ _ _ _ ⟨xs, (if (100000 : Int) < xa then 100000 else xa), A4, n4, c4⟩ ⟨xs, (if (100000 : Int) < xa then 100000 else xa), xd.take 60⟩ rfl rfl rfl ⟨rfl, rfl, rd6⟩ (fun b h => ⟨h.2.1, h.2.2.2⟩) (by simp only [maxLen]; omega) (by omega) (by omega) ?_
             intro g7 c7 w7 hown7 hg7 hat7 hlt7))
        have hz7 := hg7.size
        have sub7 : ∀ b, SF w.heap.size w6 (some ⟨g6, 0, none⟩) A2 b → SF w.heap.size w7 (some ⟨g6, 0, none⟩) (some ⟨g7, 0, none⟩) b := fun b h => ⟨h.1, by have := h.2.1; omega, h.2.2.1, off_pushed hat7 (by have := h.2.1; omega) h.2.2.2⟩
        have g6l : g6 < w6.heap.size := hlt6
        have off6' : Off A2 g6 := fun e => off6 g6 e.symm rfl
        have tw7 : Two w7 w.heap.size (some ⟨g6, 0, none⟩) (n1 + 1) c6 (rs1 ++ [⟨xs, xa, A4, n4, c4⟩]) (some ⟨g7, 0, none⟩) (n1 + 1) c7 (rs2 ++ [⟨xs, (if (100000 : Int) < xa then 100000 else xa), A4, n4, c4⟩]) (fewN false (ws.take k) ++ [⟨xs, xa, xd.take 60⟩]) :=
          ⟨one6.keep (fun j hj' => by
              have : j = g6 := by simpa using hj'.symm
              subst this
              exact hg7.block j g6l off6') (Kp.grown hg7 (fun b h => ⟨h.2.1, h.2.2.2⟩)) sub7,
            by rw [List.map_append, List.map_cons, List.map_nil, HRF.out]; exact hown7.sub sub7,
            fun j hj' => by
              have : j = g7 := by simpa using hj'.symm
              subst this
              rcases hat7 with e | e
              · exact off6 j e
              · rw [off_some]; omega⟩
        go_roundw
        case rel =>
          refine ⟨k + 1, _, n1 + 1, c6, rs1 ++ [⟨xs, xa, A4, n4, c4⟩], _, c7, rs2 ++ [⟨xs, (if (100000 : Int) < xa then 100000 else xa), A4, n4, c4⟩], by omega, by omega, by omega, by go_num, rfl, rfl, ?_, bel6.grown hg7 (by omega) (fun j hj' => (two6.lt j hj').1)⟩
          rw [HT.out, HFX.out]
          exact tw7
        case measure => simp [intOf]; omega
      · have HE := Lib.hid (fewN_stop false ws k (by omega))
        have t8 : decide ((8 : Int) ≤ k) = true := by simp; omega
        generalize ws[k] = x at *
        obtain ⟨xs, xa, xd⟩ := x
        simp only at hc0 hc1
        go_wp2
        go_ret2
        rw [HE.out] at htw
        exact ⟨_, _, _, _, _, _, _, rfl, htw.after ((Below.refl _ _).alloc (Nat.le_refl _) _) (Nat.le_refl _), hb.alloc hsz _⟩
    · go_wp2
      go_ret2
      rw [List.take_of_length_le (by rw [HL.out]; omega)] at htw
      exact ⟨_, _, _, _, _, _, _, rfl, htw, hb⟩

end Go.Proofs.Ytkgccoghdalniaa
