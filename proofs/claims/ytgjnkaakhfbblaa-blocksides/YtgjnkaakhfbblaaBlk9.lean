/- Contract of the document's Parse (kotatsuref05). No law is claimed here. -/
import Derived.Test.YtgjnkaakhfbblaaBlk8
import Derived.Deep.DeepCutAuto
namespace Go.Proofs.Ytgjnkaakhfbblaa
open Go.RowKit

/-- Join of one slice, the row of which was laid some time ago -/
theorem join_one (w : World) (g : Nat) (A1 : Option Addr) (n1 c1 : Nat) (xs : List UInt8) (hr : RdE sv w (some ⟨g, 0, none⟩) 1 1 [(A1, n1, c1)]) (h1 : RdE bv w A1 n1 c1 xs) (ht : n1 ≤ 1099511627776) :
    Calls Try.prog 16 #[.slice (some ⟨g, 0, none⟩) 1 1] w (RetL bv 5 w xs) := by
  have := join_any _ 1 1 w.heap.size [(A1, n1, c1)] [xs] w hr ⟨rfl, fun j s ys hs hy => by
      match j, hs, hy with
      | 0, hs, hy => simp at hs hy; subst hs; subst hy; exact h1⟩ (Nat.le_refl _) (by omega) (by simp [Rd.len h1]; omega)
  simpa using this

theorem OE.drewN {ρ α : Type} {T : Shape ρ α} {w : World} {base : Nat} {e : TypeId} {Aw : Option Addr} {n c : Nat} {rs : List ρ} {xs : List α} (h : OE T w base e Aw n c rs xs) {k : Nat} : OE T (w.drewN k) base e Aw n c rs xs := OE.below h (Still.below ⟨k, rfl⟩ _)
theorem RdE.svOne {w : World} {e : TypeId} {fr : Nat × Nat} {A : Option Addr} {n c g : Nat} (hg : g = w.heap.size) : RdE sv (w.alloc (.cells #[.slice A n c] e fr)) (some ⟨g, 0, none⟩) 1 1 [(A, n, c)] := RdE.made (f := sv) rfl hg rfl
theorem sizeN_zero (h h' : List UInt8) : sizeN 0 h = sizeN 0 h' := rfl

set_option maxRecDepth 100000 in
set_option maxHeartbeats 8000000 in
theorem parse5_any (A : Option Addr) (n c B : Nat) (xs : List UInt8) (w : World) (hr : Rd bv w B A n c xs) (hB : B ≤ w.heap.size) (hn : n ≤ 1099511627776) :
    Calls Try.prog 19 #[.slice A n c] w (RetB w (parseN xs)) := by
  have HL := Lib.hid hr.len
  obtain ⟨i0, hi, hz0, hz1, hz2⟩ := info_parts Try.infoRBt
  have HP0 : Hid (ParTo xs [] (parseN xs)) := rfl
  generalize parseN xs = ans at *
  go_enter Try.func19, Try.ntmps19
  go_wp2
  go_loopw [3, 4] (fun v i wr => ∃ (l : List Bm) (Aw : Option Addr) (nw cw : Nat) (rsw : List RawB) (z : Nat), v = .slice Aw nw cw ∧ i = .int .i64 z ∧ nw ≤ 512 ∧ z ≤ n ∧ OE shB wr w.heap.size 60 Aw nw cw rsw l ∧ Hid (z = blkSz l) ∧ Hid (fitsB l nw = true) ∧ Hid (ParTo xs l ans) ∧ Hid (∀ x ∈ l, x.data.length ≤ 100000) ∧ BlE w wr)
    (fun v _ _ => 512 - lenV v)
  case atStart => exact ⟨[], none, 0, 0, [], 0, rfl, rfl, by omega, by omega, OwnX.empty shB w w.heap.size 60 _, rfl, rfl, HP0, (fun x hx => by simp at hx), BlE.refl _⟩
  case round =>
    obtain ⟨l, Aw, nw, cw, rsw, z, rfl, rfl, hnw, hz, hO, HZ, HF, HP, HD, hb⟩ := hrel
    have hsz := BlE.sz hb
    have hll := Lib.hid (OwnX.len hO)
    by_cases h512 : nw < 512
    · have hs := sizeN_lt nw (ahead l nw)
      have hq := kindN_lt nw
      have HSt : Hid (parStep xs l = if z + 1 + sizeN nw (ahead l nw) ≤ n ∧ (xs.getD z 0).toNat = kindN nw then some ⟨xs.getD z 0, (xs.drop (z + 1)).take (sizeN nw (ahead l nw))⟩ else none) := by
        show _ = _
        unfold parStep
        rw [hll.out, HL.out, ← HZ.out]
        by_cases hc : z + 1 + sizeN nw (ahead l nw) ≤ n ∧ (xs.getD z 0).toNat = kindN nw
        · rw [if_pos hc, if_pos ⟨h512, hc⟩]
        · rw [if_neg hc, if_neg (fun h => hc h.2)]
      have h5 : decide ((nw : Int) < 512) = true := decide_eq_true (by omega)
      by_cases hend : z < n
      · obtain ⟨b, off, rfl⟩ := hr.some_of (by omega)
        have hzx : z < xs.length := by rw [HL.out]; omega
        have hb0 := (rd_cell hr z hzx).1
        have hc0 := (Below.cell hb (p := ⟨b, off + z, none⟩) (Nat.lt_of_lt_of_le hb0 hB)).trans (rd_cell hr z hzx).2
        rw [getD_get _ _ _ hzx] at HSt
        generalize hxx : xs[z] = x at *
        unfold bv at hc0
        have h6 : decide ((z : Int) < n) = true := decide_eq_true (by omega)
        have hzn : (z : Int) < n := by omega
        have HK := fun w => kind5_any nw w (by omega)
        have HBy := fun A n c B w h h2 => bytes5_any nw A n c B (ahead l nw) w h (by omega) h2
        generalize kindN nw = q at *
        by_cases hk : x.toNat = q
        · have t1 : ((x.toNat : Int) == (q : Int)) = true := by rw [hk]; simp
          have t1' : ((q : Int) == (q : Int)) = true := by simp
          subst hk
          go_wp2
          go_quiet (first | (go_at_call 29; exact quiet_still (HK _)))
          rename_i nq
          have hOq := OE.drewN hO (k := nq)
          have hbq := BlE.drewN hb (k := nq)
          have hcq : (wr.drewN nq).cell? ⟨b, off + z, none⟩ = some (.int .u8 (x.toNat : Int)) := hc0
          clear hO hb hc0 hsz
          generalize wr.drewN nq = W at *
          have hsz := BlE.sz hbq
          have hsp : 0 ≤ sizeN nw (ahead l nw) := Nat.zero_le _
          go_upto_if 28 with fail
          go_cut [5] (fun v wx => ∃ (A2 : Option Addr) (n2 c2 : Nat), v = .slice A2 n2 c2 ∧ wx = W ∧ Hid (Calls Try.prog 30 #[.int .i64 (nw : Int), .slice A2 n2 c2] W fun e w' => e = .returned (.int .i64 (sizeN nw (ahead l nw) : Int)) ∧ Still W w'))
          case first =>
            by_cases hz0' : nw = 0
            · have hg : decide ((nw : Int) > 0) = false := decide_eq_false (by omega)
              go_wp2
              go_meet
              case rel =>
                refine ⟨none, 0, 0, rfl, rfl, ?_⟩
                show Calls _ _ _ _ _
                have h1 := bytes5_any nw none 0 0 0 [] W Rd.nil (by omega) (by omega) (by omega)
                subst hz0'
                exact h1
            · have hg : decide ((nw : Int) > 0) = true := decide_eq_true (by omega)
              have hkl : nw - 1 < l.length := by rw [hll.out]; omega
              obtain ⟨b2, off2, A3, n3, c3, rfl, _, hd0, hd1, hrd⟩ := rdB_at (OwnX.rd hOq (S' := (· < W.heap.size)) (fun b h => h.1) (fun b h => (OwnX.lt hOq b h).2)) (nw - 1) hkl
              have ea : (l[nw - 1]'hkl).data = ahead l nw := by
                unfold ahead; rw [List.getD_eq_getElem?_getD, List.getElem?_eq_getElem hkl]; exact rfl
              have hbig := HD.out _ (List.getElem_mem hkl)
              rw [ea] at hrd hbig
              have hto := told_of_fits (l := l) (by rw [hll.out]; exact HF.out)
              have hl3 := hrd.len
              have HC := HBy _ _ _ _ W hrd.toRd (fun h1 h2 => by have := hto (by rw [hll.out]; exact h1) (by rw [hll.out]; exact h2); rw [hll.out] at this; omega) (by omega)
              have hc' : W.cell? ⟨b2, off2 + (nw - 1) * 2 + 1, none⟩ = some (.slice A3 n3 c3) := hd1
              have hi1 : ((nw : Int) - 1) < nw := by omega
              have hi0 : (0 : Int) ≤ (nw : Int) - 1 := by omega
              have ht3 : ((nw : Int) - 1).toNat = nw - 1 := by omega
              clear hto hl3 hbig ea hrd hd0
              go_wp2
              go_meet
              case rel => exact ⟨A3, n3, c3, rfl, rfl, HC⟩
          case rest =>
            obtain ⟨A2, n2, c2, rfl, rfl, HC⟩ := hcut
            generalize sizeN nw (ahead l nw) = s at *
            clear HBy HK t1 t1' hsp h5 h6
            by_cases hfit : z + 1 + s ≤ n
            · have HSs := HSt.out
              rw [if_pos ⟨hfit, trivial⟩] at HSs
              have hcap := hr.cap
              have hlt : ((xs.drop (z + 1)).take s).length = s := by rw [List.length_take, List.length_drop, HL.out]; omega
              have HZ2 : Hid (z + 1 + s = blkSz (l ++ [⟨x, (xs.drop (z + 1)).take s⟩])) := by show _ = _; rw [blkSz_app, ← HZ.out]; simp only [hlt]; omega
              have HF2 : Hid (fitsB (l ++ [⟨x, (xs.drop (z + 1)).take s⟩]) (nw + 1) = true) := by
                have h1 := parStep_fits HSs (by rw [hll.out]; exact HF.out)
                rw [List.length_append, hll.out] at h1; exact h1
              have HP2 : Hid (ParTo xs (l ++ [⟨x, (xs.drop (z + 1)).take s⟩]) ans) := HP.out.go HSs
              have HD2 : Hid (∀ y ∈ l ++ [(⟨x, (xs.drop (z + 1)).take s⟩ : Bm)], y.data.length ≤ 100000) := fun y hy => by
                rcases List.mem_append.1 hy with h1 | h1
                · exact HD.out y h1
                · rw [List.mem_singleton.1 h1]; simp only [hlt]; omega
              have hif : ¬ ((s : Int) > (n : Int) - z - 1) := by omega
              have b1 : IntKind.i64.wrap ((z : Int) + 1) = (z : Int) + 1 := IntWalk.i64_in _ (by omega)
              have b2 : IntKind.i64.wrap ((z : Int) + 1 + s) = (z : Int) + 1 + s := IntWalk.i64_in _ (by omega)
              have b3 : (0 : Int) ≤ (z : Int) + 1 := by omega
              have b4 : (z : Int) + 1 ≤ (z : Int) + 1 + s := by omega
              have b5 : (z : Int) + 1 + s ≤ c := by omega
              have b6 : ((z : Int) + 1).toNat = z + 1 := by omega
              have b7 : ((z : Int) + 1 + s).toNat = z + 1 + s := by omega
              have b8 : z + 1 ≤ z + 1 + s := by omega
              have b9 : z + 1 + s ≤ c := by omega
              have b10 : z + 1 + s - (z + 1) = s := by omega
              have b11 : (0 : Int) ≤ (z : Int) + 1 + s := by omega
              have hXb : b < w.heap.size := by omega
              have hHx : Has wc b (off + z) (.int .u8 (x.toNat : Int)) := ⟨by omega, hcq⟩
              have hXo : some b ≠ Aw.map (·.block) := fun e => by have := (OwnX.lt hOq b e.symm).1; omega
              have rX := (hr.belowLe hbq hB)
              clear HSs hlt HSt HZ HF HP HD
              by_cases hzc : c = z + 1
              · have rS0 : RdE bv wc (some ⟨b, off, none⟩) s 0 ((xs.drop (z + 1)).take s) := by
                  obtain rfl : s = 0 := by omega
                  exact Rd.nil
                generalize (xs.drop (z + 1)).take s = xd at *
                obtain rfl : s = 0 := by omega
                subst hzc
                clear rX b2 b4 b5 b7 b8 b9 b10 b11
                have b5 : (z : Int) + 1 ≤ ((z + 1 : Nat) : Int) := by omega
                have b12 : z + 1 - (z + 1) = 0 := by omega
                go_wp2_with (go_at_call 30; refine HC.out.mono ?_; rintro e w' ⟨rfl, q', rfl⟩)
                have hO6 := OE.drewN hOq (k := q')
                have hB6 := BlE.drewN hbq (k := q')
                have rS := RdE.drewN rS0 (k := q')
                have hX0 := Has.drewN hHx (k := q')
                clear hOq hbq rS0 hHx hcq HC hsz
                generalize wc.drewN q' = W at *
                have hsz := BlE.sz hB6
                have hlo := OE.lo hO6
                have hX0c := hX0.cell
                obtain ⟨g7, c7', A5, n5, c5, _⟩ : ∃ (g c : Nat) (A5 : Option Addr) (n5 c5 : Nat), True := ⟨0, 0, none, 0, 0, trivial⟩
                go_region_held3 (fun w' => w'.cell? ⟨b, off + z, none⟩ = some (.int .u8 (x.toNat : Int)))
                  ((refine Has.cell ?_; (repeat (with_reducible first | exact hX0 | refine Has.drew ?_ | refine Has.alloc ?_ | refine Has.below ?_ hbJ | refine Has.grown ?_ hg7 hXo))))
                  (first
                  | (go_at_call 16; (refine (join_one _ _ (some ⟨b, off, none⟩) 0 0 xd ?_ ?_ ?_).mono ?_); (focus ((repeat (with_reducible first | (refine RdE.svOne ?_; (simp; done)) | refine RdE.drew ?_ | refine RdE.alloc ?_)); done)); (focus ((repeat (with_reducible first | exact rS | refine RdE.drew ?_ | refine RdE.alloc ?_)); done)); (focus omega); (rintro e wJ ⟨A5, n5, c5, rfl, hoJ, hbJ⟩); (have PJ := OE.later hO6 (by (repeat (with_reducible first | exact BlE.refl _ | refine BlE.drew ?_ | refine BlE.alloc ?_ | refine BlE.below ?_ hbJ))) hoJ); have hlJ := hoJ.len)
                  | ((refine step_pushB _ rfl (.tmp 47) (.tmp 63) 29 rfl w 60 i0 _ 32 Try.underlying29 hi hz0 hz1 hz2 rfl Aw nw cw rsw l x A5 n5 c5 xd rfl _ rfl ?_ ?_ ?_ ?_ ?_ ?_ ?_ ?_); (focus (simp only [maxLen]; omega)); (focus omega); (focus ((repeat (with_reducible first | exact hO6 | refine OE.drew ?_ | refine OE.alloc ?_ | refine OE.below ?_ hbJ)); done)); (focus ((repeat (with_reducible first | (refine Has.made ?_ rfl; (simp; done)) | refine Has.drew ?_ | refine Has.alloc ?_ | refine Has.below ?_ hbJ)); done)); (focus ((repeat (with_reducible first | (refine Has.made ?_ rfl; (simp; done)) | refine Has.drew ?_ | refine Has.alloc ?_ | refine Has.below ?_ hbJ)); done)); (focus ((repeat (with_reducible first | exact hB6 | refine BlE.drew ?_ | refine BlE.alloc ?_ | refine BlE.below ?_ hbJ)); done)); (focus ((repeat (with_reducible first | exact PJ | refine PE.drew ?_ | refine PE.alloc ?_ | refine PE.below ?_ hbJ)); done)); intro g7 c7' w7 O7 hg7 hat7))
                all_goals
                  go_wp2
                  have fB : BlE w w7 := by (repeat (with_reducible first | exact hB6 | refine BlE.drew ?_ | refine BlE.alloc ?_ | refine BlE.below ?_ hbJ | refine BlE.grown ?_ hg7 hlo))
                  go_roundw
                  case rel => exact ⟨_, _, nw + 1, c7', _, z + 1 + 0, rfl, by go_num, by omega, by omega, O7, HZ2, HF2, HP2, HD2, fB⟩
                  case measure => simp [lenV]; omega
              · have rS0 : RdE bv wc (some ⟨b, off + (z + 1), none⟩) s (c - (z + 1)) ((xs.drop (z + 1)).take s) := RdE.of (((rX.drop (z + 1) (by omega)).take s (by omega))) (by omega)
                generalize (xs.drop (z + 1)).take s = xd at *
                have hzc' : ¬ (c = z + 1) := hzc
                clear rX
                go_wp2_with (go_at_call 30; refine HC.out.mono ?_; rintro e w' ⟨rfl, q', rfl⟩)
                have hO6 := OE.drewN hOq (k := q')
                have hB6 := BlE.drewN hbq (k := q')
                have rS := RdE.drewN rS0 (k := q')
                have hX0 := Has.drewN hHx (k := q')
                clear hOq hbq rS0 hHx hcq HC hsz
                generalize wc.drewN q' = W at *
                have hsz := BlE.sz hB6
                have hlo := OE.lo hO6
                have hX0c := hX0.cell
                obtain ⟨g7, c7', A5, n5, c5, _⟩ : ∃ (g c : Nat) (A5 : Option Addr) (n5 c5 : Nat), True := ⟨0, 0, none, 0, 0, trivial⟩
                go_region_held3 (fun w' => w'.cell? ⟨b, off + z, none⟩ = some (.int .u8 (x.toNat : Int)))
                  ((refine Has.cell ?_; (repeat (with_reducible first | exact hX0 | refine Has.drew ?_ | refine Has.alloc ?_ | refine Has.below ?_ hbJ | refine Has.grown ?_ hg7 hXo))))
                  (first
                  | (go_at_call 16; (refine (join_one _ _ (some ⟨b, off + (z + 1), none⟩) s (c - (z + 1)) xd ?_ ?_ ?_).mono ?_); (focus ((repeat (with_reducible first | (refine RdE.svOne ?_; (simp; done)) | refine RdE.drew ?_ | refine RdE.alloc ?_)); done)); (focus ((repeat (with_reducible first | exact rS | refine RdE.drew ?_ | refine RdE.alloc ?_)); done)); (focus omega); (rintro e wJ ⟨A5, n5, c5, rfl, hoJ, hbJ⟩); (have PJ := OE.later hO6 (by (repeat (with_reducible first | exact BlE.refl _ | refine BlE.drew ?_ | refine BlE.alloc ?_ | refine BlE.below ?_ hbJ))) hoJ); have hlJ := hoJ.len)
                  | ((refine step_pushB _ rfl (.tmp 47) (.tmp 63) 29 rfl w 60 i0 _ 32 Try.underlying29 hi hz0 hz1 hz2 rfl Aw nw cw rsw l x A5 n5 c5 xd rfl _ rfl ?_ ?_ ?_ ?_ ?_ ?_ ?_ ?_); (focus (simp only [maxLen]; omega)); (focus omega); (focus ((repeat (with_reducible first | exact hO6 | refine OE.drew ?_ | refine OE.alloc ?_ | refine OE.below ?_ hbJ)); done)); (focus ((repeat (with_reducible first | (refine Has.made ?_ rfl; (simp; done)) | refine Has.drew ?_ | refine Has.alloc ?_ | refine Has.below ?_ hbJ)); done)); (focus ((repeat (with_reducible first | (refine Has.made ?_ rfl; (simp; done)) | refine Has.drew ?_ | refine Has.alloc ?_ | refine Has.below ?_ hbJ)); done)); (focus ((repeat (with_reducible first | exact hB6 | refine BlE.drew ?_ | refine BlE.alloc ?_ | refine BlE.below ?_ hbJ)); done)); (focus ((repeat (with_reducible first | exact PJ | refine PE.drew ?_ | refine PE.alloc ?_ | refine PE.below ?_ hbJ)); done)); intro g7 c7' w7 O7 hg7 hat7))
                all_goals
                  go_wp2
                  have fB : BlE w w7 := by (repeat (with_reducible first | exact hB6 | refine BlE.drew ?_ | refine BlE.alloc ?_ | refine BlE.below ?_ hbJ | refine BlE.grown ?_ hg7 hlo))
                  go_roundw
                  case rel => exact ⟨_, _, nw + 1, c7', _, z + 1 + s, rfl, by go_num, by omega, by omega, O7, HZ2, HF2, HP2, HD2, fB⟩
                  case measure => simp [lenV]; omega
            · have HSn : Hid (l = ans) := HP.out.stop (by rw [HSt.out, if_neg (fun h => hfit h.1)])
              have hif : ((s : Int) > (n : Int) - z - 1) := by omega
              clear hfit
              go_wp2_with (go_at_call 30; refine HC.out.mono ?_; rintro e w' ⟨rfl, q', rfl⟩)
              go_ret
              unfold RetB; rw [← HSn.out]
              exact ⟨_, _, _, rfl, OwnX.rd (OE.drewN hOq) (fun b h => h.1) (fun b h => (OwnX.lt hOq b h).2), BlE.drewN hbq⟩
        · have HSn : Hid (l = ans) := HP.out.stop (by rw [HSt.out, if_neg (fun h => hk h.2)])
          have t1 : ((x.toNat : Int) == (q : Int)) = false := by rw [beq_eq_false_iff_ne]; omega
          clear hk
          go_wp2
          go_quiet (first | (go_at_call 29; exact quiet_still (HK _)))
          go_wp2
          go_ret
          unfold RetB; rw [← HSn.out]
          exact ⟨_, _, _, rfl, OwnX.rd (OE.drewN hO) (fun b h => h.1) (fun b h => (OwnX.lt hO b h).2), BlE.drewN hb⟩
      · have HSn : Hid (l = ans) := HP.out.stop (by rw [HSt.out, if_neg (fun h => by omega)])
        have h6 : decide ((z : Int) < n) = false := decide_eq_false (by omega)
        go_wp2
        go_quiet (fail)
        go_wp2
        go_ret
        unfold RetB; rw [← HSn.out]
        exact ⟨_, _, _, rfl, OwnX.rd (OE.drewN hO) (fun b h => h.1) (fun b h => (OwnX.lt hO b h).2), BlE.drewN hb⟩
    · have HSn : Hid (l = ans) := HP.out.stop (by unfold parStep; rw [if_neg (by rw [hll.out]; omega)])
      have h5 : decide ((nw : Int) < 512) = false := decide_eq_false (by omega)
      go_wp2
      go_quiet (fail)
      go_wp2
      go_ret
      unfold RetB; rw [← HSn.out]
      exact ⟨_, _, _, rfl, OwnX.rd (OE.drewN hO) (fun b h => h.1) (fun b h => (OwnX.lt hO b h).2), BlE.drewN hb⟩

end Go.Proofs.Ytgjnkaakhfbblaa
