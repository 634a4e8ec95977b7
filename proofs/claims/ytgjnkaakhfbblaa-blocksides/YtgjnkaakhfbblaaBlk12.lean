/- Contract of the law's made. No law is claimed here. -/
import Derived.Test.YtgjnkaakhfbblaaBlk11
namespace Go.Proofs.Ytgjnkaakhfbblaa
open Go.RowKit

theorem OE.ownBL {w : World} {base : Nat} {e : TypeId} {Aw : Option Addr} {n c : Nat} {rs : List (Option Addr × Nat × Nat)} {xs : List (List Bm)} (h : OE shBL w base e Aw n c rs xs) : w.ownsRow base e 1 (.slice Aw n c) n (rs.flatMap shBL.raw) := OwnX.own h
theorem news_1 {w : World} {g : Nat} {v0 : Value} (h0 : Has w g 0 v0) : ∀ (j : Nat) (u : Value), [v0][j]? = some u → w.cell? ((⟨g, 0, none⟩ : Addr).add j) = some u := by
  intro j u hu
  have hadd : ∀ j, (⟨g, 0, Option.none⟩ : Addr).add j = ⟨g, j, Option.none⟩ := fun j => by unfold Addr.add; split <;> simp_all
  rw [hadd]
  match j, hu with
  | 0, hu => simp at hu; subst hu; exact h0.2
/-- append of one list of blocks that was laid some time ago, at a step of a region whose order is open -/
theorem step_pushBL {P : Program} {ops : Array Oper} {o : Oper} {a : Act} {K : Act → World → Prop} {Q : Exit → Act → World → Prop} {E : Prop} (w : World) (hgd : o.guard = none) (s x : Operand) (t : TypeId)
    (ho : o.op = .call { callee := .builtin .append, args := #[s, x], argTypes := #[t, t] }) (w0 : World) (e : TypeId) (i : TypeInfo) (z : Value) (bytes : Nat) (ht : P.underlying t = some (.slice e)) (hi : P.info? e = some i) (hz : i.zero = some z)
    (hsize : i.size = 1) (hby : i.bytes = bytes) (hzs : z.cells.size = 1) (Aw : Option Addr) (nw cw : Nat) (rsw : List (Option Addr × Nat × Nat)) (gl : List (List Bm)) (A5 : Option Addr) (n4 c5 : Nat) (ys : List Bm)
    (hs : a.eval s = .slice Aw nw cw) (g0 : Nat) (hx : a.eval x = .slice (some ⟨g0, 0, none⟩) 1 1) (h63 : nw + 1 ≤ maxLen) (hbytes : (nw + 1) * bytes ≤ 140737488355328)
    (hO : OE shBL w w0.heap.size e Aw nw cw rsw gl) (h0 : Has w g0 0 (.slice A5 n4 c5)) (hB : BlE w0 w) (hX : XE shB w Aw A5 n4 c5 ys)
    (h : ∀ g cap w', OE shBL w' w0.heap.size e (some ⟨g, 0, none⟩) (nw + 1) cap (rsw ++ [(A5, n4, c5)]) (gl ++ [ys]) → w.grownBy w' (Aw.map (·.block)) → (Aw.map (·.block) = some g ∨ g = w.heap.size) →
      K (a.put o.dst (.slice (some ⟨g, 0, none⟩) (nw + 1) cap)) w') :
    if Region.wanted o (yielded ops a.tmps) = true then Oper.wp P o a w K Q else E := by
  refine step_append_lies w hgd s x t ho w0.heap.size e i z 1 bytes ht hi hz hsize hby hzs (by omega) (.slice Aw nw cw) nw _ hs hO.ownBL ⟨g0, 0, none⟩ 1 1 [.slice A5 n4 c5] hx rfl (news_1 h0) (shBL.one (A5, n4, c5)) (by omega) h63 hbytes (Below.size hB) _ rfl ?_
  intro g cap w' hown hg hat _
  rw [ownBlock_slice] at hg hat
  exact h g cap w' (OE.pushed hO (x := ys) hX hown hg hat) hg hat
theorem XE.later {ρ α σ β : Type} {T : Shape ρ α} {T2 : Shape σ β} {w w' W : World} {base : Nat} {e : TypeId} {Aw : Option Addr} {n c : Nat} {rs : List ρ} {xs : List α} {ys : List β} {A : Option Addr} {m d : Nat} (h : OE T w base e Aw n c rs xs) (hB : BlE w W)
    (r : RdX T2 w' (fun b => W.heap.size ≤ b ∧ b < w'.heap.size) A m d ys) : XE T2 w' Aw A m d ys :=
  r.keep (Kp.refl _ _) (fun _ hb => ⟨hb.2, OwnX.off h (Nat.le_trans (Below.size hB) hb.1), off_none _⟩)

theorem fmB_file (f : Fm) : isFile (fmB f) := isFile_fileN _ _ _ _ _ _ (by simp only [List.length_take]; omega)
theorem fmB_data (f : Fm) : ∀ x ∈ fmB f, x.data.length ≤ 100000 := by
  intro x hx
  unfold fmB fileN at hx
  simp only [List.mem_cons, List.not_mem_nil, or_false] at hx
  rcases hx with rfl | rfl
  · simp [headN_len]
  · simp only [List.length_take]; omega
theorem fmBs_file (fs : List Fm) : ∀ f ∈ fs.map fmB, isFile f := fun f hf => by
  obtain ⟨g, _, rfl⟩ := List.mem_map.1 hf
  exact fmB_file g
theorem fmBs_data (fs : List Fm) : ∀ x ∈ (fs.map fmB).flatten, x.data.length ≤ 100000 := fun x hx => by
  obtain ⟨f, hf, hx⟩ := List.mem_flatten.1 hx
  obtain ⟨g, _, rfl⟩ := List.mem_map.1 hf
  exact fmB_data g x hx
theorem cut_E (A : Option Addr) (n c : Nat) (xs : List UInt8) (m : Int) (w : World) (hr : RdE bv w A n c xs) (hn : n ≤ 9223372036854775807) (h0 : 0 ≤ m) (hm : m ≤ 65536) :
    Calls Try.prog 17 #[.slice A n c, .int .i64 m] w (RetL bv 5 w (xs.take m.toNat)) := cut_any A n c w.heap.size xs m w hr (Nat.le_refl _) hn h0 hm

set_option maxRecDepth 100000 in
set_option maxHeartbeats 8000000 in
theorem made_any (sign : ByteArray) (side : UInt8) (A : Option Addr) (n c : Nat) (S : Nat → Prop) (fs : List Fm) (less : Int) (w : World) (hr : RdX shF w S A n c fs) (hS : ∀ b, S b → b < w.heap.size) (hn : n ≤ 9223372036854775807) (hok : Hid (∀ f ∈ fs, okF f)) (hsg : sign.size ≤ 9223372036854775807) (hl0 : 0 ≤ less) (hl1 : less < 256) :
    Calls Try.prog 9 #[.string sign, .int .u8 (side.toNat : Int), .slice A n c, .int .u8 less] w (RetB w (madeN (strN sign) side fs less.toNat)) := by
  obtain ⟨i0, hi, hz0, hz1, hz2⟩ := info_parts Try.infoBts
  have HL := Lib.hid hr.len
  generalize hans : madeN (strN sign) side fs less.toNat = ans
  have HANS := Lib.hid hans
  clear hans
  go_enter Try.func9, Try.ntmps9
  go_wp2_with fail
  go_loopw [9, 15] (fun v i wr => ∃ (k : Nat) (Aw : Option Addr) (nw cw : Nat) (rsw : List (Option Addr × Nat × Nat)), k ≤ n ∧ i = .int .i64 k ∧ v = .slice Aw nw cw ∧ nw ≤ 8 ∧ OE shBL wr w.heap.size 26 Aw nw cw rsw (((fs.take k).take 8).map fmB) ∧ BlE w wr)
    (fun _ i _ => n - (intOf i).toNat)
  case atStart => exact ⟨0, none, 0, 0, [], Nat.zero_le _, rfl, rfl, by omega, OwnX.empty shBL w w.heap.size 26 _, BlE.refl _⟩
  case round =>
    obtain ⟨k, Aw, nw, cw, rsw, hk, rfl, rfl, hnw, hO, hB⟩ := hrel
    have hsz := BlE.sz hB
    by_cases hlt : k < n
    · have hkx : k < fs.length := by rw [HL.out]; exact hlt
      obtain ⟨b, off, A3, n3, c3, rfl, hSb, hc0, hc1, hc2, hc3, hc4, hc5, hrd⟩ := rdF_at (hr.keep (Kp.below hB hS) (fun _ h => h)) k hkx
      by_cases h8 : k < 8
      · have HT : Hid (((fs.take (k + 1)).take 8).map fmB = ((fs.take k).take 8).map fmB ++ [fmB fs[k]]) := by
          show _ = _; rw [take_take_snoc fs k 8 hkx h8, List.map_append]; rfl
        have hof := hok.out _ (List.getElem_mem hkx)
        have hE3 : RdE bv wr A3 n3 c3 fs[k].data := hrd.rd (fun b h => by have := hS b h; omega)
        have hnk : nw ≤ k := by
          have h1 := OwnX.len hO
          rw [List.length_map, List.length_take, List.length_take] at h1
          omega
        generalize fs[k] = f at *
        obtain ⟨xn, xi, xk, xs, xa, xd⟩ := f
        obtain ⟨f1, f2, f3, f4⟩ := hof
        simp only at *
        have hl3 := hrd.len
        have hn3 : n3 ≤ 9223372036854775807 := by omega
        have h8' : (k : Int) < 8 := by omega
        clear hrd hl3 f4
        have hX0 : Has (wr.alloc (.cells #[.int .u8 (xn.toNat : Int), .int .u8 (xi.toNat : Int), .int .u8 (xk.toNat : Int), .string xs, .int .u16 xa, .slice A3 n3 c3] 54)) wr.heap.size 0 (.int .u8 (xn.toNat : Int)) := Has.made rfl rfl
        have hX1 : Has (wr.alloc (.cells #[.int .u8 (xn.toNat : Int), .int .u8 (xi.toNat : Int), .int .u8 (xk.toNat : Int), .string xs, .int .u16 xa, .slice A3 n3 c3] 54)) wr.heap.size 1 (.int .u8 (xi.toNat : Int)) := Has.made rfl rfl
        have hX2 : Has (wr.alloc (.cells #[.int .u8 (xn.toNat : Int), .int .u8 (xi.toNat : Int), .int .u8 (xk.toNat : Int), .string xs, .int .u16 xa, .slice A3 n3 c3] 54)) wr.heap.size 2 (.int .u8 (xk.toNat : Int)) := Has.made rfl rfl
        have hX3 : Has (wr.alloc (.cells #[.int .u8 (xn.toNat : Int), .int .u8 (xi.toNat : Int), .int .u8 (xk.toNat : Int), .string xs, .int .u16 xa, .slice A3 n3 c3] 54)) wr.heap.size 3 (.string xs) := Has.made rfl rfl
        have hX4 : Has (wr.alloc (.cells #[.int .u8 (xn.toNat : Int), .int .u8 (xi.toNat : Int), .int .u8 (xk.toNat : Int), .string xs, .int .u16 xa, .slice A3 n3 c3] 54)) wr.heap.size 4 (.int .u16 xa) := Has.made rfl rfl
        have hX5 : Has (wr.alloc (.cells #[.int .u8 (xn.toNat : Int), .int .u8 (xi.toNat : Int), .int .u8 (xk.toNat : Int), .string xs, .int .u16 xa, .slice A3 n3 c3] 54)) wr.heap.size 5 (.slice A3 n3 c3) := Has.made rfl rfl
        have hXo : some wr.heap.size ≠ Aw.map (·.block) := OwnX.off hO (Nat.le_refl _)
        have hO6 := OE.alloc hO (o := (.cells #[.int .u8 (xn.toNat : Int), .int .u8 (xi.toNat : Int), .int .u8 (xk.toNat : Int), .string xs, .int .u16 xa, .slice A3 n3 c3] 54))
        have hB6 := BlE.alloc hB (o := (.cells #[.int .u8 (xn.toNat : Int), .int .u8 (xi.toNat : Int), .int .u8 (xk.toNat : Int), .string xs, .int .u16 xa, .slice A3 n3 c3] 54))
        have hE6 := RdE.alloc hE3 (o := (.cells #[.int .u8 (xn.toNat : Int), .int .u8 (xi.toNat : Int), .int .u8 (xk.toNat : Int), .string xs, .int .u16 xa, .slice A3 n3 c3] 54))
        have hlo := OE.lo hO6
        clear hO hB hE3
        generalize hBB : wr.heap.size = B0 at *
        go_wp2_with fail
        generalize wr.alloc (.cells #[.int .u8 (xn.toNat : Int), .int .u8 (xi.toNat : Int), .int .u8 (xk.toNat : Int), .string xs, .int .u16 xa, .slice A3 n3 c3] 54) = W at *
        have hX0c := hX0.cell
        have hX1c := hX1.cell
        have hX2c := hX2.cell
        have hX3c := hX3.cell
        have hX4c := hX4.cell
        have hX5c := hX5.cell
        have HT2 : Hid (fmB ⟨xn, xi, xk, xs, xa, xd⟩ = fileN xn xi ((strN xs).take 20) xa.toNat xk (xd.take 300)) := rfl
        rw [HT2.out] at HT
        generalize ((fs.take k).take 8).map fmB = gl at *
        generalize hnm : (strN xs).take 20 = nm at *
        generalize hxd : xd.take 300 = xd3 at *
        obtain ⟨g7, c7', A5, n5, c5, A8, n8, c8, s', _⟩ : ∃ (g c : Nat) (A5 : Option Addr) (n5 c5 : Nat) (A8 : Option Addr) (n8 c8 : Nat) (s' : ByteArray), True := ⟨0, 0, none, 0, 0, none, 0, 0, ⟨#[]⟩, trivial⟩
        go_region_held3 (fun w' => w'.cell? ⟨B0, 0, none⟩ = some (.int .u8 (xn.toNat : Int)) ∧ w'.cell? ⟨B0, 1, none⟩ = some (.int .u8 (xi.toNat : Int)) ∧ w'.cell? ⟨B0, 2, none⟩ = some (.int .u8 (xk.toNat : Int)) ∧ w'.cell? ⟨B0, 3, none⟩ = some (.string xs) ∧ w'.cell? ⟨B0, 4, none⟩ = some (.int .u16 xa) ∧ w'.cell? ⟨B0, 5, none⟩ = some (.slice A3 n3 c3))
          (refine ⟨Has.cell ?_, Has.cell ?_, Has.cell ?_, Has.cell ?_, Has.cell ?_, Has.cell ?_⟩ <;> (repeat (with_reducible first | exact hX0 | exact hX1 | exact hX2 | exact hX3 | exact hX4 | exact hX5 | refine Has.drew ?_ | refine Has.alloc ?_ | refine Has.below ?_ hbC | refine Has.below ?_ hbF | refine Has.grown ?_ hg7 hXo)))
          (first
          | (go_at_call 25; (refine (text_any xs _ ?_).mono ?_); (focus exact f1); (rintro e wT ⟨⟨s', rfl, hs'⟩, rfl⟩); (rw [hnm] at hs'))
          | (go_at_call 17; (refine (cut_E A3 n3 c3 xd 300 _ ?_ ?_ ?_ ?_).mono ?_); (focus ((repeat (with_reducible first | exact hE6 | refine RdE.drew ?_ | refine RdE.alloc ?_)); done)); (focus exact hn3); (focus omega); (focus omega); (rintro e wC ⟨A5, n5, c5, rfl, hoC, hbC⟩); (have rC := RdE.own hoC); (have hl5 := hoC.len); (rw [show xd.take (300 : Int).toNat = xd3 from hxd] at rC); (rw [List.length_take] at hl5))
          | (go_at_call 26; (refine (file_E xn xi xk s' nm hs' xa A5 n5 c5 xd3 _ ?_ ?_ ?_ ?_).mono ?_); (focus ((repeat (with_reducible first | exact rC | refine RdE.drew ?_ | refine RdE.alloc ?_)); done)); (focus (have h300 : (300 : Int).toNat = 300 := rfl; omega)); (focus exact f2); (focus exact f3); (rintro e wF ⟨A8, n8, c8, rfl, rF, hbF⟩); (have PJ := XE.later hO6 (by (repeat (with_reducible first | exact BlE.refl _ | refine BlE.drew ?_ | refine BlE.alloc ?_ | refine BlE.below ?_ hbC))) rF))
          | ((refine step_pushBL _ rfl (.tmp 22) (.tmp 38) 58 rfl w 26 i0 _ 24 Try.underlying58 hi hz0 hz1 hz2 rfl Aw nw cw rsw gl A8 n8 c8 (fileN xn xi nm xa.toNat xk xd3) rfl _ rfl ?_ ?_ ?_ ?_ ?_ ?_ ?_); (focus (simp only [maxLen]; omega)); (focus omega); (focus ((repeat (with_reducible first | exact hO6 | refine OE.drew ?_ | refine OE.alloc ?_ | refine OE.below ?_ hbC | refine OE.below ?_ hbF)); done)); (focus ((repeat (with_reducible first | (refine Has.made ?_ rfl; (simp; done)) | refine Has.drew ?_ | refine Has.alloc ?_)); done)); (focus ((repeat (with_reducible first | exact hB6 | refine BlE.drew ?_ | refine BlE.alloc ?_ | refine BlE.below ?_ hbC | refine BlE.below ?_ hbF)); done)); (focus ((repeat (with_reducible first | exact PJ | refine XE.drew ?_ | refine XE.alloc ?_)); done)); intro g7 c7' w7 O7 hg7 hat7))
        all_goals
          go_wp2
          have fB : BlE w w7 := by (repeat (with_reducible first | exact hB6 | refine BlE.drew ?_ | refine BlE.alloc ?_ | refine BlE.below ?_ hbC | refine BlE.below ?_ hbF | refine BlE.grown ?_ hg7 hlo))
          go_roundw
          case rel => exact ⟨k + 1, _, nw + 1, c7', _, by omega, by go_num, rfl, by omega, by rw [HT.out]; exact O7, fB⟩
          case measure => simp [intOf]; omega
      · have HT : Hid (((fs.take (k + 1)).take 8) = ((fs.take k).take 8)) := take_take_same fs k 8 (by omega)
        have h8' : ¬ ((k : Int) < 8) := by omega
        generalize fs[k] = f at *
        obtain ⟨xn, xi, xk, xs, xa, xd⟩ := f
        simp only at *
        go_wp2
        go_roundw
        case rel => exact ⟨k + 1, Aw, nw, cw, rsw, by omega, by go_num, rfl, hnw, by rw [HT.out]; exact OE.alloc hO, BlE.alloc hB⟩
        case measure => simp [intOf]; omega
    · have hkn : fs.take k = fs := List.take_of_length_le (by rw [HL.out]; omega)
      rw [hkn] at hO
      have rF : RdX shBL wr (· < wr.heap.size) Aw nw cw ((fs.take 8).map fmB) := OwnX.rd hO (fun b h => h.1) (fun b h => (OwnX.lt hO b h).2)
      have hT := text_any sign wr hsg
      have hDN := fun s' : ByteArray => disk_any s' side Aw nw cw _ ((fs.take 8).map fmB) wr rF (fun b h => h) (by omega) (by rw [flatten_pairs_len _ (fmBs_file _), OwnX.len hO]; omega) (fmBs_data _)
      have htm : less.tmod 5 = less % 5 := Int.tmod_eq_emod_of_nonneg hl0
      have hln := diskN_len ((strN sign).take 20) side ((fs.take 8).map fmB) (fmBs_file _)
      rw [OwnX.len hO] at hln
      have HA2 := HANS.out
      unfold madeN at HA2
      generalize hL : diskN ((strN sign).take 20) side ((fs.take 8).map fmB) = L at hln HA2
      clear hkn
      go_wp2_with fail
      refine hT.mono ?_
      rintro e wT ⟨⟨s', rfl, hs'⟩, rfl⟩
      go_wp2_with fail
      refine (hDN s').mono ?_
      rw [hs']
      rintro e w2 ⟨A2, n2, c2, rfl, r2, hb2⟩
      rw [hL] at r2
      have hB2 := BlE.below hB hb2
      have hn2 := r2.len
      have hcap := r2.cap
      obtain ⟨d, hd⟩ : ∃ d : Nat, (d : Int) = less % 5 := ⟨(less % 5).toNat, by omega⟩
      have hd2 : less.toNat % 5 = d := by omega
      have hd5 : d < 5 := by omega
      rw [hd2, hn2] at HA2
      have hRT := r2.take (n2 - d) (by omega)
      rw [HA2] at hRT
      have hn20 : n2 ≤ 20 := by omega
      rw [← hd] at htm
      clear hd hd2 HA2 hDN hT rF hO hB hb2 r2 hln hn2 hL hs'
      by_cases hle : d < n2
      · obtain ⟨K, hK⟩ : ∃ K : Nat, (n2 : Int) - d = (K : Int) := ⟨n2 - d, by omega⟩
        obtain rfl : n2 - d = K := by omega
        generalize hKK : n2 - d = K at *
        have hK0 : (0 : Int) < K := by omega
        have hK1 : ¬ ((K : Int) < 0) := by omega
        have hK2 : (K : Int) ≤ c2 := by omega
        have hK3 : K ≤ c2 := by omega
        have hK4 : ¬ ((K : Int) ≤ 0) := by omega
        clear hle hKK
        go_wp2
        go_ret
        exact ⟨_, _, _, rfl, hRT, hB2⟩
      · have hK : n2 - d = 0 := by omega
        rw [hK] at hRT
        have hK0 : ¬ ((0 : Int) < (n2 : Int) - d) := by omega
        have hK1 : (n2 : Int) - d ≤ 0 := by omega
        clear hle hK
        go_wp2
        go_ret
        exact ⟨_, _, _, rfl, hRT, hB2⟩

end Go.Proofs.Ytgjnkaakhfbblaa
