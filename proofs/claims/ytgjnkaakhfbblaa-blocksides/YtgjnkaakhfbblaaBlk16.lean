/- Contract of block.Side. No law is claimed here. -/
import Derived.Test.YtgjnkaakhfbblaaBlk5
import Derived.Test.YtgjnkaakhfbblaaK5
import Derived.Test.YtgjnkaakhfbblaaBlk3
import Derived.StillTailTactics
namespace Go.Proofs.Ytgjnkaakhfbblaa
open Go.RowKit

theorem lay_nil' (xs : List UInt8) (k : Nat) : lay xs k [] = xs := by simp [lay]
/-- copy of bytes into a row of the call's own, at a step of a region whose order is open; of none, too -/
theorem step_copy_lay {P : Program} {ops : Array Oper} {o : Oper} {a : Act} {K : Act → World → Prop} {Q : Exit → Act → World → Prop} {E : Prop} (w : World) (hgd : o.guard = none) (d s : Operand) (dT sT : TypeId)
    (ho : o.op = .call { callee := .builtin .copy, args := #[d, s], argTypes := #[dT, sT] }) (elem : TypeId) (hu : P.underlying dT = some (.slice elem)) (hsz : (P.info? elem).map (·.size) = some 1)
    (dp : Option Addr) (dLen dCap : Nat) (A2 : Option Addr) (sLen sCap : Nat) (hd : a.eval d = .slice dp dLen dCap) (hs : a.eval s = .slice A2 sLen sCap)
    (g off base : Nat) (e : TypeId) (n c : Nat) (xs : List UInt8) (ys : List UInt8) (hpos : 0 < sLen → dp = some ⟨g, off, none⟩) (hn : sLen ≤ dLen) (hfit : off + sLen ≤ n) (hown : Own bv w base e (some ⟨g, 0, none⟩) n c xs) (hr : RdE bv w A2 sLen sCap ys)
    (h : ∀ w', Own bv w' base e (some ⟨g, 0, none⟩) n c (lay xs off ys) → w.grownBy w' (some g) → K (a.put o.dst (goInt sLen)) w') :
    if Region.wanted o (yielded ops a.tmps) = true then Oper.wp P o a w K Q else E := by
  have hw : Region.wanted o (yielded ops a.tmps) = true := by simp [Region.wanted, hgd]
  rw [if_pos hw]
  have hl := Rd.len hr
  by_cases h0 : sLen = 0
  · subst h0
    obtain rfl : ys = [] := List.eq_nil_of_length_eq_zero hl
    have hrun := run_copy_none (P := P) w dT sT o.type elem dp A2 dLen dCap 0 sCap hu hsz (Nat.zero_min _)
    unfold Oper.wp
    simp [execOp, ho, resolve, invoke, builtin, hd, hs, hrun, Result.andThen]
    exact h w (by rw [lay_nil']; exact hown) (World.grownBy.refl w _)
  · obtain rfl := hpos (by omega)
    obtain ⟨b, o2, rfl, _, _⟩ := Rd.at_ hr 0 (by omega)
    obtain ⟨cur, hg, hcs, hown', hgr⟩ := hown.laid off ys (by omega)
    have hcells : ∀ j u, (ys.map bv)[j]? = some u → w.cell? ((⟨b, o2, none⟩ : Addr).add j) = some u := by
      intro j u hu
      rw [List.getElem?_map] at hu
      rcases Nat.lt_or_ge j ys.length with hj | hj
      · obtain ⟨b', off', h, _, hc⟩ := Rd.at_ hr j hj
        injection h with h; injection h with h1 h2; subst h1; subst h2
        rw [List.getElem?_eq_getElem hj] at hu
        simp at hu
        subst hu
        have hadd : (⟨b, o2, Option.none⟩ : Addr).add j = ⟨b, o2 + j, Option.none⟩ := by unfold Addr.add; split <;> simp_all
        rw [hadd]; exact hc
      · rw [List.getElem?_eq_none hj] at hu; cases hu
    have hrun := run_copy_row (P := P) w dT sT o.type elem g off dLen dCap ⟨b, o2, none⟩ sLen sCap cur e (ys.map bv) hu hsz hg (by simp; rw [hl]; exact (Nat.min_eq_left hn).symm) hcells (by simp; omega) (by intro v hv; simp at hv; obtain ⟨x, _, rfl⟩ := hv; rfl)
    have hk := h _ hown' hgr
    rw [show sLen = (ys.map bv).length from by simp [hl]] at hk
    generalize ys.map bv = cs at *
    unfold Oper.wp
    simp [execOp, ho, resolve, invoke, builtin, hd, hs, hrun, Result.andThen]
    exact hk

theorem lay_nil (xs : List UInt8) (k : Nat) : lay xs k [] = xs := by simp [lay]
/-- what stands on a side: the blocks' bytes, noughts behind -/
def sideN (l : List Bm) (size : Nat) : List UInt8 := flatN l ++ List.replicate (size - blkSz l) 0
theorem sideN_len (l : List Bm) (size : Nat) (h : blkSz l ≤ size) : (sideN l size).length = size := by unfold sideN; rw [List.length_append, flatN_len, List.length_replicate]; omega
theorem sideN_step (l : List Bm) (size k : Nat) (hk : k < l.length) (h : blkSz (l.take (k + 1)) ≤ size) :
    sideN (l.take (k + 1)) size = lay ((sideN (l.take k) size).set (blkSz (l.take k)) l[k].kind) (blkSz (l.take k) + 1) l[k].data := by
  have hs := blkSz_snoc l k hk
  have hf := flatN_snoc l k hk
  have hl := flatN_len (l.take k)
  unfold sideN lay
  rw [hf, hs]
  generalize flatN (l.take k) = fl at *
  generalize blkSz (l.take k) = B at *
  obtain ⟨m, hm⟩ : ∃ m, size - B = 1 + l[k].data.length + m := ⟨size - B - (1 + l[k].data.length), by omega⟩
  rw [hm, show size - (B + (1 + l[k].data.length)) = m by omega]
  have e1 : (fl ++ List.replicate (1 + l[k].data.length + m) (0 : UInt8)).set B l[k].kind = (fl ++ [l[k].kind]) ++ List.replicate (l[k].data.length + m) 0 := by
    rw [List.set_append_right _ _ (by omega), hl, Nat.sub_self, show 1 + l[k].data.length + m = (l[k].data.length + m) + 1 by omega, List.replicate_succ, List.append_assoc]
    rfl
  have hl2 : (fl ++ [l[k].kind]).length = B + 1 := by rw [List.length_append, hl]; rfl
  rw [e1, List.take_left' hl2, List.drop_append, List.drop_of_length_le (by omega), hl2, List.nil_append, List.drop_replicate, show l[k].data.length + m - (B + 1 + l[k].data.length - (B + 1)) = m by omega]
  simp only [List.append_assoc]

set_option maxRecDepth 100000 in
set_option maxHeartbeats 2000000 in
theorem side_no (A : Option Addr) (n c : Nat) (S : Nat → Prop) (l : List Bm) (size : Int) (w : World) (hr : RdX shB w S A n c l) (hS : ∀ b, S b → b < w.heap.size) (hn : n ≤ 1000000) (hd : Hid (∀ x ∈ l, x.data.length ≤ 100000)) (hR : rgtB l = true) (h1 : size ≤ 2147483647) (hno : size < (blkSz l : Int)) :
    Calls Try.prog 12 #[.slice A n c, .int .i64 size] w fun e w' => e = .returned (.tuple #[.slice none 0 0, .bool false]) ∧ Below w.heap.size w w' := by
  have hRi := right_any A n c S l w hr hS hn (fun x hx => by have := hd.out x hx; omega)
  rw [hR] at hRi
  have h1' : ¬ (size > 2147483647) := by omega
  have h2' : ((blkSz l : Int) > size) := hno
  go_enter Try.func12, Try.ntmps12
  go_wp2_with fail
  refine hRi.mono ?_
  rintro e w1 ⟨rfl, hb1⟩
  have hZ := size_any A n c S l w1 (hr.keep (Kp.below hb1 hS) (fun _ h => h)) (fun b h => Nat.lt_of_lt_of_le (hS b h) hb1.size) hn hd
  go_wp2_with fail
  refine hZ.mono ?_
  rintro e w2 ⟨rfl, hb2⟩
  go_wp2
  go_ret2
  exact ⟨rfl, hb1.trans (hb2.mono hb1.size)⟩

set_option maxRecDepth 100000 in
set_option maxHeartbeats 4000000 in
theorem side_yes (A : Option Addr) (n c : Nat) (S : Nat → Prop) (l : List Bm) (size : Nat) (w : World) (hr : RdX shB w S A n c l) (hS : ∀ b, S b → b < w.heap.size) (hn : n ≤ 1000000) (hd : Hid (∀ x ∈ l, x.data.length ≤ 100000)) (hR : rgtB l = true) (h1 : size ≤ 2147483647) (hno : blkSz l ≤ size) :
    Calls Try.prog 12 #[.slice A n c, .int .i64 (size : Int)] w fun e w' => ∃ A' n' c', e = .returned (.tuple #[.slice A' n' c', .bool true]) ∧ Own bv w' w.heap.size 5 A' n' c' (sideN l size) ∧ Below w.heap.size w w' := by
  have hRi := right_any A n c S l w hr hS hn (fun x hx => by have := hd.out x hx; omega)
  rw [hR] at hRi
  have HL := Lib.hid hr.len
  have h1' : ¬ ((size : Int) > 2147483647) := by omega
  have h2' : ¬ ((blkSz l : Int) > size) := by omega
  have h3' : decide (size < blkSz l) = false := decide_eq_false (by omega)
  have hmk := Try.mkN .i64 size (by omega)
  go_enter Try.func12, Try.ntmps12
  go_wp2_with fail
  refine hRi.mono ?_
  rintro e w1 ⟨rfl, hb1⟩
  have hZ := size_any A n c S l w1 (hr.keep (Kp.below hb1 hS) (fun _ h => h)) (fun b h => Nat.lt_of_lt_of_le (hS b h) hb1.size) hn hd
  go_wp2_with fail
  refine hZ.mono ?_
  rintro e w2 ⟨rfl, hb2⟩
  have hb := hb1.trans (hb2.mono hb1.size)
  have hsz0 := hb.size
  have hO0 : Own bv (w2.alloc (.cells (zerosC size) 5)) w.heap.size 5 (some ⟨w2.heap.size, 0, none⟩) size size (sideN (l.take 0) size) := by
    have h := Own.fresh (f := bv) w2 5 (List.replicate size 0) (zerosC size) size w2.heap.size rfl (by simp) (by simp only [maxLen]; omega) rfl
    have h2 := h.lower hsz0
    have e : sideN (l.take 0) size = List.replicate size 0 := by simp [sideN, flatN, blkSz]
    rw [e]; exact h2
  have hbA := hb.alloc hsz0 (.cells (zerosC size) 5)
  clear hb1 hb2 hRi hZ hb
  generalize hGG : w2.heap.size = G at *
  go_wp2_with fail
  clear hmk
  generalize w2.alloc (.cells (zerosC size) 5) = W0 at *
  go_loopw [7, 25] (fun v i wr => ∃ (k : Nat), k ≤ n ∧ i = .int .i64 k ∧ v = .int .i64 (blkSz (l.take k) : Int) ∧ Own bv wr w.heap.size 5 (some ⟨G, 0, none⟩) size size (sideN (l.take k) size) ∧ Below w.heap.size w wr) (fun _ i _ => n - (intOf i).toNat)
  case atStart => exact ⟨0, Nat.zero_le _, rfl, rfl, hO0, hbA⟩
  case round =>
    obtain ⟨k, hk, rfl, rfl, hO, hb⟩ := hrel
    have hsz := hb.size
    by_cases hlt : k < n
    · have hkx : k < l.length := by rw [HL.out]; exact hlt
      obtain ⟨b, off, A3, n3, c3, rfl, hSb, hc0, hc1, hrd⟩ := rdB_at (hr.keep (Kp.below hb hS) (fun _ h => h)) k hkx
      have hsn := blkSz_snoc l k hkx
      have htk := blkSz_take l (k + 1)
      have HT := Lib.hid (sideN_step l size k hkx (by omega))
      have hl3 := hrd.len
      have hGl := hO.ltA G rfl
      have hE3 : Rd bv wr w.heap.size A3 n3 c3 l[k].data := hrd.rd hS
      have HSN : Hid (blkSz (l.take (k + 1)) = blkSz (l.take k) + (1 + n3)) := by show _ = _; rw [hsn, hl3]
      have hfit : blkSz (l.take k) + (1 + n3) ≤ size := by rw [← HSN.out]; omega
      clear hsn htk hrd hl3
      generalize l[k].kind = x at *
      generalize l[k].data = xd at *
      generalize blkSz (l.take k) = z at *
      generalize sideN (l.take k) size = ys at *
      have hzy : z < ys.length := by rw [hO.len]; omega
      have hcz := hO.at_ z hzy
      have fz := hO.frozen z
      have hO1 := hO.stored z x
      have hg1 := hO.storedG z (bv x)
      have hzl : (z : Int) < size := by omega
      have q1 : (z : Int) + 1 ≤ size := by omega
      have q2 : z + 1 ≤ size := by omega
      have q3 : ((z : Int) + 1).toNat = z + 1 := by omega
      have q4 : (0 : Int) ≤ (z : Int) + 1 := by omega
      have q5 : IntKind.i64.wrap ((z : Int) + 1) = (z : Int) + 1 := IntWalk.i64_in _ (by omega)
      have hOW := hO1.alloc (.cells #[.int .u8 (x.toNat : Int), .slice A3 n3 c3] 49)
      have hbS : Below w.heap.size w (wr.setCell ⟨G, z, none⟩ (bv x)) := hb.grown hg1 hsz (fun q hq => by injection hq with hq; omega)
      have hbW := hbS.alloc (by have := hbS.size; exact this) (.cells #[.int .u8 (x.toNat : Int), .slice A3 n3 c3] 49)
      have hEW := (hE3.setCell (p := ⟨G, z, none⟩) hGl.1 (bv x)).alloc (by have := hbS.size; exact this) (.cells #[.int .u8 (x.toNat : Int), .slice A3 n3 c3] 49)
      have hss : (wr.setCell ⟨G, z, none⟩ (bv x)).heap.size = wr.heap.size := by simp
      have hcW : ((wr.setCell ⟨G, z, none⟩ (bv x)).alloc (.cells #[.int .u8 (x.toNat : Int), .slice A3 n3 c3] 49)).cell? ⟨wr.heap.size, 1, none⟩ = some (.slice A3 n3 c3) := by
        rw [← hss, cell_of_row _ _ _ _ _ _ (heap_alloc_new _ _)]; rfl
      have hsW : ((wr.setCell ⟨G, z, none⟩ (bv x)).alloc (.cells #[.int .u8 (x.toNat : Int), .slice A3 n3 c3] 49)).heap.size = wr.heap.size + 1 := by simp
      have hwW : w.heap.size ≤ ((wr.setCell ⟨G, z, none⟩ (bv x)).alloc (.cells #[.int .u8 (x.toNat : Int), .slice A3 n3 c3] 49)).heap.size := by rw [hsW]; omega
      unfold bv at hcz
      generalize ys[z] = yz at hcz
      go_wp2_with fail
      have hbb : (bv x) = .int .u8 (x.toNat : Int) := rfl
      rw [hbb] at hOW hbW hEW hcW hwW hsW
      generalize (wr.setCell ⟨G, z, none⟩ (.int .u8 (x.toNat : Int))).alloc (.cells #[.int .u8 (x.toNat : Int), .slice A3 n3 c3] 49) = W at *
      clear hO hO1 hg1 hE3 hss hbS hcz fz hbb hc0 hc1
      have hXW : Has W wr.heap.size 1 (.slice A3 n3 c3) := ⟨by omega, hcW⟩
      have hneG : some wr.heap.size ≠ some G := by intro e; injection e with e; omega
      clear hsW
      generalize wr.heap.size = H0 at *
      have hEE : RdE bv W A3 n3 c3 xd := hEW.more hwW
      clear hEW
      obtain ⟨w9, _⟩ : ∃ w9 : World, True := ⟨w, trivial⟩
      by_cases hcap : size = z + 1
      · have hcap' : z + 1 = size := hcap.symm
        have N30 : Hid (n3 = 0) := by show _ = _; omega
        clear hcap
        have q6 : ¬ (z : Int) + 1 > size := by omega
        go_region_held3 (fun w' => w'.cell? ⟨H0, 1, none⟩ = some (.slice A3 n3 c3)) ((refine Has.cell ?_; (repeat (with_reducible first | exact hXW | refine Has.drew ?_ | refine Has.grown ?_ hg9 hneG)))) (first
            | ((refine step_copy_lay _ rfl (.tmp 38) (.tmp 40) 24 24 rfl 5 Try.underlying24 Try.szU8 _ _ _ A3 n3 c3 rfl rfl G (z + 1) w.heap.size 5 size size (ys.set z x) xd ?_ ?_ ?_ ?_ ?_ ?_); (focus (intro hh; first | rfl | (have h30 := N30.out; omega))); (focus (have h30 := N30.out; omega)); (focus (have h30 := N30.out; omega)); (focus ((repeat (with_reducible first | exact hOW | refine Own.drew ?_)); done)); (focus ((repeat (with_reducible first | exact hEE | refine RdE.drew ?_)); done)); intro w9 ho9 hg9))
        all_goals
          have bl9 : Below w.heap.size w w9 := (hbW.drew).grown hg9 hwW (fun q hq => by injection hq with hq; omega)
          go_wp2
          go_roundw
          case rel => exact ⟨k + 1, by omega, by go_num, by rw [HSN.out, IntWalk.i64_in (1 + (n3 : Int)) (by omega), IntWalk.i64_in _ (by omega)]; simp, by rw [HT.out]; exact ho9, bl9⟩
          case measure => simp [intOf]; omega
      · have hcap' : ¬ size = z + 1 := hcap
        have N30 := Lib.hid hfit
        go_region_held3 (fun w' => w'.cell? ⟨H0, 1, none⟩ = some (.slice A3 n3 c3)) ((refine Has.cell ?_; (repeat (with_reducible first | exact hXW | refine Has.drew ?_ | refine Has.grown ?_ hg9 hneG)))) (first
            | ((refine step_copy_lay _ rfl (.tmp 38) (.tmp 40) 24 24 rfl 5 Try.underlying24 Try.szU8 _ _ _ A3 n3 c3 rfl rfl G (z + 1) w.heap.size 5 size size (ys.set z x) xd ?_ ?_ ?_ ?_ ?_ ?_); (focus (intro hh; first | rfl | (have h30 := N30.out; omega))); (focus (have h30 := N30.out; omega)); (focus (have h30 := N30.out; omega)); (focus ((repeat (with_reducible first | exact hOW | refine Own.drew ?_)); done)); (focus ((repeat (with_reducible first | exact hEE | refine RdE.drew ?_)); done)); intro w9 ho9 hg9))
        all_goals
          have bl9 : Below w.heap.size w w9 := (hbW.drew).grown hg9 hwW (fun q hq => by injection hq with hq; omega)
          go_wp2
          go_roundw
          case rel => exact ⟨k + 1, by omega, by go_num, by rw [HSN.out, IntWalk.i64_in (1 + (n3 : Int)) (by omega), IntWalk.i64_in _ (by omega)]; simp, by rw [HT.out]; exact ho9, bl9⟩
          case measure => simp [intOf]; omega
    · go_wp2
      go_ret2
      rw [List.take_of_length_le (by rw [HL.out]; omega)] at hO
      exact ⟨_, _, _, rfl, hO, hb⟩

end Go.Proofs.Ytgjnkaakhfbblaa
