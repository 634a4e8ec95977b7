/- Contract of block.Disk. No law is claimed here. -/
import Derived.Test.YtdefkajjpilicaaBlk3
import Derived.Test.YtdefkajjpilicaaK3
namespace Go.Proofs.Ytdefkajjpilicaa
open Go.RowKit

/-- lists of blocks as elements -/
def shBL : Shape (Option Addr × Nat × Nat) (List Bm) where
  k := 1
  raw s := [sv s]
  Ok w S s l := RdX shB w S s.1 s.2.1 s.2.2 l
  pos := by omega
  len _ := rfl
  one r u h := by simp at h; subst h; rfl
  keep h hk hS := h.keep hk hS
theorem rdBL_at {w : World} {S : Nat → Prop} {A : Option Addr} {n c : Nat} {yss : List (List Bm)} (h : RdX shBL w S A n c yss) (j : Nat) (hj : j < yss.length) :
    ∃ b off A' n' c', A = some ⟨b, off, none⟩ ∧ S b ∧ w.cell? ⟨b, off + j, none⟩ = some (.slice A' n' c') ∧ RdX shB w S A' n' c' yss[j] := by
  obtain ⟨b, off, e, hb, r, hc, h3⟩ := h.at_ j hj
  refine ⟨b, off, r.1, r.2.1, r.2.2, e, hb, ?_, h3⟩
  have := hc 0 _ rfl
  rw [show off + j * shBL.k + 0 = off + j from by show off + j * 1 + 0 = off + j; omega] at this
  exact this

theorem OE.ownB {w : World} {base : Nat} {e : TypeId} {Aw : Option Addr} {n c : Nat} {rs : List RawB} {xs : List Bm} (h : OE shB w base e Aw n c rs xs) : w.ownsRow base e 2 (.slice Aw n c) n (rs.flatMap shB.raw) := OwnX.own h
/-- append of one block that was laid some time ago, at a step of a region whose order is open -/
theorem step_pushB {P : Program} {ops : Array Oper} {o : Oper} {a : Act} {K : Act → World → Prop} {Q : Exit → Act → World → Prop} {E : Prop} (w : World) (hgd : o.guard = none) (s x : Operand) (t : TypeId)
    (ho : o.op = .call { callee := .builtin .append, args := #[s, x], argTypes := #[t, t] }) (w0 : World) (e : TypeId) (i : TypeInfo) (z : Value) (bytes : Nat) (ht : P.underlying t = some (.slice e)) (hi : P.info? e = some i) (hz : i.zero = some z)
    (hsize : i.size = 2) (hby : i.bytes = bytes) (hzs : z.cells.size = 2) (Aw : Option Addr) (nw cw : Nat) (rsw : List RawB) (gl : List Bm) (kd : UInt8) (A5 : Option Addr) (n4 c5 : Nat) (ys : List UInt8)
    (hs : a.eval s = .slice Aw nw cw) (g0 : Nat) (hx : a.eval x = .slice (some ⟨g0, 0, none⟩) 1 1) (h63 : nw + 1 ≤ maxLen) (hbytes : (nw + 1) * bytes ≤ 140737488355328)
    (hO : OE shB w w0.heap.size e Aw nw cw rsw gl) (h0 : Has w g0 0 (.int .u8 (kd.toNat : Int))) (h1 : Has w g0 1 (.slice A5 n4 c5)) (hB : BlE w0 w) (hX : PE bv w Aw A5 n4 c5 ys)
    (h : ∀ g cap w', OE shB w' w0.heap.size e (some ⟨g, 0, none⟩) (nw + 1) cap (rsw ++ [⟨kd, A5, n4, c5⟩]) (gl ++ [⟨kd, ys⟩]) → w.grownBy w' (Aw.map (·.block)) → (Aw.map (·.block) = some g ∨ g = w.heap.size) →
      K (a.put o.dst (.slice (some ⟨g, 0, none⟩) (nw + 1) cap)) w') :
    if Region.wanted o (yielded ops a.tmps) = true then Oper.wp P o a w K Q else E := by
  refine step_append_lies w hgd s x t ho w0.heap.size e i z 2 bytes ht hi hz hsize hby hzs (by omega) (.slice Aw nw cw) nw _ hs hO.ownB ⟨g0, 0, none⟩ 1 1 [.int .u8 (kd.toNat : Int), .slice A5 n4 c5] hx rfl (news_two h0 h1) (shB.one ⟨kd, A5, n4, c5⟩) (by omega) h63 hbytes (Below.size hB) _ rfl ?_
  intro g cap w' hown hg hat _
  rw [ownBlock_slice] at hg hat
  exact h g cap w' (OE.pushed hO (x := ⟨kd, ys⟩) ⟨rfl, hX⟩ hown hg hat) hg hat

theorem clone_E (A : Option Addr) (n c : Nat) (xs : List UInt8) (w : World) (hr : RdE bv w A n c xs) (hn : n ≤ 1099511627776) : Calls Try.prog 28 #[.slice A n c] w (RetL bv 5 w xs) := clone_any A n c w.heap.size xs w hr (Nat.le_refl _) hn

/-- the head of a side -/
def dheadN (sign : List UInt8) (side : UInt8) : List UInt8 := (lay (List.replicate 55 0) 0 (sign.take 14)).set 20 side
def diskN (sign : List UInt8) (side : UInt8) (fs : List (List Bm)) : List Bm := [⟨1, dheadN sign side⟩, ⟨2, [u8N (fs.length % 256)]⟩] ++ fs.flatten

theorem Try.infoBt : (Try.prog.info? 49).map (fun i => (i.zero, i.size, i.bytes)) = some (some (.agg #[.int .u8 0, .slice none 0 0]), 2, 32) := by kernel_rfl
theorem Try.mk55 (w : World) : (Instr.makeSlice 24 (.int .i64 55) (.int .i64 55)).run Try.prog w = .ok (.slice (some ⟨w.heap.size, 0, none⟩) 55 55) (w.alloc (.cells ((List.replicate 55 (0 : UInt8)).map bv).toArray 5)) := by kernel_rfl

set_option maxRecDepth 100000 in
set_option maxHeartbeats 2000000 in
theorem disk_any (sign : ByteArray) (side : UInt8) (A : Option Addr) (n c : Nat) (S : Nat → Prop) (fs : List (List Bm)) (w : World) (hr : RdX shBL w S A n c fs) (hS : ∀ b, S b → b < w.heap.size) (hn : n ≤ 100000) (ht : fs.flatten.length ≤ 100000)
    (hd : Hid (∀ x ∈ fs.flatten, x.data.length ≤ 100000)) :
    Calls Try.prog 22 #[.string sign, .int .u8 (side.toNat : Int), .slice A n c] w (RetB w (diskN (strN sign) side fs)) := by
  have hmk := Try.mk55
  obtain ⟨i0, hi, hz0, hz1, hz2⟩ := info_parts Try.infoBt
  have HL := Lib.hid hr.len
  have ho0 : Own bv (w.alloc (.cells ((List.replicate 55 (0 : UInt8)).map bv).toArray 5)) w.heap.size 5 (some ⟨w.heap.size, 0, none⟩) 55 55 (List.replicate 55 0) := Own.fresh _ _ _ _ _ _ rfl rfl (by simp [maxLen]) rfl
  have hb0 : Below w.heap.size w (w.alloc (.cells ((List.replicate 55 (0 : UInt8)).map bv).toArray 5)) := (Below.refl _ _).alloc (Nat.le_refl _) _
  obtain ⟨w1, hcp, ho1, hg1⟩ := run_copy_lay (P := Try.prog) _ 24 9 3 5 w.heap.size 0 14 55 sign _ _ 55 55 _ Try.underlying24 Try.szU8 ho0 (by omega)
  generalize ((strN sign).take 14).length = k1 at hcp
  have hb1 : Below w.heap.size w w1 := hb0.grown hg1 (by simp) (fun k hk => by injection hk with hk; omega)
  clear hb0 ho0 hg1
  generalize ((List.replicate 55 (0 : UInt8)).map bv).toArray = cs0 at *
  have hc20 := ho1.at_ 20 (by rw [ho1.len]; omega)
  have fz := ho1.frozen 20
  have ho2 := ho1.stored 20 side
  have hg2 := ho1.storedG 20 (bv side)
  have hb2 := hb1.grown hg2 hb1.size (fun k hk => by injection hk with hk; omega)
  unfold bv at hc20
  generalize (lay _ 0 _)[20]'_ = y at hc20
  have hW : w1.setCell ⟨w.heap.size, 20, none⟩ (bv side) = w1.setCell ⟨w.heap.size, 20, none⟩ (.int .u8 (side.toNat : Int)) := rfl
  rw [hW] at ho2 hb2
  have hcv : (n : Int) % 256 = ((u8N (n % 256)).toNat : Int) := by rw [u8N_toNat _ (by omega)]; omega
  have hsz2 : (w1.setCell ⟨w.heap.size, 20, none⟩ (.int .u8 (side.toNat : Int))).heap.size = w1.heap.size := by simp
  have hbs := hb2.size
  have HD : Hid ((lay (List.replicate 55 0) 0 ((strN sign).take 14)).set 20 side = dheadN (strN sign) side) := rfl
  rw [HD.out] at ho2
  have HE : Hid (diskN (strN sign) side fs = [⟨1, dheadN (strN sign) side⟩, ⟨2, [u8N (n % 256)]⟩] ++ fs.flatten) := by unfold diskN; rw [HL.out]; exact rfl
  clear hg2 hW ho1 hb1
  go_enter Try.func22, Try.ntmps22
  go_wp2_with fail
  generalize w1.setCell ⟨w.heap.size, 20, none⟩ (.int .u8 (side.toNat : Int)) = w2 at *
  rw [hcv]
  rw [← hsz2]
  clear hsz2
  generalize u8N (n % 256) = nb at *
  have r1 : Rd bv (w2.alloc (.cells #[.int .u8 (nb.toNat : Int)] 5)) (w2.heap.size + 1) (some ⟨w2.heap.size, 0, none⟩) 1 1 [nb] := Rd.one (f := bv) w2 5 nb
  have hO0 : OE shB ((w2.alloc (.cells #[.int .u8 (nb.toNat : Int)] 5)).alloc (.cells #[.int .u8 1, .slice (some ⟨w.heap.size, 0, none⟩) 55 55, .int .u8 2, .slice (some ⟨w2.heap.size, 0, none⟩) 1 1] 49)) w.heap.size 49 (some ⟨w2.heap.size + 1, 0, none⟩) 2 2
      [⟨1, some ⟨w.heap.size, 0, none⟩, 55, 55⟩, ⟨2, some ⟨w2.heap.size, 0, none⟩, 1, 1⟩] [⟨1, dheadN (strN sign) side⟩, ⟨2, [nb]⟩] := by
    refine OwnX.lower (OwnX.fresh shB (w2.alloc (.cells #[.int .u8 (nb.toNat : Int)] 5)) 49 _ _ _ _ 2 _ rfl rfl rfl (by simp [maxLen]) (by simp) ?_) (by simp; omega)
    intro j r x h1 h2
    have k1 : ∀ o o', Kp (fun b => w.heap.size ≤ b ∧ b < w2.heap.size) w2 ((w2.alloc o).alloc o') := fun o o' => (Kp.alloc (fun b h => h.2) o).trans (Kp.alloc (fun b h => by simp; omega) o')
    match j, h1, h2 with
    | 0, h1, h2 =>
      simp at h1 h2
      subst h1; subst h2
      exact ⟨rfl, ho2.rdp.keep (k1 _ _) (fun b h => ⟨by simp; omega, by rw [off_some]; omega, off_none _⟩)⟩
    | 1, h1, h2 =>
      simp at h1 h2
      subst h1; subst h2
      exact ⟨rfl, (r1.toP (S := (· = w2.heap.size)) rfl).keep (Kp.alloc (fun b h => by simp; omega) _) (fun b h => ⟨by simp; omega, by rw [off_some]; omega, off_none _⟩)⟩
  have hB0 : BlE w ((w2.alloc (.cells #[.int .u8 (nb.toNat : Int)] 5)).alloc (.cells #[.int .u8 1, .slice (some ⟨w.heap.size, 0, none⟩) 55 55, .int .u8 2, .slice (some ⟨w2.heap.size, 0, none⟩) 1 1] 49)) := BlE.alloc (BlE.alloc hb2)
  generalize ([⟨1, dheadN (strN sign) side⟩, ⟨2, [nb]⟩] : List Bm) = b2 at *
  generalize (w2.alloc (.cells #[.int .u8 (nb.toNat : Int)] 5)).alloc (.cells #[.int .u8 1, .slice (some ⟨w.heap.size, 0, none⟩) 55 55, .int .u8 2, .slice (some ⟨w2.heap.size, 0, none⟩) 1 1] 49) = W0 at *
  have hb22 : b2.length = 2 := hO0.len
  clear r1 ho2 hmk hcp fz hc20 HD hb2
  go_loopw [8, 31] (fun v i wr => ∃ (k : Nat) (Aw : Option Addr) (nw cw : Nat) (rsw : List RawB), k ≤ n ∧ i = .int .i64 k ∧ v = .slice Aw nw cw ∧ OE shB wr w.heap.size 49 Aw nw cw rsw (b2 ++ (fs.take k).flatten) ∧ BlE w wr)
    (fun _ i _ => n - (intOf i).toNat)
  case atStart => exact ⟨0, _, 2, 2, _, Nat.zero_le _, rfl, rfl, by simpa using hO0, hB0⟩
  case round =>
    obtain ⟨k, Aw, nw, cw, rsw, hk, rfl, rfl, hO, hB⟩ := hrel
    have hsz : w.heap.size ≤ wr.heap.size := BlE.sz hB
    by_cases hlt : k < n
    · have hkx : k < fs.length := by rw [HL.out]; exact hlt
      obtain ⟨b, off, A3, n3, c3, rfl, hSb, hc0, hrd⟩ := rdBL_at (hr.keep (Kp.below hB hS) (fun _ h => h)) k hkx
      have hrw : RdX shB w S A3 n3 c3 fs[k] := by
        obtain ⟨b', off', A3', n3', c3', e', _, hc0', hrd'⟩ := rdBL_at hr k hkx
        injection e' with e'; injection e' with e1 e2; subst e1; subst e2
        have h1 := (Below.cell hB (p := ⟨b, off + k, none⟩) (hS b hSb)).symm.trans hc0
        rw [hc0'] at h1
        injection h1 with h1; injection h1 with h1 h2 h3; subst h1; subst h2; subst h3
        exact hrd'
      have HT := Lib.hid (flatten_take_snoc fs k hkx)
      have HF : Hid (∀ x ∈ fs[k], x.data.length ≤ 100000) := fun x hx => hd.out x (List.mem_flatten.2 ⟨_, List.getElem_mem hkx, hx⟩)
      have hle := flatten_take_le fs (k + 1)
      rw [HT.out, List.length_append, hrw.len] at hle
      have hle2 : ((fs.take k).flatten).length + n3 ≤ 100000 := by omega
      have HL3 := Lib.hid hrw.len
      clear hrd hle
      generalize fs[k] = f at *
      go_wp2_with fail
      go_loopw [8, 37] (fun v i wr => ∃ (j : Nat) (Aw : Option Addr) (nw cw : Nat) (rsw : List RawB), j ≤ n3 ∧ i = .int .i64 j ∧ v = .slice Aw nw cw ∧ OE shB wr w.heap.size 49 Aw nw cw rsw (b2 ++ (fs.take k).flatten ++ f.take j) ∧ BlE w wr)
        (fun _ i _ => n3 - (intOf i).toNat)
      case atStart => exact ⟨0, Aw, nw, cw, rsw, Nat.zero_le _, rfl, rfl, by simpa using hO, hB⟩
      case round =>
        clear hO hB hsz hc0
        obtain ⟨j, Aw, nw, cw, rsw, hj, rfl, rfl, hO, hB⟩ := hrel
        have hsz : w.heap.size ≤ wr.heap.size := BlE.sz hB
        have hnw : nw ≤ 100002 := by
          have h1 := hO.len
          rw [List.length_append, List.length_append, hb22, List.length_take] at h1
          omega
        by_cases hltj : j < n3
        · have hjx : j < f.length := by rw [HL3.out]; exact hltj
          obtain ⟨b3, off3, A4, n4, c4, rfl, hSb3, hd0, hd1, hrd⟩ := rdB_at (hrw.keep (Kp.below hB hS) (fun _ h => h)) j hjx
          have HT4 : Hid (b2 ++ (fs.take k).flatten ++ f.take (j + 1) = b2 ++ (fs.take k).flatten ++ f.take j ++ [⟨f[j].kind, f[j].data⟩]) := by
            show _ = _; rw [List.take_succ_eq_append_getElem hjx, ← List.append_assoc]
          have hn4 : n4 ≤ 100000 := by rw [← hrd.len]; exact HF.out _ (List.getElem_mem hjx)
          have hE4 : RdE bv wr A4 n4 c4 f[j].data := hrd.rd (fun b h => by have := hS b h; omega)
          clear hrd
          generalize f[j].data = xd at *
          generalize f[j].kind = xk at *
          have hX0 : Has (wr.alloc (.cells #[.int .u8 (xk.toNat : Int), .slice A4 n4 c4] 49)) wr.heap.size 0 (.int .u8 (xk.toNat : Int)) := Has.made rfl rfl
          have hX1 : Has (wr.alloc (.cells #[.int .u8 (xk.toNat : Int), .slice A4 n4 c4] 49)) wr.heap.size 1 (.slice A4 n4 c4) := Has.made rfl rfl
          have hXo : some wr.heap.size ≠ Aw.map (·.block) := OwnX.off hO (Nat.le_refl _)
          have hO6 := OE.alloc hO (o := (.cells #[.int .u8 (xk.toNat : Int), .slice A4 n4 c4] 49))
          have hB6 := BlE.alloc hB (o := (.cells #[.int .u8 (xk.toNat : Int), .slice A4 n4 c4] 49))
          have hE6 := RdE.alloc hE4 (o := (.cells #[.int .u8 (xk.toNat : Int), .slice A4 n4 c4] 49))
          have hlo := OE.lo hO6
          clear hO hB hE4
          generalize hBB : wr.heap.size = B0 at *
          go_wp2_with fail
          generalize wr.alloc (.cells #[.int .u8 (xk.toNat : Int), .slice A4 n4 c4] 49) = W at *
          have hX0c := hX0.cell
          have hX1c := hX1.cell
          obtain ⟨g7, c7', A5, n5, c5, _⟩ : ∃ (g c : Nat) (A5 : Option Addr) (n5 c5 : Nat), True := ⟨0, 0, none, 0, 0, trivial⟩
          go_region_held3 (fun w' => w'.cell? ⟨B0, 0, none⟩ = some (.int .u8 (xk.toNat : Int)) ∧ w'.cell? ⟨B0, 1, none⟩ = some (.slice A4 n4 c4))
            (refine ⟨Has.cell ?_, Has.cell ?_⟩ <;> (repeat (with_reducible first | exact hX0 | exact hX1 | refine Has.drew ?_ | refine Has.alloc ?_ | refine Has.below ?_ hbJ | refine Has.grown ?_ hg7 hXo)))
            (first
            | (go_at_call 28; (refine (clone_E A4 n4 c4 xd _ ?_ ?_).mono ?_); (focus ((repeat (with_reducible first | exact hE6 | refine RdE.drew ?_ | refine RdE.alloc ?_)); done)); (focus omega); (rintro e wJ ⟨A5, n5, c5, rfl, hoJ, hbJ⟩); (have PJ := OE.later hO6 (by (repeat (with_reducible first | exact BlE.refl _ | refine BlE.drew ?_ | refine BlE.alloc ?_ | refine BlE.below ?_ hbJ))) hoJ); have hlJ := hoJ.len)
            | ((refine step_pushB _ rfl (.tmp 41) (.tmp 48) 26 rfl w 49 i0 _ 32 Try.underlying26 hi hz0 hz1 hz2 rfl Aw nw cw rsw (b2 ++ (fs.take k).flatten ++ f.take j) xk A5 n5 c5 xd rfl _ rfl ?_ ?_ ?_ ?_ ?_ ?_ ?_ ?_); (focus (simp only [maxLen]; omega)); (focus omega); (focus ((repeat (with_reducible first | exact hO6 | refine OE.drew ?_ | refine OE.alloc ?_ | refine OE.below ?_ hbJ)); done)); (focus ((repeat (with_reducible first | (refine Has.made ?_ rfl; (simp; done)) | refine Has.drew ?_ | refine Has.alloc ?_ | refine Has.below ?_ hbJ)); done)); (focus ((repeat (with_reducible first | (refine Has.made ?_ rfl; (simp; done)) | refine Has.drew ?_ | refine Has.alloc ?_ | refine Has.below ?_ hbJ)); done)); (focus ((repeat (with_reducible first | exact hB6 | refine BlE.drew ?_ | refine BlE.alloc ?_ | refine BlE.below ?_ hbJ)); done)); (focus ((repeat (with_reducible first | exact PJ | refine PE.drew ?_ | refine PE.alloc ?_ | refine PE.below ?_ hbJ)); done)); intro g7 c7' w7 O7 hg7 hat7))
          all_goals
            go_wp2
            go_roundw
            case rel =>
              have fO : OE shB w7 w.heap.size 49 (some ⟨g7, 0, none⟩) (nw + 1) c7' (rsw ++ [⟨xk, A5, n5, c5⟩]) (b2 ++ (fs.take k).flatten ++ f.take (j + 1)) := by rw [HT4.out]; exact O7
              have fB : BlE w w7 := by (repeat (with_reducible first | exact hB6 | refine BlE.drew ?_ | refine BlE.alloc ?_ | refine BlE.below ?_ hbJ | refine BlE.grown ?_ hg7 hlo))
              exact ⟨j + 1, _, nw + 1, c7', _, by omega, by go_num, rfl, fO, fB⟩
            case measure => simp [intOf]; omega
        · have hjn : f.take j = f := List.take_of_length_le (by rw [HL3.out]; omega)
          rw [hjn, List.append_assoc, ← HT.out] at hO
          go_wp2
          go_roundw
          case rel => exact ⟨k + 1, Aw, nw, cw, rsw, by omega, by go_num, rfl, hO, hB⟩
          case measure => simp [intOf]; omega
    · go_wp2
      go_ret
      rw [List.take_of_length_le (by rw [HL.out]; omega)] at hO
      rw [HE.out]
      exact ⟨_, _, _, rfl, OwnX.rd hO (fun b h => h.1) (fun b h => (OwnX.lt hO b h).2), hB⟩

end Go.Proofs.Ytdefkajjpilicaa
