/- The shapes of package scroll's data in memory; the contract of scroll.Bytes. No law is claimed here. -/
import Derived.Test.YtkgccoghdalniaaMem
namespace Go.Proofs.Ytkgccoghdalniaa
open Go.RowKit

/-- slices of bytes as elements -/
def shS : Shape (Option Addr × Nat × Nat) (List UInt8) where
  k := 1
  raw s := [sv s]
  Ok w S s ys := Rdp bv w S s.1 s.2.1 s.2.2 ys
  pos := by omega
  len _ := rfl
  one r u h := by simp at h; subst h; rfl
  keep h hk hS := h.keep hk hS

/-- a write; how it lies as a struct of three cells -/
structure Wm where
  side : UInt8
  pl : Int
  data : List UInt8
structure RawW where
  side : UInt8
  pl : Int
  A : Option Addr
  n : Nat
  c : Nat
def shW (k1 k2 : IntKind) : Shape RawW Wm where
  k := 3
  raw r := [.int k1 (r.side.toNat : Int), .int k2 r.pl, .slice r.A r.n r.c]
  Ok w S r x := r.side = x.side ∧ r.pl = x.pl ∧ Rdp bv w S r.A r.n r.c x.data
  pos := by omega
  len _ := rfl
  one r u h := by simp at h; rcases h with rfl | rfl | rfl <;> rfl
  keep h hk hS := ⟨h.1, h.2.1, h.2.2.keep hk hS⟩

theorem rdW_at {k1 k2 : IntKind} {w : World} {S : Nat → Prop} {A : Option Addr} {n c : Nat} {ws : List Wm} (h : RdX (shW k1 k2) w S A n c ws) (j : Nat) (hj : j < ws.length) :
    ∃ b off A' n' c', A = some ⟨b, off, none⟩ ∧ S b ∧ w.cell? ⟨b, off + j * 3, none⟩ = some (.int k1 (ws[j].side.toNat : Int)) ∧ w.cell? ⟨b, off + j * 3 + 1, none⟩ = some (.int k2 ws[j].pl) ∧
      w.cell? ⟨b, off + j * 3 + 2, none⟩ = some (.slice A' n' c') ∧ Rdp bv w S A' n' c' ws[j].data := by
  obtain ⟨b, off, e, hb, r, hc, h1, h2, h3⟩ := h.at_ j hj
  refine ⟨b, off, r.A, r.n, r.c, e, hb, ?_, ?_, ?_, h3⟩
  · have := hc 0 _ rfl; rw [← h1]; exact this
  · have := hc 1 _ rfl; rw [← h2]; exact this
  · exact hc 2 _ rfl
theorem rdS_at {w : World} {S : Nat → Prop} {A : Option Addr} {n c : Nat} {yss : List (List UInt8)} (h : RdX shS w S A n c yss) (j : Nat) (hj : j < yss.length) :
    ∃ b off A' n' c', A = some ⟨b, off, none⟩ ∧ S b ∧ w.cell? ⟨b, off + j, none⟩ = some (.slice A' n' c') ∧ Rdp bv w S A' n' c' yss[j] := by
  obtain ⟨b, off, e, hb, r, hc, h3⟩ := h.at_ j hj
  refine ⟨b, off, r.1, r.2.1, r.2.2, e, hb, ?_, h3⟩
  have := hc 0 _ rfl
  rw [show off + j * shS.k + 0 = off + j from by show off + j * 1 + 0 = off + j; omega] at this
  exact this

/-- the frames of a group's writes, of the group -/
def recF (g : Nat) (i : Nat) (x : Wm) : List UInt8 := frameN (recC g i x.side x.pl.toNat x.data)
def recsN (g : Nat) (ws : List Wm) : List (List UInt8) := ws.mapIdx (recF g)
def bytesN (g : Nat) (ws : List Wm) : List (List UInt8) := recsN g ws ++ [frameN (markC g ws.length)]
theorem recsN_snoc (g : Nat) (ws : List Wm) (k : Nat) (h : k < ws.length) : recsN g (ws.take (k + 1)) = recsN g (ws.take k) ++ [recF g k ws[k]] := by
  unfold recsN
  rw [List.take_succ_eq_append_getElem h, List.mapIdx_concat]
  simp [Nat.min_eq_left (Nat.le_of_lt h)]
theorem recsN_len (g : Nat) (ws : List Wm) : (recsN g ws).length = ws.length := by simp [recsN]

theorem Try.infoBs : (Try.prog.info? 23).map (fun i => (i.zero, i.size, i.bytes)) = some (some (.slice none 0 0), 1, 24) := by kernel_rfl

/-- a call that makes slices of bytes -/
def RetLL (w : World) (yss : List (List UInt8)) (r : Ending) (w' : World) : Prop :=
  ∃ A n c, r = .returned (.slice A n c) ∧ RdX shS w' (fun b => w.heap.size ≤ b ∧ b < w'.heap.size) A n c yss ∧ Below w.heap.size w w'

/-- writes that are in bounds -/
def Wfit (x : Wm) : Prop := 0 ≤ x.pl ∧ x.pl < 4294967296 ∧ x.data.length ≤ 6000

set_option maxRecDepth 100000 in
set_option maxHeartbeats 2000000 in
theorem bytes_any (g : Int) (A : Option Addr) (n c : Nat) (S : Nat → Prop) (ws : List Wm) (w : World) (hr : RdX (shW .u8 .u32) w S A n c ws) (hS : ∀ b, S b → b < w.heap.size) (hg : 0 ≤ g) (hg2 : g < 4294967296) (hn : n ≤ 1000)
    (hf : Hid (∀ x ∈ ws, Wfit x)) :
    Calls Try.prog 17 #[.agg #[.int .u32 g, .slice A n c]] w (RetLL w (bytesN g.toNat ws)) := by
  have HL := Lib.hid hr.len
  obtain ⟨i0, hi, hz0, hz1, hz2⟩ := info_parts Try.infoBs
  go_enter Try.func17, Try.ntmps17
  go_wp2_with (at_make
               go_loud (refine wpList_make_own _ rfl _ _ 45 rfl (w.heap.size + 1) 23 i0 _ 1 Try.underlying45 hi hz0 hz1 .i64 .i64 _ (n + 1) rfl rfl (by omega) (by rw [hz2]; omega) (by simp only [maxLen]; omega) (by simp) ?_)
               intro w4 hown4 hg4
               have ho4 : OwnX shS w4 (w.heap.size + 1) 23 (fun _ => False) (some ⟨w.heap.size + 1, 0, none⟩) 0 (n + 1) [] [] := ⟨show w4.ownsRow _ _ 1 _ _ [] from by simpa using hown4, rfl, rfl, fun j r x h => by simp at h⟩
               have hb4 : Below (w.heap.size + 1) (w.alloc (.cells #[.int .u32 g, .slice A n c] 52)) w4 := (Below.refl _ _).grown hg4 (by simp) (by simp)
               have k1 : w4.cell? ⟨w.heap.size, 1, none⟩ = some (.slice A n c) := box_cell hb4 1
               clear hown4 hg4)
  go_loopw [3, 14] (fun v i wr => ∃ (k : Nat) (A' : Option Addr) (n' c' : Nat) (ss : List (Option Addr × Nat × Nat)), k ≤ n ∧ n' ≤ k ∧ i = .int .i64 k ∧ v = .slice A' n' c' ∧
      OwnX shS wr (w.heap.size + 1) 23 (fun b => w.heap.size + 1 ≤ b ∧ b < wr.heap.size ∧ Off A' b) A' n' c' ss (recsN g.toNat (ws.take k)) ∧ Below (w.heap.size + 1) (w.alloc (.cells #[.int .u32 g, .slice A n c] 52)) wr)
    (fun _ i _ => n - (intOf i).toNat)
  case atStart => exact ⟨0, _, 0, n + 1, [], Nat.zero_le _, Nat.zero_le _, rfl, rfl, ho4.sub (fun _ h => h.elim), hb4⟩
  case round =>
    obtain ⟨k, A', n', c', ss, hk, hnk, rfl, rfl, hown, hb⟩ := hrel
    have hsz : w.heap.size + 1 ≤ wr.heap.size := by have := hb.size; simp at this; omega
    by_cases hlt : k < n
    · have hkx : k < ws.length := by rw [HL.out]; exact hlt
      have hkp : Kp S w wr := (Kp.alloc hS _).trans (Kp.below hb (fun b hb => by have := hS b hb; omega))
      have hrk := hr.keep hkp (fun _ h => h)
      obtain ⟨b, off, A2, n2, c2, rfl, hSb, hc0, hc1, hc2, hrd⟩ := rdW_at hrk k hkx
      have HT := Lib.hid (recsN_snoc g.toNat ws k hkx)
      have hfx := hf.out ws[k] (List.getElem_mem hkx)
      unfold Wfit at hfx
      have hl2 := hrd.len
      unfold recF at HT
      generalize ws[k] = x at *
      obtain ⟨xs, xa, xd⟩ := x
      simp only at *
      have hn2 : n2 ≤ 6000 := by omega
      obtain ⟨hx0, hx1, _⟩ := hfx
      clear hl2 hkp hrk
      have hbA := hb.alloc hsz (.cells #[.int .u8 (xs.toNat : Int), .int .u32 xa, .slice A2 n2 c2] 44)
      have g0 : (wr.alloc (.cells #[.int .u8 (xs.toNat : Int), .int .u32 xa, .slice A2 n2 c2] 44)).cell? ⟨w.heap.size, 0, none⟩ = some (.int .u32 g) := box_cell hbA 0
      have r1 : Rd bv (wr.alloc (.cells #[.int .u8 (xs.toNat : Int), .int .u32 xa, .slice A2 n2 c2] 44)) w.heap.size A2 n2 c2 xd := (hrd.rd hS).alloc (by omega) _
      go_wp2_with fail
      refine (wbytes_any xs xa g k A2 n2 c2 w.heap.size xd _ r1 (by simp; omega) hn2 hx0 hx1 hg hg2 (by omega) (by omega)).mono ?_
      rintro e w5 ⟨A5, n5, c5, rfl, ho5, hb5⟩
      rw [Int.toNat_natCast] at ho5
      have hsA : (wr.alloc (.cells #[.int .u8 (xs.toNat : Int), .int .u32 xa, .slice A2 n2 c2] 44)).heap.size = wr.heap.size + 1 := by simp
      rw [hsA] at hb5 ho5
      have hs5 : wr.heap.size + 1 ≤ w5.heap.size := by have := hb5.size; rw [hsA] at this; exact this
      have bl5 := hbA.trans (hb5.mono (by omega))
      have hb5' : Below wr.heap.size wr w5 := ((Below.refl _ _).alloc (Nat.le_refl _) _).trans (hb5.mono (by omega))
      clear hsA hbA g0 r1 hb5
      have hown5 : OwnX shS w5 (w.heap.size + 1) 23 (fun b => w.heap.size + 1 ≤ b ∧ b < w5.heap.size ∧ Off A' b) A' n' c' ss (recsN g.toNat (ws.take k)) := (hown.below hb5' (fun b h => h.2.1)).sub (fun b h => ⟨h.1, by omega, h.2.2⟩)
      have hof : ∀ b, wr.heap.size ≤ b → Off A' b := fun b h => hown.off h
      have r5 : Rdp bv w5 (fun b => w.heap.size + 1 ≤ b ∧ b < w5.heap.size ∧ Off A' b) A5 n5 c5 (frameN (recC g.toNat k xs xa.toNat xd)) := ho5.rdp.keep (Kp.refl _ _) (fun b h => ⟨by omega, h.2, hof b (by omega)⟩)
      clear hown hof ho5
      go_wp2_with (at_builtin
                   refine wpList_push shS _ rfl (.tmp 19) (.tmp 25) 45 rfl (w.heap.size + 1) 23 i0 _ 24 Try.underlying45 hi hz0 hz1 hz2 rfl _ A' n' c' ss _ rfl hown5 _ _ _ _ _ (A5, n5, c5) _ rfl rfl rfl r5 (fun b h => ⟨h.2.1, h.2.2⟩) (by simp only [maxLen]; omega) (by omega) (by omega) ?_
                   intro g6 c6 w6 hown6 hg6 hat6 hlt6)
      have bl6 : Below (w.heap.size + 1) (w.alloc (.cells #[.int .u32 g, .slice (some ⟨b, off, none⟩) n c] 52)) w6 := bl5.grown hg6 (by omega) (fun k hk => (hown5.lt k hk).1)
      go_roundw
      case rel =>
        refine ⟨k + 1, _, n' + 1, c6, ss ++ [(A5, n5, c5)], by omega, by omega, by go_num, rfl, ?_, bl6⟩
        rw [HT.out]
        exact hown6.sub (fun b h => ⟨h.1, by have := hg6.size; omega, off_pushed hat6 (by omega) h.2.2⟩)
      case measure => simp [intOf]; omega
    · have HE : Hid (bytesN g.toNat ws = recsN g.toNat (ws.take k) ++ [frameN (markC g.toNat n)]) := by
        rw [List.take_of_length_le (by rw [HL.out]; omega)]; show _ = _; rw [bytesN, HL.out]
      have g0 : wr.cell? ⟨w.heap.size, 0, none⟩ = some (.int .u32 g) := box_cell hb 0
      have g1 : wr.cell? ⟨w.heap.size, 1, none⟩ = some (.slice A n c) := box_cell hb 1
      go_wp2_with fail
      refine (mark_any g n _ hg hg2 (by omega) (by omega)).mono ?_
      rintro e w5 ⟨A5, n5, c5, rfl, ho5, hb5⟩
      rw [Int.toNat_natCast] at ho5
      have hs5 := hb5.size
      have bl5 := hb.trans (hb5.mono (by omega))
      clear g0 g1
      have hown5 : OwnX shS w5 (w.heap.size + 1) 23 (fun b => w.heap.size + 1 ≤ b ∧ b < w5.heap.size ∧ Off A' b) A' n' c' ss (recsN g.toNat (ws.take k)) := (hown.below hb5 (fun b h => h.2.1)).sub (fun b h => ⟨h.1, by omega, h.2.2⟩)
      have hof : ∀ b, wr.heap.size ≤ b → Off A' b := fun b h => hown.off h
      have r5 : Rdp bv w5 (fun b => w.heap.size + 1 ≤ b ∧ b < w5.heap.size ∧ Off A' b) A5 n5 c5 (frameN (markC g.toNat n)) := ho5.rdp.keep (Kp.refl _ _) (fun b h => ⟨by omega, h.2, hof b (by omega)⟩)
      clear hown hof ho5
      go_wp2_with (at_builtin
                   refine wpList_push shS _ rfl (.tmp 28) (.tmp 35) 45 rfl (w.heap.size + 1) 23 i0 _ 24 Try.underlying45 hi hz0 hz1 hz2 rfl _ A' n' c' ss _ rfl hown5 _ _ _ _ _ (A5, n5, c5) _ rfl rfl rfl r5 (fun b h => ⟨h.2.1, h.2.2⟩) (by simp only [maxLen]; omega) (by omega) (by omega) ?_
                   intro g6 c6 w6 hown6 hg6 hat6 hlt6)
      have bl6 : Below (w.heap.size + 1) (w.alloc (.cells #[.int .u32 g, .slice A n c] 52)) w6 := bl5.grown hg6 (by omega) (fun k hk => (hown5.lt k hk).1)
      go_ret
      refine ⟨_, _, c6, rfl, ?_, ((Below.refl _ _).alloc (Nat.le_refl _) _).trans (bl6.mono (by omega))⟩
      rw [HE.out]
      exact hown6.rd (fun b h => ⟨by omega, by have := hg6.size; omega⟩) (fun b h => by have := hown6.lt b h; exact ⟨by omega, this.2⟩)

end Go.Proofs.Ytkgccoghdalniaa
