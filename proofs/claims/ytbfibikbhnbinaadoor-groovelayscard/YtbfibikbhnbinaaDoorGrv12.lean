/- As much as goes on a side (walk). No law is claimed here. -/
import Derived.Test.YtbfibikbhnbinaaDoorGrv11
import Derived.Test.YtbfibikbhnbinaaDoorGrv6
import Derived.Test.YtbfibikbhnbinaaDoorBlk15
namespace Go.Proofs.YtbfibikbhnbinaaDoor
open Go.RowKit

/-- a side with one file of k noughts -/
def oneF (k : Nat) : List Bm := fileN 0 0 (strN ⟨#[]⟩) 0 0 (List.replicate k 0)
def oneL (k : Nat) : List Bm := diskN (strN ⟨#[]⟩) 0 [oneF k]
theorem oneL_full (k : Nat) : gFull (oneL k) = 4067 + k := by
  have h1 := dheadN_len (strN ⟨#[]⟩) 0
  have h2 := headN_len 0 0 (strN ⟨#[]⟩) 0 0 k
  unfold gFull gAt oneL oneF diskN fileN
  rw [List.take_length]
  simp only [List.flatten_cons, List.flatten_nil, List.append_nil, List.cons_append, List.nil_append, List.map_cons, List.map_nil, List.sum_cons, List.sum_nil, gRoom, h1, h2, List.length_cons, List.length_nil, List.length_replicate]
  omega
theorem oneF_is (k : Nat) (h : k < 65536) : ∀ f ∈ [oneF k], isFile f := fun f hf => by
  rw [List.mem_singleton.1 hf]; exact isFile_fileN _ _ _ _ _ _ (by simpa using h)
theorem oneL_len (k : Nat) (h : k < 65536) : (oneL k).length = 4 := diskN_len _ _ _ (oneF_is k h)
theorem oneL_rgt (k : Nat) (h : k < 65536) : rgtB (oneL k) = true := rgt_of_fits (by rw [oneL_len k h]; omega) (fits_diskN _ _ _ (oneF_is k h))
theorem oneF_data (k : Nat) (h : k < 65536) : ∀ x ∈ oneF k, x.data.length ≤ 100000 := fun x hx => by
  unfold oneF fileN at hx
  simp at hx
  rcases hx with rfl | rfl
  · simp [headN_len]
  · simp; omega
theorem oneL_data (k : Nat) (h : k < 65536) : ∀ x ∈ oneL k, x.data.length ≤ 100000 := disk_data _ _ _ (fun x hx => by simp at hx; exact oneF_data k h x hx)

set_option maxRecDepth 100000 in
set_option maxHeartbeats 1000000 in
/-- block.Disk of one file, as the law calls it -/
theorem diskOne (k : Nat) (h : k < 65536) (A : Option Addr) (n c g : Nat) (w : World) (hr : RdX shB w (· < w.heap.size) A n c (oneF k)) (hg : g = w.heap.size) :
    Calls Tryd.prog 20 #[.string { data := #[] }, .int .u8 0, .slice (some ⟨g, 0, none⟩) 1 1] (w.alloc (.cells #[.slice A n c] 24)) (RetB w (oneL k)) := by
  have hm : RdX shBL (w.alloc (.cells #[.slice A n c] 24)) (· < (w.alloc (.cells #[.slice A n c] 24)).heap.size) (some ⟨g, 0, none⟩) 1 1 [oneF k] :=
    RdX.madeX shBL w 24 (0, 0) #[.slice A n c] [(A, n, c)] [oneF k] g 1 _ rfl hg rfl rfl (by subst hg; simp) (fun j r x hr' hx => by
      match j, hr', hx with
      | 0, hr', hx => simp at hr' hx; subst hr'; subst hx; exact hr.keep (Kp.below ((Below.refl _ _).alloc (Nat.le_refl _) _) (fun b h => h)) (fun b h => by simp; omega))
  have F := disk_any ⟨#[]⟩ 0 (some ⟨g, 0, none⟩) 1 1 _ [oneF k] _ hm (fun b h => h) (by omega) (by simp [oneF, fileN]) (fun x hx => by simp at hx; exact oneF_data k h x hx)
  refine F.mono ?_
  rintro e w' ⟨A', n', c', rfl, r', hb⟩
  exact ⟨A', n', c', rfl, r', ((Below.refl _ _).alloc (Nat.le_refl _) _).trans (hb.mono (by simp))⟩

set_option maxRecDepth 100000 in
set_option maxHeartbeats 4000000 in
theorem grooveFits_walk (z : Int) (w : World) (hz : 0 ≤ z ∧ z < 65536) :
    Calls Tryd.prog 5 #[.int .u16 z] w fun e w' => e = .returned (.bool true) ∧ Below w.heap.size w w' := by
  obtain ⟨m, hm⟩ : ∃ m : Nat, z % 40 = (m : Int) := ⟨(z % 40).toNat, by omega⟩
  have hm40 : m < 40 := by omega
  obtain ⟨K, hK⟩ : ∃ K : Nat, K = 61449 + m := ⟨_, rfl⟩
  have HK := Lib.hid hK
  have hKI : (61449 : Int) + (m : Int) = (K : Int) := by omega
  have F0 := fun (w : World) => file_any 0 0 0 ⟨#[]⟩ 0 none 0 0 w.heap.size [] w Rd.nil (Nat.le_refl _) (by omega) (by omega) (by omega)
  have F1 := fun (w : World) (A : Option Addr) (h : Rd bv w w.heap.size A K K (List.replicate K 0)) => file_any 0 0 0 ⟨#[]⟩ 0 A K K w.heap.size _ w h (Nat.le_refl _) (by omega) (by omega) (by omega)
  have hmk := Tryd.mkN .i64 K (by omega)
  have hKb : K < 65536 := by omega
  have HFu := Lib.hid (oneL_full K)
  have HR := oneL_rgt K hKb
  have HL4 := Lib.hid (oneL_len K hKb)
  have HD : Hid (∀ x ∈ oneL K, x.data.length ≤ 100000) := oneL_data K hKb
  have HD0 : Hid (∀ x ∈ oneL 0, x.data.length ≤ 100000) := oneL_data 0 (by omega)
  have HL40 := Lib.hid (oneL_len 0 (by omega))
  have HFu0 := Lib.hid (oneL_full 0)
  have hmI : (m : Int) < 40 := by omega
  have hmJ : (0 : Int) ≤ (m : Int) := by omega
  obtain ⟨hz1, hz2⟩ := hz
  clear hK
  go_enter Tryd.func5, Tryd.ntmps5
  go_upto_region 3 with (go_at_call 6; refine (awake7_any _).mono ?_; rintro e w0 ⟨rfl, x0⟩)
  go_wp2_with fail
  refine (F0 w0).mono ?_
  rintro e w1 ⟨A1, n1, c1, rfl, r1, x1⟩
  have r1' : RdX shB w1 (· < w1.heap.size) A1 n1 c1 (oneF 0) := r1.keep (Kp.refl _ _) (fun b h => h.2)
  have b1 := x0.trans (x1.mono x0.size)
  go_wp2_with fail
  refine (diskOne 0 (by omega) A1 n1 c1 _ w1 r1' (by simp)).mono ?_
  rintro e w2 ⟨A2, n2, c2, rfl, r2, x2⟩
  have b2 := b1.trans (x2.mono b1.size)
  have hn2 : n2 ≤ 4 := by rw [← r2.len, HL40.out]; omega
  go_wp2_with fail
  refine (full_any A2 n2 c2 _ (oneL 0) w2 r2 (fun b h => h) (by omega) HD0).mono ?_
  rw [HFu0.out, show ((4067 + 0 : Nat) : Int) = 4067 from rfl]
  rintro e w3 ⟨rfl, x3⟩
  have b3 := b2.trans (x3.mono b2.size)
  clear r1 r1' r2 x1 x2 x3 b1 b2 x0 F0 HD0 HL40 HFu0
  have hO3 := Own.fresh (f := bv) w3 5 (List.replicate K 0) (zerosC K) K w3.heap.size rfl (by simp) (by simp only [maxLen]; omega) rfl
  have b3' := b3.alloc b3.size (.cells (zerosC K) 5)
  have hR3 := Lib.hid hO3.rd
  have hsz3 : (w3.alloc (.cells (zerosC K) 5)).heap.size = w3.heap.size + 1 := by simp
  clear hO3
  go_upto_region 6 with (first
    | (go_at_call 21; refine (F1 _ _ hR3.out).mono ?_; rintro e w4 ⟨A4, n4, c4, rfl, r4, x4⟩; have r4' : RdX shB w4 (· < w4.heap.size) A4 n4 c4 (oneF K) := r4.keep (Kp.refl _ _) (fun b h => h.2))
    | (go_at_call 20; refine (diskOne K hKb A4 n4 c4 _ w4 r4' (by simp)).mono ?_; rintro e w5 ⟨A5, n5, c5, rfl, r5, x5⟩))
  have b4 := b3'.trans (x4.mono b3'.size)
  have b5 := b4.trans (x5.mono b4.size)
  have hn5 : n5 ≤ 4 := by rw [← r5.len, HL4.out]; omega
  have hK1 := HK.out
  clear r4 r4' x4 x5 b4 b3 b3' hR3 hsz3 F1 hmk
  by_cases hle : K ≤ 61469
  · have FL := lay_yes A5 n5 c5 _ (oneL K) w5 r5 (fun b h => h) (by omega) HD HR (by rw [HFu.out]; omega)
    have HG : Hid (gRd 512 (grvN (oneL K)) [] = (oneL K, 0)) := read_grv _ HR
    have HGL : Hid ((grvN (oneL K)).length = 4067 + K) := by show _ = _; rw [← gPart_full, gPart_len _ _ (Nat.le_refl _)]; exact HFu.out
    have t1 : ¬ ((61469 : Int) < (K : Int)) := by omega
    have t2 : ¬ ((K : Int) > 61469) := by omega
    clear hK1 HR
    generalize oneL K = L at *
    generalize grvN L = G at *
    go_upto_region 9 with (go_at_call 8; refine FL.mono ?_; rintro e w6 ⟨A6, n6, c6, rfl, o6, x6⟩)
    have b6 := b5.trans (x6.mono b5.size)
    have hn6 : (n6 : Int) ≤ 65536 := by have h := o6.len; rw [HGL.out] at h; omega
    have r6 := r5.keep (Kp.below x6 (fun b h => h)) (fun b h => h)
    have FR := read_any A6 n6 c6 w6.heap.size G w6 o6.rd (Nat.le_refl _) (by omega)
    rw [HG.out] at FR
    go_wp2_with (first
      | (go_at_call 9; refine FR.mono ?_; rintro e w7 ⟨A7, n7, c7, rfl, r7, x7⟩)
      | (go_at_call 13; refine (bsame_yes A7 A5 n7 c7 n5 c5 (· < w7.heap.size) (· < w5.heap.size) L w7 r7 (r6.keep (Kp.below x7 (fun b h => Nat.lt_of_lt_of_le h x6.size)) (fun b h => h)) (fun b h => h) (fun b h => Nat.lt_of_lt_of_le (Nat.lt_of_lt_of_le h x6.size) x7.size) (by have h1 := r7.len; have h2 := r5.len; omega)).mono ?_; rintro e w8 ⟨rfl, x8⟩))
    go_ret
    have b7 := b6.trans (x7.mono b6.size)
    exact ⟨rfl, b7.trans (x8.mono b7.size)⟩
  · have FL := lay_no A5 n5 c5 _ (oneL K) w5 r5 (fun b h => h) (by omega) HD HR (by rw [HFu.out]; omega)
    have t1 : (61469 : Int) < (K : Int) := by omega
    have hbig : (65536 : Int) < ((4067 + K : Nat) : Int) := by omega
    have HFI : Hid (((gFull (oneL K) : Nat) : Int) = ((4067 + K : Nat) : Int)) := by show _ = _; rw [HFu.out]
    generalize ((4067 + K : Nat) : Int) = Fi at *
    generalize (K : Int) = Ki at *
    go_upto_region 8 with (go_at_call 8; refine FL.mono ?_; rintro e w6 ⟨rfl, x6⟩)
    have b6 := b5.trans (x6.mono b5.size)
    have FF := full_any A5 n5 c5 (· < w5.heap.size) (oneL K) w6 (r5.keep (Kp.below x6 (fun b h => h)) (fun b h => h)) (fun b h => Nat.lt_of_lt_of_le h x6.size) (by omega) HD
    rw [HFI.out] at FF
    go_wp2_with (go_at_call 14; refine FF.mono ?_; rintro e w7 ⟨rfl, x7⟩)
    go_ret
    exact ⟨rfl, b6.trans (x7.mono b6.size)⟩

end Go.Proofs.YtbfibikbhnbinaaDoor
