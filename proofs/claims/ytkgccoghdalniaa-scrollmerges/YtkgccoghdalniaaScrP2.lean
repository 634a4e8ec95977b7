/- The contract of scroll.Apply. No law is claimed here. -/
import Derived.Test.YtkgccoghdalniaaScrP
import Derived.StillTailTactics
namespace Go.Proofs.Ytkgccoghdalniaa
open Go.RowKit

/-- may a write be, and does it lie in its side? -/
def okA (xss : List (List UInt8)) (x : Wm) : Bool := rightB (x.side.toNat : Int) x.pl x.data.length && fitB xss x.side.toNat x.pl x.data.length
def putN (xss : List (List UInt8)) (x : Wm) : List (List UInt8) := xss.set x.side.toNat (lay (xss.getD x.side.toNat []) x.pl.toNat x.data)
def applyN (xss : List (List UInt8)) (ws : List Wm) : List (List UInt8) := ws.foldl putN xss
theorem applyN_snoc (xss : List (List UInt8)) (ws : List Wm) (k : Nat) (h : k < ws.length) : applyN xss (ws.take (k + 1)) = putN (applyN xss (ws.take k)) ws[k] := by
  unfold applyN
  rw [List.take_succ_eq_append_getElem h, List.foldl_append]; rfl
def allA (xss : List (List UInt8)) (ws : List Wm) : Bool := ws.all (okA xss)
theorem allA_snoc (xss : List (List UInt8)) (ws : List Wm) (k : Nat) (h : k < ws.length) : allA xss (ws.take (k + 1)) = (allA xss (ws.take k) && okA xss ws[k]) := by
  unfold allA
  rw [List.take_succ_eq_append_getElem h, List.all_append]; simp
theorem allA_no {xss : List (List UInt8)} {ws : List Wm} (k : Nat) (h : k < ws.length) (hn : okA xss ws[k] = false) : allA xss ws = false := by
  unfold allA
  rw [Bool.eq_false_iff]
  intro e
  rw [List.all_eq_true] at e
  rw [e _ (List.getElem_mem h)] at hn
  cases hn

theorem okA_true {xss : List (List UInt8)} {x : Wm} (h : okA xss x = true) : x.side.toNat < xss.length ∧ x.pl + x.data.length ≤ ((xss.getD x.side.toNat []).length : Int) ∧ 1 ≤ x.data.length ∧ x.data.length ≤ 4096 := by
  unfold okA fitB at h
  simp only [Bool.and_eq_true, decide_eq_true_eq] at h
  have := rightB_true.1 h.1
  exact ⟨h.2.1, h.2.2, this.2.2.1, this.2.2.2.1⟩
theorem lens_getD (xss yss : List (List UInt8)) (h : yss.map List.length = xss.map List.length) (i : Nat) : (yss.getD i []).length = (xss.getD i []).length := by
  have h1 : (yss.map List.length)[i]? = (xss.map List.length)[i]? := by rw [h]
  rw [List.getElem?_map, List.getElem?_map] at h1
  rw [List.getD_eq_getElem?_getD, List.getD_eq_getElem?_getD]
  cases hy : yss[i]? <;> cases hx : xss[i]? <;> rw [hy, hx] at h1 <;> simp_all
theorem putN_lens {xss yss : List (List UInt8)} (h : yss.map List.length = xss.map List.length) {x : Wm} (hx : okA xss x = true) (h0 : 0 ≤ x.pl) : (putN yss x).map List.length = xss.map List.length := by
  obtain ⟨h1, h2, _, _⟩ := okA_true hx
  have hl : yss.length = xss.length := by have := congrArg List.length h; simpa using this
  unfold putN
  rw [List.map_set, lay_len _ _ _ (by have := lens_getD xss yss h x.side.toNat; omega), h]
  rw [lens_getD xss yss h]
  apply List.ext_getElem?
  intro i
  rw [List.getElem?_set]
  split
  · rename_i e
    subst e
    rw [if_pos (by simpa using h1), List.getElem?_map, List.getD_eq_getElem?_getD, List.getElem?_eq_getElem h1]
    rfl
  · rfl
theorem foldl_lens {xss : List (List UInt8)} (ws : List Wm) : ∀ (yss : List (List UInt8)), yss.map List.length = xss.map List.length → allA xss ws = true → (∀ x ∈ ws, 0 ≤ x.pl) → (ws.foldl putN yss).map List.length = xss.map List.length := by
  induction ws with
  | nil => intro yss h _ _; exact h
  | cons x ws ih =>
    intro yss h ha hp
    unfold allA at ha
    rw [List.all_cons, Bool.and_eq_true] at ha
    rw [List.foldl_cons]
    exact ih _ (putN_lens h ha.1 (hp x (by simp))) ha.2 (fun y hy => hp y (by simp [hy]))
theorem applyN_lens {xss : List (List UInt8)} {ws : List Wm} (ha : allA xss ws = true) (hp : ∀ x ∈ ws, 0 ≤ x.pl) : (applyN xss ws).map List.length = xss.map List.length := foldl_lens ws xss rfl ha hp
theorem allA_take {xss : List (List UInt8)} {ws : List Wm} (ha : allA xss ws = true) (k : Nat) : allA xss (ws.take k) = true := by
  unfold allA at *
  rw [List.all_eq_true] at *
  exact fun x hx => ha x (List.mem_of_mem_take hx)
theorem allA_at {xss : List (List UInt8)} {ws : List Wm} (ha : allA xss ws = true) (k : Nat) (h : k < ws.length) : okA xss ws[k] = true := by
  unfold allA at ha
  rw [List.all_eq_true] at ha
  exact ha _ (List.getElem_mem h)
/-- the first k sides are there -/
def clN (xss : List (List UInt8)) (k : Nat) : List (List UInt8) := xss.take k ++ List.replicate (xss.length - k) []
theorem clN_step (xss : List (List UInt8)) (k : Nat) (h : k < xss.length) : (clN xss k).set k xss[k] = clN xss (k + 1) := by
  unfold clN
  apply List.ext_getElem?
  intro i
  rw [List.getElem?_set]
  split
  · rename_i e
    subst e
    rw [if_pos (by simp; omega), List.getElem?_append_left (by simp; omega), List.getElem?_take, if_pos (by omega), List.getElem?_eq_getElem h]
  · rcases Nat.lt_or_ge i k with hi | hi
    · rw [List.getElem?_append_left (by simp; omega), List.getElem?_append_left (by simp; omega), List.getElem?_take, List.getElem?_take, if_pos hi, if_pos (by omega)]
    · rw [List.getElem?_append_right (by simp; omega), List.getElem?_append_right (by simp; omega), List.getElem?_replicate, List.getElem?_replicate]
      simp only [List.length_take]
      by_cases h1 : i < xss.length
      · rw [if_pos (by omega), if_pos (by omega)]
      · rw [if_neg (by omega), if_neg (by omega)]
theorem clN_all (xss : List (List UInt8)) (k : Nat) (h : xss.length ≤ k) : clN xss k = xss := by
  unfold clN
  rw [List.take_of_length_le h, show xss.length - k = 0 from by omega]; simp
theorem own_nils {w : World} {base : Nat} {A : Option Addr} {m c : Nat} (h : w.ownsRow base 23 1 (.slice A m c) m (madeCells (Value.slice none 0 0).cells (m * 1)).toList) : Own sv w base 23 A m c (List.replicate m (none, 0, 0)) := by
  refine ⟨?_, by simp⟩
  have e : (madeCells (Value.slice none 0 0).cells (m * 1)).toList = (List.replicate m ((none, 0, 0) : Option Addr × Nat × Nat)).map sv := by
    show (madeCells #[.slice none 0 0] (m * 1)).toList = _
    rw [toList_madeCells_one, Nat.mul_one, List.map_replicate]
    rfl
  rw [e] at h
  exact h
theorem Grid.nils {w : World} {base : Nat} {A : Option Addr} {m c : Nat} (h : Own sv w base 23 A m c (List.replicate m (none, 0, 0))) : Grid w base A m c (List.replicate m (none, 0, 0)) (List.replicate m []) := by
  refine ⟨h, by simp, fun i s xs h1 h2 => ?_, fun i j s t _ h1 _ k hk => ?_⟩
  · rw [List.getElem?_replicate] at h1 h2
    split at h1
    · injection h1 with h1
      split at h2
      · injection h2 with h2; subst h1; subst h2; exact Own.empty _ _ _ _
      · rename_i a b; exact absurd a b
    · cases h1
  · rw [List.getElem?_replicate] at h1
    split at h1
    · injection h1 with h1; subst h1; simp at hk
    · cases h1

/-- what Apply answers -/
def RetAp (w : World) (xss : List (List UInt8)) (ws : List Wm) (e : Ending) (w' : World) : Prop :=
  (allA xss ws = false ∧ e = .returned (.tuple #[.slice none 0 0, .bool false]) ∧ Below w.heap.size w w') ∨
  (allA xss ws = true ∧ ∃ A c ss, e = .returned (.tuple #[.slice A xss.length c, .bool true]) ∧ Grid w' w.heap.size A xss.length c ss (applyN xss ws) ∧ Below w.heap.size w w')


set_option maxRecDepth 100000 in
set_option maxHeartbeats 4000000 in
theorem apply_any (As : Option Addr) (ns cs B : Nat) (ss : List (Option Addr × Nat × Nat)) (xss : List (List UInt8)) (Al : Option Addr) (nl cl : Nat) (S : Nat → Prop) (ws : List Wm) (w : World)
    (hr : Rd sv w B As ns cs ss) (hrs : Rds w B ss xss) (hB : B ≤ w.heap.size) (hw : RdX (shW .u8 .u32) w S Al nl cl ws) (hS : ∀ b, S b → b < w.heap.size) (hns : ns ≤ 1000) (hnl : nl ≤ 1000)
    (hls : Hid (∀ xs ∈ xss, xs.length ≤ 1099511627776)) (hpl : Hid (∀ x ∈ ws, 0 ≤ x.pl ∧ x.pl < 4294967296 ∧ x.data.length ≤ 1099511627776)) :
    Calls Try.prog 14 #[.slice As ns cs, .slice Al nl cl] w (RetAp w xss ws) := by
  have HL := Lib.hid hw.len
  obtain ⟨i0, hi, hz0, hz1, hz2⟩ := info_parts Try.infoBs
  go_enter Try.func14, Try.ntmps14
  go_wp2
  go_loopw [15] (fun i wr => ∃ (k : Nat), k ≤ nl ∧ i = .int .i64 k ∧ allA xss (ws.take k) = true ∧ Below w.heap.size w wr)
    (fun i _ => nl - (intOf i).toNat)
  case atStart => exact ⟨0, Nat.zero_le _, rfl, rfl, Below.refl _ _⟩
  case round =>
    obtain ⟨k, hk, rfl, hall, hb⟩ := hrel
    have HA := Lib.hid hall
    clear hall
    have hsz := hb.size
    by_cases hlt : k < nl
    · have hkx : k < ws.length := by rw [HL.out]; exact hlt
      obtain ⟨b, off, A3, n3, c3, rfl, hSb, hc0, hc1, hc2, hrd⟩ := rdW_at (hw.keep (Kp.below hb hS) (fun _ h => h)) k hkx
      have hpx := hpl.out ws[k] (List.getElem_mem hkx)
      have HT := Lib.hid (allA_snoc xss ws k hkx)
      have HN : Hid (okA xss ws[k] = false → allA xss ws = false) := allA_no k hkx
      have hl3 := hrd.len
      generalize ws[k] = x at *
      obtain ⟨xs, xa, xd⟩ := x
      simp only at hc0 hc1 hpx hrd hl3
      obtain ⟨hp0, hp1, hp2⟩ := hpx
      rw [hl3] at hp2
      have HO : Hid (okA xss ⟨xs, xa, xd⟩ = (rightB (xs.toNat : Int) xa n3 && fitB xss xs.toNat xa n3)) := by show _ = _; unfold okA; rw [hl3]
      clear hl3
      have hxs := xs.toNat_lt
      have hbA : Below w.heap.size w (wr.alloc (.cells #[.int .u8 (xs.toNat : Int), .int .u32 xa, .slice A3 n3 c3] 44)) := hb.alloc hsz _
      have hsA : (wr.alloc (.cells #[.int .u8 (xs.toNat : Int), .int .u32 xa, .slice A3 n3 c3] 44)).heap.size = wr.heap.size + 1 := by simp
      have HSA := Lib.hid hsA
      clear hsA
      go_wp2_with fail
      refine (wright_any (xs.toNat : Int) xa A3 n3 c3 _ (by omega) (by omega) hp0 hp1 hp2).mono ?_
      rintro e w1 ⟨rfl, hb1⟩
      rw [HSA.out] at hb1
      have d0 : w1.cell? ⟨wr.heap.size, 0, none⟩ = some (.int .u8 (xs.toNat : Int)) := box_cell hb1 0
      have d1 : w1.cell? ⟨wr.heap.size, 1, none⟩ = some (.int .u32 xa) := box_cell hb1 1
      have d2 : w1.cell? ⟨wr.heap.size, 2, none⟩ = some (.slice A3 n3 c3) := box_cell hb1 2
      have bl1 : Below w.heap.size w w1 := hbA.trans (hb1.mono (by omega))
      cases hR : rightB (xs.toNat : Int) xa n3 with
      | false =>
        have HF : Hid (allA xss ws = false) := HN.out (by rw [HO.out, hR]; rfl)
        go_wp2
        go_ret2
        exact .inl ⟨HF.out, rfl, bl1⟩
      | true =>
        have HRr := Lib.hid hR
        clear hR
        have r1 : Rd sv w1 B As ns cs ss := hr.belowLe bl1 hB
        have r2 : Rds w1 B ss xss := ⟨hrs.1, fun j s ys h1 h2 => (hrs.2 j s ys h1 h2).belowLe bl1 hB⟩
        have hs1 := bl1.size
        go_wp2_with fail
        refine (wfits_any xs xa A3 n3 c3 As ns cs B ss xss _ r1 r2 (by omega) hp0 hp1 hp2 hls).mono ?_
        rintro e w2 ⟨rfl, hb2⟩
        have bl2 : Below w.heap.size w w2 := bl1.trans (hb2.mono (by omega))
        cases hF : fitB xss xs.toNat xa n3 with
        | false =>
          have HF : Hid (allA xss ws = false) := HN.out (by rw [HO.out, HRr.out, hF]; rfl)
          go_wp2
          go_ret2
          exact .inl ⟨HF.out, rfl, bl2⟩
        | true =>
          have HFt := Lib.hid hF
          clear hF
          go_wp2
          go_roundw
          case rel => exact ⟨k + 1, by omega, by go_num, by rw [HT.out, HA.out, HO.out, HRr.out, HFt.out]; rfl, bl2⟩
          case measure => simp [intOf]; omega
    · have HAll : Hid (allA xss ws = true) := by
        have := HA.out
        rwa [List.take_of_length_le (by rw [HL.out]; omega)] at this
      clear HA
      have HLS := Lib.hid hrs.1
      have HLr := Lib.hid hr.len
      go_wp2_with (at_make
                   refine wpList_make_full _ rfl _ _ 45 rfl w.heap.size 23 i0 _ 1 Try.underlying45 hi hz0 hz1 .i64 .i64 _ _ ns rfl rfl rfl rfl (by rw [hz2]; omega) (by simp only [maxLen]; omega) hsz ?_
                   intro w2 hown2 hg2
                   have gr2 := Grid.nils (own_nils hown2)
                   have bl2 : Below w.heap.size w w2 := hb.grown hg2 hsz (by simp)
                   clear hown2 hg2)
      have hlx : xss.length = ns := by rw [← HLS.out, HLr.out]
      have gr2' : Grid w2 w.heap.size (some ⟨wr.heap.size, 0, none⟩) ns ns (List.replicate ns (none, 0, 0)) (clN xss 0) := by
        unfold clN; simp only [List.take_zero, List.nil_append, Nat.sub_zero]; rw [hlx]; exact gr2
      have HLX := Lib.hid hlx
      clear hlx gr2
      have hG : w.heap.size ≤ wr.heap.size := hsz
      generalize wr.heap.size = G at *
      go_loopw [34] (fun i wr => ∃ (k : Nat) (ss2 : List (Option Addr × Nat × Nat)), k ≤ ns ∧ i = .int .i64 k ∧ Grid wr w.heap.size (some ⟨G, 0, none⟩) ns ns ss2 (clN xss k) ∧ Below w.heap.size w wr)
        (fun i _ => ns - (intOf i).toNat)
      case atStart => exact ⟨0, _, Nat.zero_le _, rfl, gr2', bl2⟩
      case round =>
        clear gr2'
        obtain ⟨k, ss2, hk, rfl, hgr, hb⟩ := hrel
        have hsz := hb.size
        by_cases hlt : k < ns
        · have hkx : k < xss.length := by rw [HLX.out]; exact hlt
          have hks : k < ss.length := by rw [HLr.out]; exact hlt
          obtain ⟨b, off, rfl, hbB, hc0⟩ := hr.at_ k hks
          have hc : wr.cell? ⟨b, off + k, none⟩ = some (sv ss[k]) := (hb.cell (p := ⟨b, off + k, none⟩) (Nat.lt_of_lt_of_le hbB hB)).trans hc0
          have hrk := (hrs.2 k _ _ (List.getElem?_eq_getElem hks) (List.getElem?_eq_getElem hkx)).belowLe hb hB
          have hmx := hls.out xss[k] (List.getElem_mem hkx)
          have HC := Lib.hid (clN_step xss k hkx)
          have hlk := hrk.len
          clear hc0
          generalize ss[k] = t at *
          generalize xss[k] = xs at *
          obtain ⟨A2, n2, c2⟩ := t
          unfold sv at hc
          simp only at hc hlk hrk
          rw [hlk] at hmx
          clear hlk
          have hkN : (k : Int) < (ns : Int) := by omega
          go_wp2_with fail
          refine (clone_any A2 n2 c2 B xs _ hrk (by omega) hmx).mono ?_
          rintro e w5 ⟨A5, n5, c5, rfl, ho5, hb5⟩
          have gr5 := hgr.below hb5
          have fz : w5.frozen? ⟨G, k, none⟩ = false := gr5.row.frozen k
          have hcG : ∃ v, w5.cell? ⟨G, k, none⟩ = some v := by
            obtain ⟨b', o', e1, _, h2⟩ := gr5.row.rd.at_ k (by rw [gr5.slen]; exact hlt)
            injection e1 with e1; injection e1 with e1 e2; subst e1; subst e2
            rw [Nat.zero_add] at h2
            exact ⟨_, h2⟩
          obtain ⟨v, hcG⟩ := hcG
          have bl5 : Below w.heap.size w w5 := hb.trans (hb5.mono hsz)
          go_wp2
          have gr6 : Grid (w5.setCell ⟨G, k, none⟩ (sv (A5, n5, c5))) w.heap.size (some ⟨G, 0, none⟩) ns ns (ss2.set k (A5, n5, c5)) ((clN xss k).set k xs) :=
            gr5.setRow k (List.getElem?_eq_getElem (by rw [gr5.slen]; exact hlt)) (gr5.row.stored k (A5, n5, c5)) (gr5.row.own.stored k _).2 (ho5.lower hsz) (fun q hq j t hj e => by
              have h1 := (ho5.ltA q hq).1
              have hjl : j < ns := by
                rcases Nat.lt_or_ge j ns with h | h
                · exact h
                · rw [List.getElem?_eq_none (by rw [hgr.slen]; exact h)] at hj; cases hj
              have h2 := (hgr.each j t _ hj (List.getElem?_eq_getElem (by rw [hgr.len]; exact hjl))).ltA q e.symm
              omega)
          go_roundw
          case rel => exact ⟨k + 1, _, by omega, by go_num, by rw [← HC.out]; exact gr6, bl5.setCell hG _⟩
          case measure => simp [intOf]; omega
        · have hgr' : Grid wr w.heap.size (some ⟨G, 0, none⟩) ns ns ss2 (applyN xss (ws.take 0)) := by
            rw [clN_all xss k (by rw [HLX.out]; omega)] at hgr; exact hgr
          go_wp2
          go_loopw [47] (fun i wr => ∃ (k : Nat), k ≤ nl ∧ i = .int .i64 k ∧ Grid wr w.heap.size (some ⟨G, 0, none⟩) ns ns ss2 (applyN xss (ws.take k)) ∧ Below w.heap.size w wr)
            (fun i _ => nl - (intOf i).toNat)
          case atStart => exact ⟨0, Nat.zero_le _, rfl, hgr', hb⟩
          case round =>
            clear hgr' hgr
            obtain ⟨k, hk, rfl, hgr, hb⟩ := hrel
            have hsz := hb.size
            by_cases hlt : k < nl
            · have hkx : k < ws.length := by rw [HL.out]; exact hlt
              obtain ⟨b, off, A3, n3, c3, rfl, hSb, hc0, hc1, hc2, hrd⟩ := rdW_at (hw.keep (Kp.below hb hS) (fun _ h => h)) k hkx
              have hpx := hpl.out ws[k] (List.getElem_mem hkx)
              have HT := Lib.hid (applyN_snoc xss ws k hkx)
              have hokx := okA_true (allA_at HAll.out k hkx)
              have hlens := applyN_lens (allA_take HAll.out k) (fun x hx => (hpl.out x (List.mem_of_mem_take hx)).1)
              have hl3 := hrd.len
              generalize ws[k] = x at *
              obtain ⟨xs, xa, xd⟩ := x
              simp only at hc0 hc1 hpx hrd hl3 hokx
              obtain ⟨hp0, hp1, hp2⟩ := hpx
              obtain ⟨ho1, ho2, ho3, ho4⟩ := hokx
              rw [hl3] at ho2 ho3 ho4 hp2
              have hxs := xs.toNat_lt
              have hsn : xs.toNat < ns := by rw [← HLX.out]; exact ho1
              obtain ⟨t, hts, hot⟩ := hgr.at_ xs.toNat hsn
              have hlt2 : (xss.getD xs.toNat []).length = t.2.1 := by
                rw [← lens_getD xss _ hlens, ← hot.len, List.getD_eq_getElem?_getD, List.getElem?_eq_getElem (by rw [hgr.len]; exact hsn)]; rfl
              have HG : Hid (putN (applyN xss (ws.take k)) ⟨xs, xa, xd⟩ = (applyN xss (ws.take k)).set xs.toNat (lay ((applyN xss (ws.take k))[xs.toNat]'(by rw [hgr.len]; exact hsn)) xa.toNat xd)) := by
                show _ = _
                unfold putN
                simp only
                rw [List.getD_eq_getElem?_getD, List.getElem?_eq_getElem (by rw [hgr.len]; exact hsn)]; rfl
              rw [hlt2] at ho2
              have hcT := hgr.row.rd.at_ xs.toNat (by rw [hgr.slen]; exact hsn)
              obtain ⟨b', o', e1, _, hcT⟩ := hcT
              injection e1 with e1; injection e1 with e1 e2; subst e1; subst e2
              rw [Nat.zero_add] at hcT
              have hte : ss2[xs.toNat]'(by rw [hgr.slen]; exact hsn) = t := by rw [List.getElem?_eq_getElem (by rw [hgr.slen]; exact hsn)] at hts; injection hts
              rw [hte] at hcT
              clear hte hl3 hlens hlt2 ho1
              generalize (applyN xss (ws.take k))[xs.toNat]'(by rw [hgr.len]; exact hsn) = ys at *
              obtain ⟨At, nt, ct⟩ := t
              simp only at hot ho2
              unfold sv at hcT
              simp only at hcT
              have hcapt := hot.rd.cap
              obtain ⟨gt, rfl⟩ := hot.zero (by omega)
              have hbA : Below w.heap.size w (wr.alloc (.cells #[.int .u8 (xs.toNat : Int), .int .u32 xa, .slice A3 n3 c3] 44)) := hb.alloc hsz _
              have hgA : Grid (wr.alloc (.cells #[.int .u8 (xs.toNat : Int), .int .u32 xa, .slice A3 n3 c3] 44)) w.heap.size (some ⟨G, 0, none⟩) ns ns ss2 (applyN xss (ws.take k)) := hgr.below ((Below.refl _ _).alloc (Nat.le_refl _) _)
              have hoA := hot.alloc (.cells #[.int .u8 (xs.toNat : Int), .int .u32 xa, .slice A3 n3 c3] 44)
              have hrA := (hrd.rd hS).alloc hsz (.cells #[.int .u8 (xs.toNat : Int), .int .u32 xa, .slice A3 n3 c3] 44)
              have hbl : G < wr.heap.size := (hgr.row.ltA G rfl).2
              have hcU : (wr.alloc (.cells #[.int .u8 (xs.toNat : Int), .int .u32 xa, .slice A3 n3 c3] 44)).cell? ⟨G, xs.toNat, none⟩ = some (.slice (some ⟨gt, 0, none⟩) nt ct) := (World.cell?_alloc_lt _ _ _ hbl).trans hcT
              have k0 : (wr.alloc (.cells #[.int .u8 (xs.toNat : Int), .int .u32 xa, .slice A3 n3 c3] 44)).cell? ⟨wr.heap.size, 0, none⟩ = some (.int .u8 (xs.toNat : Int)) := box_cell (Below.refl _ _) 0
              have k1 : (wr.alloc (.cells #[.int .u8 (xs.toNat : Int), .int .u32 xa, .slice A3 n3 c3] 44)).cell? ⟨wr.heap.size, 1, none⟩ = some (.int .u32 xa) := box_cell (Below.refl _ _) 1
              have k2 : (wr.alloc (.cells #[.int .u8 (xs.toNat : Int), .int .u32 xa, .slice A3 n3 c3] 44)).cell? ⟨wr.heap.size, 2, none⟩ = some (.slice A3 n3 c3) := box_cell (Below.refl _ _) 2
              clear hcT
              have hxN : (xs.toNat : Int) < (ns : Int) := by omega
              have hq1 : xa ≤ (ct : Int) := by omega
              have hq2 : xa ≤ (nt : Int) := by omega
              have hq3 : ¬ ct = xa.toNat := by omega
              have hq4 : xa.toNat ≤ nt := by omega
              have hq5 : xa.toNat ≤ ct := by omega
              go_wp2
              generalize wr.alloc (.cells #[.int .u8 (xs.toNat : Int), .int .u32 xa, .slice A3 n3 c3] 44) = W at *
              go_still_tail 10, (by kernel_rfl)
              refine wpList_copy_lay rfl (.tmp 58) (.tmp 60) 23 23 rfl 5 Try.underlying23 (by kernel_rfl) gt xa.toNat (nt - xa.toNat) _ A3 n3 c3 rfl rfl w.heap.size 5 nt ct ys hoA.drew w.heap.size xd hrA.drew (by omega) (by omega) (by omega) ?_
              intro w9 ho9 hg9
              have gr9 := (hgA.below (Below.refl _ _).drew).changed xs.toNat hts ho9 hg9 hsn
              have bl9 : Below w.heap.size w w9 := (hbA.drew).grown hg9 (by have := hbA.size; exact this) (fun q hq => (hoA.ltA q hq).1)
              go_wp2
              go_roundw
              case rel => exact ⟨k + 1, by omega, by go_num, by rw [HT.out, HG.out]; exact gr9, bl9⟩
              case measure => simp [intOf]; omega
            · have hgr' : Grid wr w.heap.size (some ⟨G, 0, none⟩) ns ns ss2 (applyN xss ws) := by
                rw [List.take_of_length_le (by rw [HL.out]; omega)] at hgr; exact hgr
              go_wp2
              go_ret2
              have hx := HLX.out
              subst hx
              exact .inr ⟨HAll.out, _, _, _, rfl, hgr', hb⟩

end Go.Proofs.Ytkgccoghdalniaa
