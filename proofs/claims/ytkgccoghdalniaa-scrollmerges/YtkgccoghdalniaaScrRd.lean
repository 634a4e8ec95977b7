/- The contract of scroll.Read: what it answers, as a plain function of the bytes. No law is claimed here. -/
import Derived.Test.YtkgccoghdalniaaScrR5
namespace Go.Proofs.Ytkgccoghdalniaa
open Go.RowKit

inductive RRes where
  | ok (gs : List Gm) (e : Nat)
  | err (x : Nat)
def readN : Nat → Rs → Nat → Nat → List UInt8 → RRes
  | 0, s, _, e, _ => .ok s.gs e
  | f + 1, s, k, e, ys =>
    if ys.length = 0 then .ok s.gs e else if nextE ys = 2 then .ok s.gs e else if nextE ys ≠ 0 then .err (nextE ys) else
    match takeS s (nextC ys) with
    | none => .err 2
    | some (d, s') => readN f s' (k + (8 + (nextC ys).length)) (if d = true then k + (8 + (nextC ys).length) else e) (ys.drop (8 + (nextC ys).length))
def rs0 : Rs := ⟨[], 0, []⟩
/-- what Read answers -/
def readL (xs : List UInt8) : RRes := readN (xs.length + 1) rs0 0 0 xs

def ReadsTo (xs : List UInt8) (s : Rs) (k e : Nat) (r : RRes) : Prop := ∃ f, xs.length < f + k ∧ readN f s k e (xs.drop k) = r

theorem nextC_len (ys : List UInt8) (h : nextE ys = 0) : 8 + (nextC ys).length ≤ ys.length := by
  rcases nextE_cases ys with ⟨_, e⟩ | ⟨_, _, e⟩ | ⟨_, _, e⟩ | ⟨_, _, _, _, e⟩ | ⟨h1, _, h3, _, _⟩
  · omega
  · omega
  · omega
  · omega
  · unfold nextC; simp; omega

theorem ReadsTo.done {xs : List UInt8} {s : Rs} {k e : Nat} {r : RRes} (h : ReadsTo xs s k e r) (hk : xs.length ≤ k) : r = .ok s.gs e := by
  obtain ⟨f, _, h⟩ := h
  cases f with
  | zero => exact h.symm
  | succ f => unfold readN at h; rw [if_pos (by simp; omega)] at h; exact h.symm
theorem ReadsTo.cut {xs : List UInt8} {s : Rs} {k e : Nat} {r : RRes} (h : ReadsTo xs s k e r) (hk : k < xs.length) (h2 : nextE (xs.drop k) = 2) : r = .ok s.gs e := by
  obtain ⟨f, hf, h⟩ := h
  cases f with
  | zero => omega
  | succ f => unfold readN at h; rw [if_neg (by simp; omega), if_pos h2] at h; exact h.symm
theorem ReadsTo.bad {xs : List UInt8} {s : Rs} {k e : Nat} {r : RRes} (h : ReadsTo xs s k e r) (hk : k < xs.length) (h2 : nextE (xs.drop k) ≠ 2) (h0 : nextE (xs.drop k) ≠ 0) : r = .err (nextE (xs.drop k)) := by
  obtain ⟨f, hf, h⟩ := h
  cases f with
  | zero => omega
  | succ f => unfold readN at h; rw [if_neg (by simp; omega), if_neg h2, if_pos h0] at h; exact h.symm
theorem ReadsTo.none {xs : List UInt8} {s : Rs} {k e : Nat} {r : RRes} (h : ReadsTo xs s k e r) (hk : k < xs.length) (h0 : nextE (xs.drop k) = 0) (ht : takeS s (nextC (xs.drop k)) = .none) : r = .err 2 := by
  obtain ⟨f, hf, h⟩ := h
  cases f with
  | zero => omega
  | succ f => unfold readN at h; rw [if_neg (by simp; omega), if_neg (by omega), if_neg (by omega), ht] at h; exact h.symm
theorem ReadsTo.step {xs : List UInt8} {s s' : Rs} {k e : Nat} {d : Bool} {r : RRes} (h : ReadsTo xs s k e r) (hk : k < xs.length) (h0 : nextE (xs.drop k) = 0) (ht : takeS s (nextC (xs.drop k)) = some (d, s')) :
    ReadsTo xs s' (k + (8 + (nextC (xs.drop k)).length)) (if d = true then k + (8 + (nextC (xs.drop k)).length) else e) r := by
  obtain ⟨f, hf, h⟩ := h
  cases f with
  | zero => omega
  | succ f =>
    unfold readN at h
    rw [if_neg (by simp; omega), if_neg (by omega), if_neg (by omega), ht] at h
    simp only [List.drop_drop] at h
    exact ⟨f, by omega, h⟩

theorem takeS_len {s s' : Rs} {c : List UInt8} {d : Bool} (h : takeS s c = some (d, s')) : s'.ws.length ≤ s.ws.length + 1 ∧ s'.gs.length ≤ s.gs.length + 1 := by
  unfold takeS at h
  split at h
  · split at h
    · injection h with h; injection h with h1 h2
      subst h2
      unfold recordN
      split
      · simp
      · split <;> simp
    · cases h
  · split at h
    · injection h with h
      unfold markN at h
      split at h
      · injection h with h1 h2; subst h2; simp
      · injection h with h1 h2; subst h2; simp
    · cases h

/-- what Read's call answers -/
def RetRead (w : World) (r : RRes) (e : Ending) (w' : World) : Prop :=
  match r with
  | .ok gs k => ∃ A n c, e = .returned (.tuple #[.slice A n c, .int .i64 (k : Int), .int .i64 0]) ∧ RdX (shG .u8 .u32) w' (· < w'.heap.size) A n c gs ∧ Below w.heap.size w w'
  | .err x => e = .returned (.tuple #[.slice none 0 0, .int .i64 0, .int .i64 (x : Int)]) ∧ Below w.heap.size w w'

theorem take_own (R base : Nat) (A : Option Addr) (n c base' : Nat) (xs : List UInt8) (w : World) (ho : Own bv w base' 5 A n c xs) (hn : n ≤ 1000000)
    (Ag : Option Addr) (ng cg : Nat) (rgs : List RawG) (gs : List Gm) (num : Int) (Aw : Option Addr) (nw cw : Nat) (rws : List RawW) (ws : List Wm) (rx : RdrX w base R Ag ng cg rgs gs num Aw nw cw rws ws)
    (hbS : ∀ b, base' ≤ b → b < w.heap.size → SS w R Ag Aw b) (hnw : nw ≤ 1000000) (hng : ng ≤ 1000000) (hbase : base ≤ w.heap.size) :
    Calls Try.prog 22 #[.pointer (some ⟨R, 0, none⟩), .slice A n c] w (RetTake base R w (takeS ⟨gs, num, ws⟩ xs)) := by
  have hl := ho.len
  by_cases h : n ≤ 14 ∧ n ≠ 9
  · have hT : takeS ⟨gs, num, ws⟩ xs = none := by
      unfold takeS isRec isMark
      rw [hl, if_neg (by simp; omega), if_neg (by simp; exact fun e => absurd e h.2)]
    rw [hT]
    exact (take_short R A n c w h.1 h.2).mono fun e w' ⟨a, d⟩ => ⟨a, by rw [← d]; exact Below.refl _ _⟩
  · obtain ⟨g, rfl⟩ := ho.zero (by omega)
    have hg := ho.lt g rfl
    exact take_any R g 0 n c w.heap.size base xs w ho.rd (Nat.le_refl _) hn Ag ng cg rgs gs num Aw nw cw rws ws rx (hbS g hg.1 hg.2) hnw hng hbase

theorem frozen_new (w : World) (cs : Array Value) (e : TypeId) (i : Nat) : (w.alloc (.cells cs e)).frozen? ⟨w.heap.size, i, none⟩ = false := by
  have h := heap_alloc_new w (.cells cs e)
  unfold World.frozen?
  simp only
  rw [h]
  simp

theorem reader_new (w : World) : RdrX (w.alloc (.cells #[.slice none 0 0, .int .u32 0, .slice none 0 0] 59)) w.heap.size w.heap.size none 0 0 [] [] 0 none 0 0 [] [] := by
  refine ⟨?_, ?_, ?_, fun i => frozen_new w _ _ i, OwnX.empty _ _ _ _ _, OwnX.empty _ _ _ _ _, off_none _, off_none _, fun k h => by simp at h, Nat.le_refl _, by simp⟩
  · rw [cell_of_row _ _ _ _ _ _ (heap_alloc_new w _)]; rfl
  · rw [cell_of_row _ _ _ _ _ _ (heap_alloc_new w _)]; rfl
  · rw [cell_of_row _ _ _ _ _ _ (heap_alloc_new w _)]; rfl

set_option maxRecDepth 100000 in
set_option maxHeartbeats 4000000 in
theorem read_any (A : Option Addr) (n c B : Nat) (xs : List UInt8) (w : World) (hr : Rd bv w B A n c xs) (hB : B ≤ w.heap.size) (hn : n ≤ 900000) :
    Calls Try.prog 9 #[.slice A n c] w (RetRead w (readL xs)) := by
  have HL := Lib.hid hr.len
  have hcap := hr.cap
  have hR0 : ReadsTo xs rs0 0 0 (readL xs) := ⟨xs.length + 1, by omega, by rw [List.drop_zero]; rfl⟩
  generalize readL xs = res at *
  go_enter Try.func9, Try.ntmps9
  go_wp2
  go_loopw [6, 7] (fun ev av wr => ∃ (k e : Nat) (s : Rs), k ≤ n ∧ ev = .int .i64 e ∧ av = .int .i64 k ∧ RdrS wr w.heap.size w.heap.size s ∧ s.ws.length ≤ k ∧ s.gs.length ≤ k ∧ ReadsTo xs s k e res ∧ Below w.heap.size w wr)
    (fun _ av _ => n - (intOf av).toNat)
  case atStart => exact ⟨0, 0, rs0, Nat.zero_le _, rfl, rfl, ⟨_, _, _, _, _, _, _, _, reader_new w⟩, Nat.le_refl _, Nat.le_refl _, hR0, (Below.refl _ _).alloc (Nat.le_refl _) _⟩
  case round =>
    obtain ⟨k, e, s, hk, rfl, rfl, ⟨Ag, ng, cg, rgs, Aw, nw, cw, rws, rx⟩, hws, hgs, hres, hb⟩ := hrel
    have hsz := hb.size
    have hnw : nw ≤ k := by rw [← rx.wO.len]; exact hws
    have hng : ng ≤ k := by rw [← rx.gO.len]; exact hgs
    have k0 := rx.c0
    by_cases hlt : k < n
    · have hkx : k < xs.length := by rw [HL.out]; exact hlt
      obtain ⟨b, off, rfl⟩ := hr.some_of (by omega)
      have rk : Rd bv wr B (some ⟨b, off + k, none⟩) (n - k) (c - k) (xs.drop k) := (hr.belowLe hb hB).drop k (by omega)
      have i1 : (k : Int) ≤ c := by omega
      have i2 : ¬ c = k := by omega
      have i3 : k ≤ c := by omega
      have i4 : (k : Int) ≤ n := by omega
      have i5 : k ≤ n := by omega
      by_cases h2 : nextE (xs.drop k) = 2
      · have hfin := hres.cut hkx h2
        have SN := snext_err _ _ _ B (xs.drop k) wr rk (by omega) (by omega)
        rw [h2] at SN
        subst hfin
        clear hres hR0 h2
        go_wp2_with fail
        refine SN.mono ?_
        rintro e1 w1 ⟨rfl, q, rfl⟩
        go_wp2
        go_ret3
        exact ⟨Ag, ng, cg, rfl, (rx.gO.rd (fun b h => h.1) (fun k hk => (rx.gO.lt k hk).2)).keep (Kp.drewN _ _ _) (fun b h => h), hb.trans (Still.below ⟨q, rfl⟩ _)⟩
      · by_cases h0 : nextE (xs.drop k) = 0
        · have SN := snext_good _ _ _ B (xs.drop k) wr rk (by omega) (by omega) h0
          have hcl := nextC_len _ h0
          have hstep := fun d s' => hres.step (d := d) (s' := s') hkx h0
          have hnone := hres.none hkx h0
          simp only [List.length_drop, HL.out] at hcl
          generalize nextC (xs.drop k) = cs at *
          obtain ⟨sg, sn, sw⟩ := s
          simp only at *
          have HST := Lib.hid hstep
          have HNO := Lib.hid hnone
          have HH0 := Lib.hid h0
          clear hstep hnone hres hR0 h2 h0
          go_wp2_with fail
          refine SN.mono ?_
          rintro e1 w3 ⟨A3, n3, c3, rfl, ho3, hb3⟩
          have hl3 := ho3.len
          rw [hl3] at hcl
          have rx3 := rx.below hb3
          have hs3 := hb3.size
          have hbS : ∀ b, wr.heap.size ≤ b → b < w3.heap.size → SS w3 w.heap.size Ag Aw b := fun b h1 h2 => ⟨h2, by have := rx.hi; omega, rx.gO.off h1, rx.wO.off h1⟩
          have HL3 := Lib.hid hl3
          have hbel3 := hb.trans (hb3.mono hsz)
          clear hl3 SN k0 hb3
          go_wp2_with fail
          have TK := take_own w.heap.size w.heap.size A3 n3 c3 _ cs w3 ho3 (by omega) Ag ng cg rgs sg sn Aw nw cw rws sw rx3 hbS (by omega) (by omega) (by omega)
          cases hT : takeS ⟨sg, sn, sw⟩ cs with
          | none =>
            rw [hT] at TK
            have hfin := HNO.out hT
            subst hfin
            clear hT HNO HST
            refine TK.mono ?_
            rintro e1 w4 ⟨rfl, hb4⟩
            go_wp2
            go_ret3
            exact ⟨rfl, hbel3.trans hb4⟩
          | some ds =>
            obtain ⟨d, s'⟩ := ds
            rw [hT] at TK
            have hnx := HST.out d s' hT
            have hln := takeS_len hT
            simp only at hln
            rw [HL3.out] at hnx
            clear hT HNO HST
            refine TK.mono ?_
            rintro e1 w4 ⟨rfl, hs4, hb4⟩
            cases d
            · go_wp2
              go_roundw
              case rel => exact ⟨k + (8 + n3), e, s', by omega, rfl, by go_num, hs4, by omega, by omega, hnx, hbel3.trans hb4⟩
              case measure => simp [intOf]; omega
            · go_wp2
              go_roundw
              case rel => exact ⟨k + (8 + n3), k + (8 + n3), s', by omega, by go_num, by go_num, hs4, by omega, by omega, hnx, hbel3.trans hb4⟩
              case measure => simp [intOf]; omega
        · have hfin := hres.bad hkx h2 h0
          have SN := snext_err _ _ _ B (xs.drop k) wr rk (by omega) h0
          subst hfin
          generalize nextE (xs.drop k) = x at *
          have t1 : ((x : Int) == 2) = false := by rw [beq_eq_false_iff_ne]; omega
          have t2 : ((x : Int) != 0) = true := by rw [bne_iff_ne]; omega
          clear hres hR0 h2 h0
          go_wp2_with fail
          refine SN.mono ?_
          rintro e1 w1 ⟨rfl, q, rfl⟩
          go_wp2
          go_ret3
          exact ⟨rfl, hb.trans (Still.below ⟨q, rfl⟩ _)⟩
    · have hfin := hres.done (by rw [HL.out]; omega)
      subst hfin
      clear hres hR0
      go_wp2
      go_ret3
      exact ⟨Ag, ng, cg, rfl, rx.gO.rd (fun b h => h.1) (fun k hk => (rx.gO.lt k hk).2), hb⟩

end Go.Proofs.Ytkgccoghdalniaa
