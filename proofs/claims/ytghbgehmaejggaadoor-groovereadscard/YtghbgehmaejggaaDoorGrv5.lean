/- Package groove: Lay. No law is claimed here. -/
import Derived.Test.YtghbgehmaejggaaDoorGrv4
namespace Go.Proofs.YtghbgehmaejggaaDoor
open Go.RowKit

/-- the places can be read, in another block than G -/
def PlOk (l : List Bm) (Ap : Option Addr) (n G : Nat) (w : World) : Prop :=
  ∀ j, j < n → ∃ g off, Ap = some ⟨g, off, none⟩ ∧ g ≠ G ∧ g < w.heap.size ∧ w.cell? ⟨g, off + j, none⟩ = some (.int .i64 ((gAt l j + 1 : Nat) : Int))
theorem PlOk.grown {l : List Bm} {Ap : Option Addr} {n G : Nat} {w w' : World} (h : PlOk l Ap n G w) (hg : w.grownBy w' (some G)) : PlOk l Ap n G w' := fun j hj => by
  obtain ⟨g, off, e, h1, h2, h3⟩ := h j hj
  exact ⟨g, off, e, h1, Nat.lt_of_lt_of_le h2 hg.size, grown_cell hg h3 h2 (fun e => h1 (by injection e))⟩

set_option maxRecDepth 100000 in
set_option maxHeartbeats 4000000 in
theorem lay_yes (A : Option Addr) (n c : Nat) (S : Nat → Prop) (l : List Bm) (w : World) (hr : RdX shB w S A n c l) (hS : ∀ b, S b → b < w.heap.size) (hn : n ≤ 1000) (hd : Hid (∀ x ∈ l, x.data.length ≤ 100000)) (hR : rgtB l = true) (hF : gFull l ≤ 65536) :
    Calls Tryd.prog 13 #[.slice A n c] w fun e w' => ∃ A' n' c', e = .returned (.tuple #[.slice A' n' c', .bool true]) ∧ Own bv w' w.heap.size 5 A' n' c' (grvN l) ∧ Below w.heap.size w w' := by
  have hRi := right_any A n c S l w hr hS (by omega) (fun x hx => by have := hd.out x hx; omega)
  rw [hR] at hRi
  have HL := Lib.hid hr.len
  have FF := fun (v : World) (hb : Below w.heap.size w v) => full_any A n c S l v (hr.keep (Kp.below hb hS) (fun _ h => h)) (fun b h => Nat.lt_of_lt_of_le (hS b h) hb.size) (by omega) hd
  have FP := fun (v : World) (hb : Below w.heap.size w v) => places_any A n c S l v (hr.keep (Kp.below hb hS) (fun _ h => h)) (fun b h => Nat.lt_of_lt_of_le (hS b h) hb.size) (by omega) hd
  have HP0 : Hid (gPart l 0 = List.replicate (gFull l) 0) := gPart_zero l
  have HPn : Hid (gPart l n = grvN l) := by show _ = _; rw [← hr.len]; exact gPart_full l
  have HPL : Hid (∀ k, k ≤ n → (gPart l k).length = gFull l) := fun k hk => gPart_len l k (by rw [hr.len]; exact hk)
  have HM : Hid (∀ k, k < n → gAt l (k + 1) ≤ gFull l) := fun k hk => gAt_mono l (k + 1) l.length (by rw [hr.len]; omega) (Nat.le_refl _)
  generalize gFull l = F at *
  have t1 : ¬ ((65536 : Int) < (F : Int)) := by omega
  have t2 : decide ((65536 : Int) < (F : Int)) = false := decide_eq_false t1
  have hmk := Tryd.mkN .i64 F (by omega)
  go_enter Tryd.func13, Tryd.ntmps13
  go_upto_region 3 with (first | (go_at_call 25; refine hRi.mono ?_; rintro e w1 ⟨rfl, hb1⟩) | (go_at_call 26; refine (FF _ hb1).mono ?_; rintro e w2 ⟨rfl, hb2⟩))
  have hb2' := hb1.trans (hb2.mono hb1.size)
  clear hb1 hb2 hRi
  go_upto_region 4 with (go_at_call 26; refine (FF _ hb2').mono ?_; rintro e w3 ⟨rfl, hb3⟩)
  have hb3' := hb2'.trans (hb3.mono hb2'.size)
  clear hb3 hb2' hmk FF
  have hsz0 := hb3'.size
  have hO0 : Own bv (w3.alloc (.cells (zerosC F) 5)) w.heap.size 5 (some ⟨w3.heap.size, 0, none⟩) F F (gPart l 0) := by
    have h := Own.fresh (f := bv) w3 5 (List.replicate F 0) (zerosC F) F w3.heap.size rfl (by simp) (by simp only [maxLen]; omega) rfl
    rw [HP0.out]
    exact h.lower hsz0
  have hbA := hb3'.alloc hsz0 (.cells (zerosC F) 5)
  have hGs : w3.heap.size < (w3.alloc (.cells (zerosC F) 5)).heap.size := by simp
  clear hb3' HP0
  generalize w3.alloc (.cells (zerosC F) 5) = W0 at *
  generalize w3.heap.size = G at *
  go_wp2_with (go_at_call 27; refine (FP _ hbA).mono ?_; rintro e W1 ⟨Ap, np, cp, rfl, hop, hb4⟩; have hnp : n = np := (by rw [← hop.len, gPl_len]); subst hnp)
  have hO1 := hO0.below hb4
  have hbB := hbA.trans (hb4.mono hbA.size)
  have PL : PlOk l Ap n G W1 := fun j hj => by
    have hr' := hop.rd
    obtain ⟨g, off, e, hlt, hc⟩ := hr'.at_ j (by rw [gPl_len]; exact hj)
    have hge : W0.heap.size ≤ g := by subst e; exact (hop.lt g rfl).1
    refine ⟨g, off, e, by omega, hlt, ?_⟩
    rw [hc]
    simp [gPl, iv]
  clear hO0 hbA hb4 hop FP
  go_loopw [24] (fun i wr => ∃ (k : Nat), k ≤ n ∧ i = .int .i64 k ∧ Own bv wr w.heap.size 5 (some ⟨G, 0, none⟩) F F (gPart l k) ∧ Hid (PlOk l Ap n G wr) ∧ Below w.heap.size w wr) (fun i _ => n - (intOf i).toNat)
  case atStart => exact ⟨0, Nat.zero_le _, rfl, hO1, PL, hbB⟩
  case round =>
    obtain ⟨k, hk, rfl, hO, hPL, hb⟩ := hrel
    clear hO1 PL hbB
    have hsz := hb.size
    by_cases hlt : k < n
    · have hkx : k < l.length := by rw [HL.out]; exact hlt
      obtain ⟨b, off, A3, n3, c3, rfl, hSb, hc0, hc1, hrd⟩ := rdB_at (hr.keep (Kp.below hb hS) (fun _ h => h)) k hkx
      obtain ⟨gp, op, rfl, hgG, hgl, hcp⟩ := hPL.out k hlt
      have hsn := gAt_snoc l k hkx
      have hMk := HM.out k hlt
      have hstep := gPart_step' l k hkx
      have hplen := HPL.out k hk
      have hl3 := hrd.len
      have hbr : b < wr.heap.size := Nat.lt_of_lt_of_le (hS b hSb) hb.size
      have hGl := hO.ltA G rfl
      have hbG : b ≠ G := by have := hS b hSb; omega
      have hE3 : Rd bv wr w.heap.size A3 n3 c3 l[k].data := hrd.rd hS
      have hhead := lay_head (gPart l k) (gAt l k) (l[k]'hkx)
      have hst0 : 3500 ≤ gAt l k := by unfold gAt; omega
      unfold gRoom at hsn
      rw [hl3] at hsn hstep hhead
      rw [hsn] at hMk
      generalize l[k] = X at *
      obtain ⟨x, xd⟩ := X
      simp only at *
      generalize gAt l k = st at *
      generalize gPart l k = ys at *
      have HY := Lib.hid hplen
      have HX := Lib.hid hl3
      have HH := Lib.hid (hhead (by omega))
      have HS := Lib.hid hsn
      have hz1 := hO.at_ st (by omega)
      have hz2 := hO.at_ (st + 1) (by omega)
      unfold bv at hz1 hz2
      generalize ys[st] = y1 at hz1
      generalize ys[st + 1] = y2 at hz2
      have f1 := hO.frozen st
      have f2 := hO.frozen (st + 1)
      have q1 : (st : Int) < F := by omega
      have q2 : st < F := by omega
      have q3 : (st : Int) + 1 < F := by omega
      have q4 : st + 1 < F := by omega
      have hO1 := (hO.stored st 128).stored (st + 1) x
      have hg1 := World.grownBy.trans' (hO.storedG st (bv 128)) ((hO.stored st 128).storedG (st + 1) (bv x))
      have e128 : bv 128 = .int .u8 128 := rfl
      have ex : bv x = .int .u8 (x.toNat : Int) := rfl
      rw [e128, ex] at hO1 hg1
      clear hplen hl3 hhead hsn hrd e128 ex
      have hbW : Below w.heap.size w ((wr.setCell ⟨G, st, none⟩ (.int .u8 128)).setCell ⟨G, st + 1, none⟩ (.int .u8 (x.toNat : Int))) := hb.grown hg1 hsz (fun q hq => by injection hq with hq; omega)
      have hneG : some b ≠ some G := fun e => hbG (by injection e)
      have hXW : Has ((wr.setCell ⟨G, st, none⟩ (.int .u8 128)).setCell ⟨G, st + 1, none⟩ (.int .u8 (x.toNat : Int))) b (off + k * 2 + 1) (.slice A3 n3 c3) := ⟨by simpa using hbr, grown_cell hg1 hc1 hbr hneG⟩
      have hEE : RdE bv ((wr.setCell ⟨G, st, none⟩ (.int .u8 128)).setCell ⟨G, st + 1, none⟩ (.int .u8 (x.toNat : Int))) A3 n3 c3 xd := ((hE3.setCell (p := ⟨G, st, none⟩) hGl.1 _).setCell (p := ⟨G, st + 1, none⟩) hGl.1 _).more hbW.size
      have hPL1 : Hid (PlOk l (some ⟨gp, op, none⟩) n G ((wr.setCell ⟨G, st, none⟩ (.int .u8 128)).setCell ⟨G, st + 1, none⟩ (.int .u8 (x.toNat : Int)))) := PlOk.grown hPL.out hg1
      go_upto_region 9 with (fail)
      clear hO hPL hb hsz hg1 hE3 hz1 hz2 f1 f2 hc0 hc1 hcp hbr
      generalize (wr.setCell ⟨G, st, none⟩ (.int .u8 128)).setCell ⟨G, st + 1, none⟩ (.int .u8 (x.toNat : Int)) = W at *
      have r1 : (st : Int) + 1 + 1 ≤ F := by omega
      have r2 : st + 1 + 1 ≤ F := by omega
      have r3 : ((st : Int) + 1 + 1).toNat = st + 1 + 1 := by omega
      have r4 : (0 : Int) ≤ (st : Int) + 1 + 1 := by omega
      have r5 : IntKind.i64.wrap ((st : Int) + 1 + 1) = (st : Int) + 1 + 1 := IntWalk.i64_in _ (by omega)
      have r6 : ¬ F = st + 1 + 1 := by omega
      have r7 : ¬ (st : Int) + 1 + 1 > F := by omega
      have N30 := Lib.hid hMk
      generalize hY1 : (ys.set st 128).set (st + 1) x = ys1 at *
      obtain ⟨w9, _⟩ : ∃ w9 : World, True := ⟨w, trivial⟩
      go_region_held3 (fun w' => w'.cell? ⟨b, off + k * 2 + 1, none⟩ = some (.slice A3 n3 c3)) ((refine Has.cell ?_; (repeat (with_reducible first | exact hXW | refine Has.drew ?_ | refine Has.grown ?_ hg9 hneG)))) (first
            | ((refine step_copy_lay _ rfl (.tmp 47) (.tmp 52) 22 22 rfl 5 Tryd.underlying22 Tryd.szU8 _ _ _ A3 n3 c3 rfl rfl G (st + 1 + 1) w.heap.size 5 F F ys1 xd ?_ ?_ ?_ ?_ ?_ ?_); (focus (intro hh; first | rfl | (have h30 := N30.out; omega))); (focus (have h30 := N30.out; omega)); (focus (have h30 := N30.out; omega)); (focus ((repeat (with_reducible first | exact hO1 | refine Own.drew ?_)); done)); (focus ((repeat (with_reducible first | exact hEE | refine RdE.drew ?_)); done)); intro w9 ho9 hg9))
      obtain ⟨en, hen⟩ : ∃ en, en = st + (2 + n3) := ⟨_, rfl⟩
      have HEN := Lib.hid hen
      have e9 : IntKind.i64.wrap ((st : Int) + 1 + 1 + (n3 : Int)) = (en : Int) := by rw [IntWalk.i64_in _ (by omega)]; omega
      rw [e9]
      have hbW9 : Below w.heap.size w w9 := (hbW.drew).grown hg9 (by have := hbW.size; exact this) (fun q hq => by injection hq with hq; omega)
      have hPL9 : Hid (PlOk l (some ⟨gp, op, none⟩) n G w9) := PlOk.grown (w := W.drew) hPL1.out hg9
      have hh9 := HH.out
      subst hY1
      have hRs : Rd bv w9 w9.heap.size (some ⟨G, st, none⟩) (en - st) (F - st) (gHead { kind := x, data := xd }) := by
        have h1 := (ho9.rd.drop st (by omega)).take (en - st) (by omega)
        rw [Nat.zero_add] at h1
        rw [← hh9]
        rw [show 2 + n3 = en - st from by omega, show st + 2 = st + 1 + 1 from by omega]
        exact h1
      have FS := sshort_any (some ⟨G, st, none⟩) (en - st) (F - st) _ _ w9 hRs (by omega)
      have HST := hstep
      generalize gHead { kind := x, data := xd } = hd9 at *
      have hs9 : shortN hd9 < 65536 := shortN_lt hd9
      generalize shortN hd9 = sN at *
      have v1 : (st : Int) ≤ en := by omega
      have v2 : (en : Int) ≤ F := by omega
      have v3 : st ≤ en := by omega
      have v4 : en ≤ F := by omega
      have v5 : ¬ F = st := by omega
      have v6 : (en : Int) < F := by omega
      have v7 : en < F := by omega
      have v8 : (en : Int) + 1 < F := by omega
      have v9 : en + 1 < F := by omega
      clear hstep hen r1 r2 r3 r4 r5 r6 r7 q1 q2 q3 q4 hXW hEE hO1 hbW hPL1 hg9 hRs hh9 HH e9 hMk
      have HST2 : Hid (gPart l (k + 1) = ((lay ((ys.set st 128).set (st + 1) x) (st + 1 + 1) xd).set en (u8N (sN % 256))).set (en + 1) (u8N (sN / 256))) := by
        have h := HST.out
        rw [← HEN.out, show st + 2 = st + 1 + 1 from by omega] at h
        exact h
      clear HST
      generalize lay ((ys.set st 128).set (st + 1) x) (st + 1 + 1) xd = ys9 at *
      have hl9 := ho9.len
      have z1 := ho9.at_ en (by omega)
      have z2 := ho9.at_ (en + 1) (by omega)
      unfold bv at z1 z2
      generalize ys9[en] = y1 at z1
      generalize ys9[en + 1] = y2 at z2
      have g1 := ho9.frozen en
      have g2 := ho9.frozen (en + 1)
      have hO2 := (ho9.stored en (u8N (sN % 256))).stored (en + 1) (u8N (sN / 256))
      have hg2 := World.grownBy.trans' (ho9.storedG en (bv (u8N (sN % 256)))) ((ho9.stored en (u8N (sN % 256))).storedG (en + 1) (bv (u8N (sN / 256))))
      have e1 : bv (u8N (sN % 256)) = .int .u8 ((sN : Int) % 256) := by unfold bv; rw [u8N_toNat _ (by omega)]; simp
      have e2 : bv (u8N (sN / 256)) = .int .u8 ((sN : Int) / 256) := by unfold bv; rw [u8N_toNat _ (by omega)]; simp
      rw [e1, e2] at hO2 hg2
      rw [← HST2.out] at hO2
      have p1 : (sN : Int) / 256 % 256 = (sN : Int) / 256 := by omega
      have p2 : (sN : Int) / 256 < 256 := by omega
      have p3 : (0 : Int) ≤ (sN : Int) / 256 := by omega
      have hbE := hbW9.grown hg2 hbW9.size (fun q hq => by injection hq with hq; omega)
      have hPLE : Hid (PlOk l (some ⟨gp, op, none⟩) n G ((w9.setCell ⟨G, en, none⟩ (.int .u8 ((sN : Int) % 256))).setCell ⟨G, en + 1, none⟩ (.int .u8 ((sN : Int) / 256)))) := PlOk.grown hPL9.out hg2
      clear hl9 HST2 e1 e2 ho9 hg2 hPL9 hbW9
      go_wp2_with (go_at_call 28; refine FS.mono ?_; rintro e w' ⟨rfl, rfl⟩)
      go_roundw
      case rel => exact ⟨k + 1, by omega, by go_num, hO2, hPLE, hbE⟩
      case measure => simp [intOf]; omega
    · obtain rfl : k = n := by omega
      rw [HPn.out] at hO
      go_wp2
      go_ret2
      exact ⟨_, F, F, rfl, hO, hb⟩

end Go.Proofs.YtghbgehmaejggaaDoor
