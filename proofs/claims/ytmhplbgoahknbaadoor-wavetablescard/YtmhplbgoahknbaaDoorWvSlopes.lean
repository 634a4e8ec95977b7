/- WaveSlopes: what a wave's slopes are, cycle by cycle. No law is claimed here. -/
import Derived.Test.YtmhplbgoahknbaaDoorWv11
namespace Go.Proofs.YtmhplbgoahknbaaDoor
open Go.RowKit

def eg (T : Bool) (s : WS) : Int := if T then s.dg else s.vg
def ec (T : Bool) (s : WS) : Int := if T then s.dc else s.vc
def es (T : Bool) (s : WS) : Int := if T then s.ds else s.vs
def er (T : Bool) : Nat := if T then 4 else 0
/-- what a tick leaves as it was -/
structure Same8 (a b : WS) : Prop where
  reg : a.reg = b.reg
  tab : a.tab = b.tab
  vg : a.vg = b.vg
  vs : a.vs = b.vs
  vc : a.vc = b.vc
  dg : a.dg = b.dg
  ds : a.ds = b.ds
  dc : a.dc = b.dc
  held : a.held = b.held
theorem Same8.trans {a b c : WS} (h : Same8 a b) (k : Same8 b c) : Same8 a c :=
  ⟨h.reg.trans k.reg, h.tab.trans k.tab, h.vg.trans k.vg, h.vs.trans k.vs, h.vc.trans k.vc, h.dg.trans k.dg, h.ds.trans k.ds, h.dc.trans k.dc, h.held.trans k.held⟩
theorem same_mod (s : WS) : Same8 (modW s) s := by
  unfold modW modT
  (repeat' split) <;> exact ⟨rfl, rfl, rfl, rfl, rfl, rfl, rfl, rfl, rfl⟩
theorem same_adv (s : WS) : Same8 (advW s) s := by
  unfold advW advT
  (repeat' split) <;> exact ⟨rfl, rfl, rfl, rfl, rfl, rfl, rfl, rfl, rfl⟩
theorem same_tick (s : WS) : Same8 (tickW s) s := by
  unfold tickW
  split
  · exact (same_adv _).trans ((same_mod _).trans ⟨rfl, rfl, rfl, rfl, rfl, rfl, rfl, rfl, rfl⟩)
  · exact ⟨rfl, rfl, rfl, rfl, rfl, rfl, rfl, rfl, rfl⟩
theorem eg_clock (T : Bool) (s : WS) : eg T (clockW s) = if 64 ≤ s.reg 3 then eg T s else envG (s.reg (er T)) (s.reg 10) (eg T s) (es T s) (ec T s) := by
  have h := same_tick (fadeW s)
  have e : eg T (clockW s) = eg T (fadeW s) := by unfold clockW eg; rw [h.vg, h.dg]
  rw [e]
  unfold fadeW
  by_cases h3 : 64 ≤ s.reg 3
  · rw [if_pos h3, if_pos h3]
  · rw [if_neg h3, if_neg h3]; cases T <;> rfl
theorem ec_clock (T : Bool) (s : WS) : ec T (clockW s) = if 64 ≤ s.reg 3 then ec T s else envC (s.reg (er T)) (s.reg 10) (es T s) (ec T s) := by
  have h := same_tick (fadeW s)
  have e : ec T (clockW s) = ec T (fadeW s) := by unfold clockW ec; rw [h.vc, h.dc]
  rw [e]
  unfold fadeW
  by_cases h3 : 64 ≤ s.reg 3
  · rw [if_pos h3, if_pos h3]
  · rw [if_neg h3, if_neg h3]; cases T <;> rfl
theorem es_clock (T : Bool) (s : WS) : es T (clockW s) = es T s := by
  have h := same_tick (fadeW s)
  have e : es T (clockW s) = es T (fadeW s) := by unfold clockW es; rw [h.vs, h.ds]
  rw [e]
  unfold fadeW
  by_cases h3 : 64 ≤ s.reg 3
  · rw [if_pos h3]
  · rw [if_neg h3]; cases T <;> rfl
theorem reg_clock (s : WS) : (clockW s).reg = s.reg := by
  have h := same_tick (fadeW s)
  unfold clockW
  rw [h.reg]
  unfold fadeW
  split <;> rfl

/-- a slope that goes: its register b, its speed S, its gain, its count -/
structure SL (T : Bool) (b M S X g c : Int) (s : WS) : Prop where
  r10 : s.reg 10 = M
  rr : s.reg (er T) = b
  r3 : s.reg 3 = X
  sp : es T s = S
  g : eg T s = g
  c : ec T s = c
theorem SL.off {T : Bool} {b M S X g c : Int} {s : WS} (h : SL T b M S X g c s) (hX : 64 ≤ X) : SL T b M S X g c (clockW s) := by
  refine ⟨by rw [reg_clock]; exact h.r10, by rw [reg_clock]; exact h.rr, by rw [reg_clock]; exact h.r3, by rw [es_clock]; exact h.sp, ?_, ?_⟩
  · rw [eg_clock, if_pos (by rw [h.r3]; exact hX)]; exact h.g
  · rw [ec_clock, if_pos (by rw [h.r3]; exact hX)]; exact h.c
theorem SL.on {T : Bool} {b M S X g c : Int} {s : WS} (h : SL T b M S X g c s) (hX : X < 64) (hb : b < 128) (hc : c + 1 < limW S M) : SL T b M S X g (c + 1) (clockW s) := by
  refine ⟨by rw [reg_clock]; exact h.r10, by rw [reg_clock]; exact h.rr, by rw [reg_clock]; exact h.r3, by rw [es_clock]; exact h.sp, ?_, ?_⟩
  · rw [eg_clock, if_neg (by rw [h.r3]; omega)]
    unfold envG
    rw [h.rr, h.r10, h.sp, h.c, h.g, if_neg (by omega), if_pos hc]
  · rw [ec_clock, if_neg (by rw [h.r3]; omega)]
    unfold envC
    rw [h.rr, h.r10, h.sp, h.c, if_neg (by omega), if_pos hc]
theorem SL.turn {T : Bool} {b M S X g c : Int} {s : WS} (h : SL T b M S X g c s) (hX : X < 64) (hb : b < 128) (hc : c + 1 = limW S M) : SL T b M S X (chgW g (decide (b / 64 % 2 = 1))) 0 (clockW s) := by
  refine ⟨by rw [reg_clock]; exact h.r10, by rw [reg_clock]; exact h.rr, by rw [reg_clock]; exact h.r3, by rw [es_clock]; exact h.sp, ?_, ?_⟩
  · rw [eg_clock, if_neg (by rw [h.r3]; omega)]
    unfold envG
    rw [h.rr, h.r10, h.sp, h.c, h.g, if_neg (by omega), if_neg (by omega)]
  · rw [ec_clock, if_neg (by rw [h.r3]; omega)]
    unfold envC
    rw [h.rr, h.r10, h.sp, h.c, if_neg (by omega), if_neg (by omega)]
/-- behind k cycles of P -/
def slG (off up : Bool) (P k g : Int) : Int := if off then g else if k < P then g else chgW g up
def slC (off : Bool) (P k : Int) : Int := if off then 0 else if k < P then k else 0
theorem SL.next {T off up : Bool} {b M S X g : Int} {s : WS} {k : Int} (h : SL T b M S X (slG off up (limW S M) k g) (slC off (limW S M) k) s) (hX : if off then 64 ≤ X else X < 64) (hb : b < 128) (hu : decide (b / 64 % 2 = 1) = up) (hkP : k < limW S M) :
    SL T b M S X (slG off up (limW S M) (k + 1) g) (slC off (limW S M) (k + 1)) (clockW s) := by
  cases off
  · have hX' : X < 64 := hX
    unfold slG slC at *
    simp only [Bool.false_eq_true, if_false] at *
    rw [if_pos hkP, if_pos hkP] at h
    by_cases h1 : k + 1 < limW S M
    · rw [if_pos h1, if_pos h1]
      exact h.on hX' hb h1
    · rw [if_neg h1, if_neg h1, ← hu]
      exact h.turn hX' hb (by omega)
  · have hX' : 64 ≤ X := hX
    unfold slG slC at *
    simp only [if_true] at *
    exact h.off hX'
theorem putW_r (s : WS) (r : Nat) (hr : r < 11) (b : Int) : putW s (16512 + r) b = putR s r b := by
  unfold putW
  rw [if_neg (by omega), if_neg (by omega), if_pos (by omega)]
  congr 1
  omega
def slS (T : Bool) (M B b : Int) : WS := putW (putW (putW newW 16522 M) (16512 + er T) B) (16512 + er T) b
theorem er_lt (T : Bool) : er T < 11 := by cases T <;> decide
theorem slS_is (T : Bool) (M G b : Int) (hG : 0 ≤ G ∧ G < 64) (hb : 0 ≤ b ∧ b < 128) : SL T b M (b % 64) 0 G 0 (slS T M (128 + G) b) := by
  unfold slS
  rw [show (16522 : Int) = 16512 + ((10 : Nat) : Int) from rfl, putW_r _ 10 (by decide), putW_r _ _ (er_lt T), putW_r _ _ (er_lt T)]
  have h1 : 128 ≤ 128 + G := by omega
  have h2 : ¬ 128 ≤ b := by omega
  have h3 : (128 + G) % 64 = G := by omega
  cases T
  · refine ⟨rfl, rfl, rfl, rfl, ?_, rfl⟩
    show (if 128 ≤ b then b % 64 else if 128 ≤ 128 + G then (128 + G) % 64 else (0 : Int)) = G
    rw [if_neg h2, if_pos h1, h3]
  · refine ⟨rfl, rfl, rfl, rfl, ?_, rfl⟩
    show (if 128 ≤ b then b % 64 else if 128 ≤ 128 + G then (128 + G) % 64 else (0 : Int)) = G
    rw [if_neg h2, if_pos h1, h3]
theorem SL.put3 {T : Bool} {b M S g c : Int} {s : WS} (h : SL T b M S 0 g c s) (X : Int) : SL T b M S X g c (putW s 16515 X) := by
  rw [show (16515 : Int) = 16512 + ((3 : Nat) : Int) from rfl, putW_r _ 3 (by decide)]
  unfold putR
  rw [pr_3]
  have e : ∀ t : WS, t.reg = s.reg → es T t = es T s → eg T t = eg T s → ec T t = ec T s → SL T b M S X g c (regW t 3 X) := fun t e1 e2 e3 e4 =>
    ⟨by show upd t.reg 3 X 10 = M; rw [e1]; exact h.r10, by show upd t.reg 3 X (er T) = b; rw [e1]; cases T <;> exact h.rr, rfl, by
      have : es T (regW t 3 X) = es T t := by cases T <;> rfl
      rw [this, e2]; exact h.sp, by
      have : eg T (regW t 3 X) = eg T t := by cases T <;> rfl
      rw [this, e3]; exact h.g, by
      have : ec T (regW t 3 X) = ec T t := by cases T <;> rfl
      rw [this, e4]; exact h.c⟩
  split
  · exact e _ rfl (by cases T <;> rfl) (by cases T <;> rfl) (by cases T <;> rfl)
  · exact e _ rfl rfl rfl rfl
theorem SL.get {T : Bool} {b M S X g c : Int} {s : WS} (h : SL T b M S X g c s) : getV (getW s (if T then 16530 else 16528)) = .tuple #[.int .u8 (g + 64), .bool true] := by
  have := h.g
  unfold eg at this
  cases T
  · simp only [Bool.false_eq_true, if_false] at *
    unfold getW; rw [if_neg (by decide), if_neg (by decide), if_pos rfl, this]; rfl
  · simp only [if_true] at *
    unfold getW; rw [if_neg (by decide), if_neg (by decide), if_neg (by decide), if_pos rfl, this]; rfl

end Go.Proofs.YtmhplbgoahknbaaDoor
