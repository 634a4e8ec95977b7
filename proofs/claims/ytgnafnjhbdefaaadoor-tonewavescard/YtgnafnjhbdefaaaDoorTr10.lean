/- A tone beside the document's row of bits, in one world; how a tone and the document's voice belong together. No law is claimed here. -/
import Derived.Test.YtgnafnjhbdefaaaDoorTr9
set_option linter.unusedSimpArgs false
set_option linter.unusedVariables false
namespace Go.Proofs.YtgnafnjhbdefaaaDoor
open Go.RowKit Go.Great

/-- fifteen bits of a number -/
def bl (n : Int) : List Int := [n % 2, n / 2 % 2, n / 4 % 2, n / 8 % 2, n / 16 % 2, n / 32 % 2, n / 64 % 2, n / 128 % 2, n / 256 % 2, n / 512 % 2, n / 1024 % 2, n / 2048 % 2, n / 4096 % 2, n / 8192 % 2, n / 16384 % 2]
theorem bl_bit (n : Int) : ∀ y ∈ bl n, y = 0 ∨ y = 1 := by
  intro y hy
  unfold bl at hy
  simp only [List.mem_cons, List.not_mem_nil, or_false] at hy
  rcases hy with h | h | h | h | h | h | h | h | h | h | h | h | h | h | h <;> omega
theorem bl_step (n c : Int) (hn : 0 ≤ n ∧ n < 32768) (hc : c = 0 ∨ c = 1) : bl (n / 2 + c * 16384) = (bl n).drop 1 ++ [c] := by
  unfold bl
  show _ = [n / 2 % 2, n / 4 % 2, n / 8 % 2, n / 16 % 2, n / 32 % 2, n / 64 % 2, n / 128 % 2, n / 256 % 2, n / 512 % 2, n / 1024 % 2, n / 2048 % 2, n / 4096 % 2, n / 8192 % 2, n / 16384 % 2, c]
  have e0 : (n / 2 + c * 16384) % 2 = n / 2 % 2 := by rcases hc with rfl | rfl <;> omega
  have e1 : (n / 2 + c * 16384) / 2 % 2 = n / 4 % 2 := by rcases hc with rfl | rfl <;> omega
  have e2 : (n / 2 + c * 16384) / 4 % 2 = n / 8 % 2 := by rcases hc with rfl | rfl <;> omega
  have e3 : (n / 2 + c * 16384) / 8 % 2 = n / 16 % 2 := by rcases hc with rfl | rfl <;> omega
  have e4 : (n / 2 + c * 16384) / 16 % 2 = n / 32 % 2 := by rcases hc with rfl | rfl <;> omega
  have e5 : (n / 2 + c * 16384) / 32 % 2 = n / 64 % 2 := by rcases hc with rfl | rfl <;> omega
  have e6 : (n / 2 + c * 16384) / 64 % 2 = n / 128 % 2 := by rcases hc with rfl | rfl <;> omega
  have e7 : (n / 2 + c * 16384) / 128 % 2 = n / 256 % 2 := by rcases hc with rfl | rfl <;> omega
  have e8 : (n / 2 + c * 16384) / 256 % 2 = n / 512 % 2 := by rcases hc with rfl | rfl <;> omega
  have e9 : (n / 2 + c * 16384) / 512 % 2 = n / 1024 % 2 := by rcases hc with rfl | rfl <;> omega
  have e10 : (n / 2 + c * 16384) / 1024 % 2 = n / 2048 % 2 := by rcases hc with rfl | rfl <;> omega
  have e11 : (n / 2 + c * 16384) / 2048 % 2 = n / 4096 % 2 := by rcases hc with rfl | rfl <;> omega
  have e12 : (n / 2 + c * 16384) / 4096 % 2 = n / 8192 % 2 := by rcases hc with rfl | rfl <;> omega
  have e13 : (n / 2 + c * 16384) / 8192 % 2 = n / 16384 % 2 := by rcases hc with rfl | rfl <;> omega
  have e14 : (n / 2 + c * 16384) / 16384 % 2 = c := by rcases hc with rfl | rfl <;> omega
  rw [e0, e1, e2, e3, e4, e5, e6, e7, e8, e9, e10, e11, e12, e13, e14]

/-- in the world v the block m is the tone s; the row A holds the bits bs; all below m is as it was in w0 -/
structure BW (w0 : World) (m : Nat) (s : TS) (A : Option Addr) (c : Nat) (bs : List Int) (v : World) : Prop where
  ex : ∃ w2, v = stT w2 m s ∧ m < w2.heap.size ∧ gl w2 ∧ Below m w0 w2 ∧ RowR w2 A c bs
  ok : TOk s
  lo : 2 < m
  nm : ∀ g o, A = some ⟨g, o, none⟩ → g ≠ m
theorem RowR.drewN {w : World} {A : Option Addr} {c : Nat} {bs : List Int} (h : RowR w A c bs) (q : Nat) : RowR (w.drewN q) A c bs := h.up (still_below _ _ _)
theorem BW.below {w0 v : World} {m : Nat} {s : TS} {A : Option Addr} {c : Nat} {bs : List Int} (h : BW w0 m s A c bs v) : Below m w0 v := by
  obtain ⟨⟨w2, rfl, _, _, hb, _⟩, _, _, _⟩ := h
  exact rowT_below hb m (Nat.le_refl _) _ _
theorem BW.gl {w0 v : World} {m : Nat} {s : TS} {A : Option Addr} {c : Nat} {bs : List Int} (h : BW w0 m s A c bs v) : gl v := by
  obtain ⟨⟨w2, rfl, _, h2, _⟩, _, h4, _⟩ := h
  exact h2.row m h4 s
theorem BW.rowR {w0 v : World} {m : Nat} {s : TS} {A : Option Addr} {c : Nat} {bs : List Int} (h : BW w0 m s A c bs v) : RowR v A c bs := by
  obtain ⟨⟨w2, rfl, h1, h2, hb, ⟨l1, l2, g, o, hA, hg, hc⟩⟩, _, _, hn⟩ := h
  have hgm := hn g o hA
  exact ⟨l1, l2, g, o, hA, by unfold stT; rw [rowT_size]; exact hg, fun j hj => (rowT_cellFar w2 m 67 s.cells ⟨g, o + j, none⟩ hgm).trans (hc j hj)⟩
theorem BW.drewN {w0 v : World} {m : Nat} {s : TS} {A : Option Addr} {c : Nat} {bs : List Int} (h : BW w0 m s A c bs v) (q : Nat) : BW w0 m s A c bs (v.drewN q) := by
  obtain ⟨⟨w2, rfl, h1, h2, hb, hr⟩, h3, h4, h5⟩ := h
  exact ⟨⟨w2.drewN q, stT_drewN _ _ _ _, by simpa using h1, h2.drewN q, hb.trans (still_below _ _ _), hr.drewN q⟩, h3, h4, h5⟩
/-- behind what keeps all that there is -/
theorem BW.past {w0 v v' : World} {m : Nat} {s : TS} {A : Option Addr} {c : Nat} {bs : List Int} (h : BW w0 m s A c bs v) (hb : Below v.heap.size v v') : BW w0 m s A c bs v' := by
  obtain ⟨⟨w2, rfl, h1, h2, hb2, hr⟩, h3, h4, h5⟩ := h
  obtain ⟨os, d, rfl⟩ := more_of hb
  refine ⟨⟨more w2 os d, rowT_more _ _ _ _ _ _ h1, more_lt _ _ _ _ h1, h2.below (more_self _ _ _), ?_, hr.up (more_self _ _ _)⟩, h3, h4, h5⟩
  exact hb2.trans ((more_self w2 os d).mono (Nat.le_of_lt h1))
/-- .. with another row that was made -/
theorem BW.row {w0 v v' : World} {m : Nat} {s : TS} {A A' : Option Addr} {c c' : Nat} {bs bs' : List Int} (h : BW w0 m s A c bs v) (hb : Below v.heap.size v v') (hr : RowR v' A' c' bs') (hg : ∀ g o, A' = some ⟨g, o, none⟩ → v.heap.size ≤ g) : BW w0 m s A' c' bs' v' := by
  obtain ⟨⟨w2, rfl, h1, h2, hb2, _⟩, h3, h4, h5⟩ := h
  obtain ⟨os, d, rfl⟩ := more_of hb
  have hs : (stT w2 m s).heap.size = w2.heap.size := rowT_size _ _ _ _
  have e : more (stT w2 m s) os d = stT (more w2 os d) m s := rowT_more _ _ _ _ _ _ h1
  rw [e] at hr ⊢
  obtain ⟨l1, l2, g, o, hA, hgs, hc⟩ := hr
  have hgm := hg g o hA
  refine ⟨⟨more w2 os d, rfl, more_lt _ _ _ _ h1, h2.below (more_self _ _ _), hb2.trans ((more_self w2 os d).mono (Nat.le_of_lt h1)), ⟨l1, l2, g, o, hA, by unfold stT at hgs; rwa [rowT_size] at hgs, fun j hj => ?_⟩⟩, h3, h4, fun g' o' hA' => ?_⟩
  · rw [← hc j hj]
    exact (rowT_cellFar (more w2 os d) m 67 s.cells ⟨g, o + j, none⟩ (by show g ≠ m; omega)).symm
  · have := hg g' o' hA'; omega

variable {w0 v : World} {m : Nat} {s : TS} {A : Option Addr} {c : Nat} {bs : List Int}
theorem BW.put (h : BW w0 m s A c bs v) (r b : Int) (hr : 0 ≤ r) (hb : 0 ≤ b ∧ b < 256) :
    Calls Tryd.prog 18 #[.pointer (some ⟨m, 0, none⟩), .int .u8 r, .int .u8 b] v fun e v' => e = .returned (.tuple #[]) ∧ BW w0 m (putT s r b) A c bs v' := by
  obtain ⟨⟨w2, rfl, h1, h2, hb2, hrw⟩, h3, h4, h5⟩ := h
  refine (tput_any w2 m s r b h1 h3 h2 h4 hr hb).mono ?_
  rintro e v' ⟨rfl, rfl⟩
  exact ⟨rfl, ⟨w2, rfl, h1, h2, hb2, hrw⟩, ok_put h3 r b hb, h4, h5⟩
theorem BW.en (h : BW w0 m s A c bs v) (on : Bool) :
    Calls Tryd.prog 16 #[.pointer (some ⟨m, 0, none⟩), .bool on] v fun e v' => e = .returned (.tuple #[]) ∧ BW w0 m (enT s on) A c bs v' := by
  obtain ⟨⟨w2, rfl, h1, h2, hb2, hrw⟩, h3, h4, h5⟩ := h
  refine (ten_any w2 m s on h1).mono ?_
  rintro e v' ⟨rfl, rfl⟩
  exact ⟨rfl, ⟨w2, rfl, h1, h2, hb2, hrw⟩, ok_en h3 on, h4, h5⟩
theorem BW.clock (h : BW w0 m s A c bs v) :
    Calls Tryd.prog 22 #[.pointer (some ⟨m, 0, none⟩)] v fun e v' => e = .returned (.tuple #[]) ∧ BW w0 m (clockT s) A c bs v' := by
  obtain ⟨⟨w2, rfl, h1, h2, hb2, hrw⟩, h3, h4, h5⟩ := h
  refine (tclock_any w2 m s h1 h3).mono ?_
  rintro e v' ⟨rfl, rfl⟩
  exact ⟨rfl, ⟨w2, rfl, h1, h2, hb2, hrw⟩, ok_clock h3, h4, h5⟩
theorem BW.qua (h : BW w0 m s A c bs v) :
    Calls Tryd.prog 20 #[.pointer (some ⟨m, 0, none⟩)] v fun e v' => e = .returned (.tuple #[]) ∧ BW w0 m (quaT s) A c bs v' := by
  obtain ⟨⟨w2, rfl, h1, h2, hb2, hrw⟩, h3, h4, h5⟩ := h
  refine (tqua_any w2 m s h1 h3).mono ?_
  rintro e v' ⟨rfl, q, rfl⟩
  exact ⟨rfl, ⟨w2.drewN q, rfl, by simpa using h1, h2.drewN q, hb2.trans (still_below _ _ _), hrw.drewN q⟩, ok_qua h3, h4, h5⟩
theorem BW.half (h : BW w0 m s A c bs v) :
    Calls Tryd.prog 26 #[.pointer (some ⟨m, 0, none⟩)] v fun e v' => e = .returned (.tuple #[]) ∧ BW w0 m (halfT s) A c bs v' := by
  obtain ⟨⟨w2, rfl, h1, h2, hb2, hrw⟩, h3, h4, h5⟩ := h
  refine (thalf_any w2 m s h1 h3).mono ?_
  rintro e v' ⟨rfl, q, rfl⟩
  exact ⟨rfl, ⟨w2.drewN q, rfl, by simpa using h1, h2.drewN q, hb2.trans (still_below _ _ _), hrw.drewN q⟩, ok_half h3, h4, h5⟩
theorem BW.out (h : BW w0 m s A c bs v) :
    Calls Tryd.prog 29 #[.pointer (some ⟨m, 0, none⟩)] v fun e v' => e = .returned (.int .u8 (outT s)) ∧ ∃ q, v' = v.drewN q := by
  obtain ⟨⟨w2, rfl, h1, h2, hb2, hrw⟩, h3, h4, h5⟩ := h
  exact tout_any w2 m s h1 h3 h2 h4
theorem BW.live (h : BW w0 m s A c bs v) :
    Calls Tryd.prog 25 #[.pointer (some ⟨m, 0, none⟩)] v fun e v' => e = .returned (.bool (decide (0 < s.len))) ∧ v' = v := by
  obtain ⟨⟨w2, rfl, h1, h2, hb2, hrw⟩, h3, h4, h5⟩ := h
  exact tlive_any w2 m s h1

/-- a tone and the document's voice -/
structure Rl (s : TS) (x : RT) : Prop where
  k : x.kind = s.kind
  on : x.on = s.en
  r0 : x.r0 = s.ctl
  r1 : x.r1 = s.sreg
  r2 : 0 ≤ x.r2 ∧ x.r2 < 256
  n3 : s.kind = 3 → s.short = decide (128 ≤ x.r2) ∧ s.per = at0 noiL (x.r2 % 16) - 1
  len : x.len = s.len
  tim : x.tim = s.tim
  per : x.per = s.per
  stp : s.kind ≠ 3 → x.stp = s.stp
  stb : 0 ≤ x.stp ∧ x.stp < 32
  anew2 : s.kind = 2 → x.anew = s.pend
  anew : s.kind ≠ 2 → x.anew = s.rst
  swept : x.swept = s.swr
  lev : x.lev = s.lev
  cnt : x.cnt = s.div
  lin : x.lin = s.lin
  swp : x.swp = s.sdiv
  nr : x.nr = 15

end Go.Proofs.YtgnafnjhbdefaaaDoor
