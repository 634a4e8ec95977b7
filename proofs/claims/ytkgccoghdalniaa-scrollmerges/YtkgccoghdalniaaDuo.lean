/- Two rows of writes side by side, whose fields are written; what the law on Apply makes of its writes and its sides. Plain lemmas, no law is claimed here. -/
import Derived.Test.YtkgccoghdalniaaScrX
import Derived.Test.YtkgccoghdalniaaScrF2
import Derived.Test.YtkgccoghdalniaaFrameS
namespace Go.Proofs.Ytkgccoghdalniaa
open Go.RowKit

structure Duo (w : World) (base : Nat) (A : Option Addr) (n c : Nat) (rs : List RawW) (A2 : Option Addr) (c2 : Nat) (rs2 : List RawW) (ws ws2 : List Wm) : Prop where
  one : OwnX (shW .u8 .u32) w base 44 (SF base w A A2) A n c rs ws
  two : OwnX (shW .i64 .i64) w base 69 (SF base w A A2) A2 n c2 rs2 ws2
  sep : ∀ k, A2.map (·.block) = some k → Off A k
section
variable {w w' : World} {base : Nat} {A : Option Addr} {n c : Nat} {rs : List RawW} {A2 : Option Addr} {c2 : Nat} {rs2 : List RawW} {ws ws2 : List Wm}
theorem Two.duo (h : Two w base A n c rs A2 n c2 rs2 ws) : Duo w base A n c rs A2 c2 rs2 ws (ws.map refW) := ⟨h.one, h.two, h.sep⟩
theorem Duo.below (h : Duo w base A n c rs A2 c2 rs2 ws ws2) (hb : Below w.heap.size w w') : Duo w' base A n c rs A2 c2 rs2 ws ws2 := by
  have hs := hb.size
  have hsub : ∀ b, SF base w A A2 b → SF base w' A A2 b := fun b h => ⟨h.1, by have := h.2.1; omega, h.2.2⟩
  have hk : Kp (SF base w A A2) w w' := Kp.below hb (fun b h => h.2.1)
  exact ⟨h.one.keep (fun k hk' => hb.block k (h.one.lt k hk').2) hk hsub, h.two.keep (fun k hk' => hb.block k (h.two.lt k hk').2) hk hsub, h.sep⟩
theorem OwnX.frozen {ρ α : Type} {T : Shape ρ α} {w : World} {base : Nat} {e : TypeId} {S : Nat → Prop} {g n c : Nat} {rs : List ρ} {xs : List α} (h : OwnX T w base e S (some ⟨g, 0, none⟩) n c rs xs) (j : Nat) : w.frozen? ⟨g, j, none⟩ = false := h.own.frozenAt j
/-- an element of a row of writes -/
theorem OwnX.atW {k1 k2 : IntKind} {e : TypeId} {S : Nat → Prop} (h : OwnX (shW k1 k2) w base e S A n c rs ws) (j : Nat) (hj : j < n) :
    ∃ g A3 n3 c3, A = some ⟨g, 0, none⟩ ∧ base ≤ g ∧ g < w.heap.size ∧ rs[j]? = some ⟨(ws[j]'(by rw [h.len]; exact hj)).side, (ws[j]'(by rw [h.len]; exact hj)).pl, A3, n3, c3⟩ ∧
      w.cell? ⟨g, j * 3, none⟩ = some (.int k1 ((ws[j]'(by rw [h.len]; exact hj)).side.toNat : Int)) ∧ w.cell? ⟨g, j * 3 + 1, none⟩ = some (.int k2 (ws[j]'(by rw [h.len]; exact hj)).pl) ∧
      Rdp bv w S A3 n3 c3 (ws[j]'(by rw [h.len]; exact hj)).data := by
  obtain ⟨g, e1, hb, hg, hc⟩ := h.cell j hj
  have hjr : j < rs.length := by rw [h.lenr]; exact hj
  have hjx : j < ws.length := by rw [h.len]; exact hj
  obtain ⟨h1, h2, h3⟩ := h.ok j _ _ (List.getElem?_eq_getElem hjr) (List.getElem?_eq_getElem hjx)
  refine ⟨g, rs[j].A, rs[j].n, rs[j].c, e1, hb, hg, ?_, ?_, ?_, h3⟩
  · rw [List.getElem?_eq_getElem hjr, ← h1, ← h2]
  · have := hc 0 _ rfl
    rw [← h1]
    rw [show 0 + j * (shW k1 k2).k + 0 = j * 3 from by show 0 + j * 3 + 0 = j * 3; omega] at this
    exact this
  · have := hc 1 _ rfl
    rw [← h2]
    rw [show 0 + j * (shW k1 k2).k + 1 = j * 3 + 1 from by show 0 + j * 3 + 1 = j * 3 + 1; omega] at this
    exact this
theorem Duo.set1 {g : Nat} (h : Duo w base (some ⟨g, 0, none⟩) n c rs A2 c2 rs2 ws ws2) (j i p : Nat) (r r' : RawW) (x : Wm) (u : Value) (hj : j < n) (hi : i < 3) (hp : p = j * 3 + i) (hr : rs[j]? = some r)
    (hraw : (shW .u8 .u32).raw r' = ((shW .u8 .u32).raw r).set i u) (hok : (shW .u8 .u32).Ok w (SF base w (some ⟨g, 0, none⟩) A2) r' x) :
    Duo (w.setCell ⟨g, p, none⟩ u) base (some ⟨g, 0, none⟩) n c (rs.set j r') A2 c2 rs2 (ws.set j x) ws2 := by
  have hrj : rs[j]'(by rw [h.one.lenr]; exact hj) = r := by rw [List.getElem?_eq_getElem (by rw [h.one.lenr]; exact hj)] at hr; injection hr
  have f := h.one.field j i r' x u p hj hi hp (by rw [hrj]; exact hraw) hok (fun b hb => off_some.1 hb.2.2.1)
  have hsz : (w.setCell ⟨g, p, none⟩ u).heap.size = w.heap.size := by simp
  have hsub : ∀ b, SF base w (some ⟨g, 0, none⟩) A2 b → SF base (w.setCell ⟨g, p, none⟩ u) (some ⟨g, 0, none⟩) A2 b := fun b h => ⟨h.1, by rw [hsz]; exact h.2.1, h.2.2⟩
  have hk : Kp (SF base w (some ⟨g, 0, none⟩) A2) w (w.setCell ⟨g, p, none⟩ u) := Kp.setCell (fun b hb => off_some.1 hb.2.2.1) u
  exact ⟨f.1.sub hsub, h.two.keep (fun k hk' => Below.heap_setCell w _ u k (off_some.1 (h.sep k hk'))) hk hsub, h.sep⟩
theorem Duo.set2 {g : Nat} (h : Duo w base A n c rs (some ⟨g, 0, none⟩) c2 rs2 ws ws2) (j i p : Nat) (r r' : RawW) (x : Wm) (u : Value) (hj : j < n) (hi : i < 3) (hp : p = j * 3 + i) (hr : rs2[j]? = some r)
    (hraw : (shW .i64 .i64).raw r' = ((shW .i64 .i64).raw r).set i u) (hok : (shW .i64 .i64).Ok w (SF base w A (some ⟨g, 0, none⟩)) r' x) :
    Duo (w.setCell ⟨g, p, none⟩ u) base A n c rs (some ⟨g, 0, none⟩) c2 (rs2.set j r') ws (ws2.set j x) := by
  have hrj : rs2[j]'(by rw [h.two.lenr]; exact hj) = r := by rw [List.getElem?_eq_getElem (by rw [h.two.lenr]; exact hj)] at hr; injection hr
  have f := h.two.field j i r' x u p hj hi hp (by rw [hrj]; exact hraw) hok (fun b hb => off_some.1 hb.2.2.2)
  have hsz : (w.setCell ⟨g, p, none⟩ u).heap.size = w.heap.size := by simp
  have hsub : ∀ b, SF base w A (some ⟨g, 0, none⟩) b → SF base (w.setCell ⟨g, p, none⟩ u) A (some ⟨g, 0, none⟩) b := fun b h => ⟨h.1, by rw [hsz]; exact h.2.1, h.2.2⟩
  have hk : Kp (SF base w A (some ⟨g, 0, none⟩)) w (w.setCell ⟨g, p, none⟩ u) := Kp.setCell (fun b hb => off_some.1 hb.2.2.2) u
  have ho := h.sep g rfl
  exact ⟨h.one.keep (fun k hk' => Below.heap_setCell w _ u k (fun e => by subst e; exact ho hk'.symm)) hk hsub, f.1.sub hsub, h.sep⟩
end

/-- what the law makes of a write so that it lies in a side -/
def adjW (xss : List (List UInt8)) (x : Wm) : Wm :=
  if xss.length = 0 then x else ⟨UInt8.ofNat (x.side.toNat % xss.length), x.pl % (max ((xss.getD (x.side.toNat % xss.length) []).length : Int) 1), x.data⟩
def adjN (xss : List (List UInt8)) (ws : List Wm) (k : Nat) : List Wm := (ws.take k).map (adjW xss) ++ ws.drop k
theorem adjN_len (xss : List (List UInt8)) (ws : List Wm) (k : Nat) : (adjN xss ws k).length = ws.length := by simp [adjN]; omega
theorem adjN_zero (xss : List (List UInt8)) (ws : List Wm) : adjN xss ws 0 = ws := by simp [adjN]
theorem adjN_at (xss : List (List UInt8)) (ws : List Wm) (k : Nat) (h : k < ws.length) : (adjN xss ws k)[k]'(by rw [adjN_len]; exact h) = ws[k] := by
  apply Option.some.inj
  rw [← List.getElem?_eq_getElem, ← List.getElem?_eq_getElem]
  unfold adjN
  rw [List.getElem?_append_right (by simp; omega), List.getElem?_drop]
  congr 1; simp; omega
theorem adjN_step (xss : List (List UInt8)) (ws : List Wm) (k : Nat) (h : k < ws.length) : (adjN xss ws k).set k (adjW xss ws[k]) = adjN xss ws (k + 1) := by
  unfold adjN
  have hl : ((ws.take k).map (adjW xss)).length = k := by simp; omega
  rw [List.set_append_right _ _ (by omega), hl, Nat.sub_self, List.drop_eq_getElem_cons h, List.set_cons_zero, List.take_succ_eq_append_getElem h, List.map_append]
  simp
theorem adjN_all (xss : List (List UInt8)) (ws : List Wm) (k : Nat) (h : ws.length ≤ k) : adjN xss ws k = ws.map (adjW xss) := by
  unfold adjN; rw [List.take_of_length_le h, List.drop_eq_nil_of_le h]; simp
theorem adjW_none {xss : List (List UInt8)} (h : xss.length = 0) (x : Wm) : adjW xss x = x := by unfold adjW; rw [if_pos h]

/-- the sides that the law makes -/
def sidesN (ns : List UInt8) : List (List UInt8) := (ns.take 8).map fun n => List.replicate n.toNat 0
theorem sidesN_snoc (ns : List UInt8) (k : Nat) (h : k < ns.length) (h8 : k < 8) : sidesN (ns.take (k + 1)) = sidesN (ns.take k) ++ [List.replicate ns[k].toNat 0] := by
  unfold sidesN
  rw [List.take_take, List.take_take, Nat.min_eq_right (by omega), Nat.min_eq_right (by omega), List.take_succ_eq_append_getElem h, List.map_append]; rfl
theorem sidesN_stop (ns : List UInt8) (k : Nat) (h8 : 8 ≤ k) : sidesN (ns.take (k + 1)) = sidesN (ns.take k) := by
  unfold sidesN; rw [List.take_take, List.take_take, Nat.min_eq_left (by omega), Nat.min_eq_left (by omega)]
theorem sidesN_len (ns : List UInt8) : (sidesN ns).length = min 8 ns.length := by simp [sidesN]
theorem sidesN_mem {ns : List UInt8} {xs : List UInt8} (h : xs ∈ sidesN ns) : xs.length ≤ 255 ∧ ∀ x ∈ xs, x = 0 := by
  unfold sidesN at h
  rw [List.mem_map] at h
  obtain ⟨n, _, rfl⟩ := h
  have := n.toNat_lt
  exact ⟨by simp; omega, fun x hx => List.eq_of_mem_replicate hx⟩

/-- both Applies answer alike -/
theorem okA_ref (xss : List (List UInt8)) (x : Wm) : okA xss (refW x) = okA xss x := by
  unfold refW
  by_cases h : x.pl ≤ 100000
  · rw [show min x.pl 100000 = x.pl from by omega]
  · have h1 : okA xss x = false := by
      rw [Bool.eq_false_iff]; intro e
      unfold okA at e
      rw [Bool.and_eq_true] at e
      have := rightB_true.1 e.1
      omega
    have h2 : okA xss ⟨x.side, min x.pl 100000, x.data⟩ = false := by
      rw [Bool.eq_false_iff]; intro e
      unfold okA at e
      rw [Bool.and_eq_true] at e
      have := rightB_true.1 e.1
      simp only at this
      omega
    rw [h1, h2]
theorem allA_ref (xss : List (List UInt8)) (ws : List Wm) : allA xss (ws.map refW) = allA xss ws := by
  unfold allA
  induction ws with
  | nil => rfl
  | cons x ws ih => rw [List.map_cons, List.all_cons, List.all_cons, ih, okA_ref]
theorem map_ref {xss : List (List UInt8)} {ws : List Wm} (h : allA xss ws = true) : ws.map refW = ws := by
  unfold allA at h
  rw [List.all_eq_true] at h
  rw [List.map_congr_left (g := id)]
  · simp
  · intro x hx
    have := h x hx
    unfold okA at this
    rw [Bool.and_eq_true] at this
    have := rightB_true.1 this.1
    unfold refW
    rw [show min x.pl 100000 = x.pl from by omega]; rfl
def outN (xss : List (List UInt8)) (ws : List Wm) : List (List UInt8) := if allA xss ws = true then applyN xss ws else []
theorem outN_ref (xss : List (List UInt8)) (ws : List Wm) : outN xss (ws.map refW) = outN xss ws := by
  unfold outN
  rw [allA_ref]
  split
  · rename_i h; rw [map_ref h]
  · rfl
theorem RetAp.out {w : World} {xss : List (List UInt8)} {ws : List Wm} {e : Ending} {w' : World} (h : RetAp w xss ws e w') :
    ∃ A c ss, e = .returned (.tuple #[.slice A (outN xss ws).length c, .bool (allA xss ws)]) ∧ Rd sv w' w'.heap.size A (outN xss ws).length c ss ∧ Rds w' w'.heap.size ss (outN xss ws) ∧ Below w.heap.size w w' := by
  rcases h with ⟨h1, rfl, h3⟩ | ⟨h1, A, c, ss, rfl, h4, h5⟩
  · refine ⟨none, 0, [], ?_, ?_, ?_, h3⟩ <;> unfold outN <;> rw [h1] <;> simp
    · exact Rd.nil
    · exact ⟨rfl, fun j s ys h => by simp at h⟩
  · have hn : (applyN xss ws).length = xss.length := h4.len
    refine ⟨A, c, ss, ?_, ?_, ?_, h5⟩ <;> unfold outN <;> rw [h1, if_pos rfl]
    · rw [hn]
    · rw [hn]; exact h4.row.rd
    · exact h4.rds
theorem outN_le {xss : List (List UInt8)} {ws : List Wm} {M : Nat} (hp : ∀ x ∈ ws, 0 ≤ x.pl) (hm : ∀ xs ∈ xss, xs.length ≤ M) : (outN xss ws).length ≤ xss.length ∧ ∀ xs ∈ outN xss ws, xs.length ≤ M := by
  unfold outN
  split
  · rename_i h
    have hl := applyN_lens h hp
    refine ⟨by have := congrArg List.length hl; simp at this; omega, fun xs hx => ?_⟩
    have : xs.length ∈ xss.map List.length := by rw [← hl]; exact List.mem_map_of_mem hx
    rw [List.mem_map] at this
    obtain ⟨y, hy, e⟩ := this
    rw [← e]; exact hm y hy
  · exact ⟨by simp, fun xs hx => by simp at hx⟩

end Go.Proofs.Ytkgccoghdalniaa
