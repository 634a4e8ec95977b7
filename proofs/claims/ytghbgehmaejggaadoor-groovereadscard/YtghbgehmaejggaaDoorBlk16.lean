/- Contract of block.Side. No law is claimed here. -/
import Derived.Test.YtghbgehmaejggaaDoorBlk5
import Derived.Test.YtghbgehmaejggaaDoorK5
import Derived.Test.YtghbgehmaejggaaDoorBlk3
import Derived.StillTailTactics
namespace Go.Proofs.YtghbgehmaejggaaDoor
open Go.RowKit

theorem lay_nil' (xs : List UInt8) (k : Nat) : lay xs k [] = xs := by simp [lay]
/-- copy of bytes into a row of the call's own, at a step of a region whose order is open; of none, too -/
theorem step_copy_lay {P : Program} {ops : Array Oper} {o : Oper} {a : Act} {K : Act → World → Prop} {Q : Exit → Act → World → Prop} {E : Prop} (w : World) (hgd : o.guard = none) (d s : Operand) (dT sT : TypeId)
    (ho : o.op = .call { callee := .builtin .copy, args := #[d, s], argTypes := #[dT, sT] }) (elem : TypeId) (hu : P.underlying dT = some (.slice elem)) (hsz : (P.info? elem).map (·.size) = some 1)
    (dp : Option Addr) (dLen dCap : Nat) (A2 : Option Addr) (sLen sCap : Nat) (hd : a.eval d = .slice dp dLen dCap) (hs : a.eval s = .slice A2 sLen sCap)
    (g off base : Nat) (e : TypeId) (n c : Nat) (xs : List UInt8) (ys : List UInt8) (hpos : 0 < sLen → dp = some ⟨g, off, none⟩) (hn : sLen ≤ dLen) (hfit : off + sLen ≤ n) (hown : Own bv w base e (some ⟨g, 0, none⟩) n c xs) (hr : RdE bv w A2 sLen sCap ys)
    (h : ∀ w', Own bv w' base e (some ⟨g, 0, none⟩) n c (lay xs off ys) → w.grownBy w' (some g) → K (a.put o.dst (goInt sLen)) w') :
    if Region.wanted o (yielded ops a.tmps) = true then Oper.wp P o a w K Q else E := by
  have hw : Region.wanted o (yielded ops a.tmps) = true := by simp [Region.wanted, hgd]
  rw [if_pos hw]
  have hl := Rd.len hr
  by_cases h0 : sLen = 0
  · subst h0
    obtain rfl : ys = [] := List.eq_nil_of_length_eq_zero hl
    have hrun := run_copy_none (P := P) w dT sT o.type elem dp A2 dLen dCap 0 sCap hu hsz (Nat.zero_min _)
    unfold Oper.wp
    simp [execOp, ho, resolve, invoke, builtin, hd, hs, hrun, Result.andThen]
    exact h w (by rw [lay_nil']; exact hown) (World.grownBy.refl w _)
  · obtain rfl := hpos (by omega)
    obtain ⟨b, o2, rfl, _, _⟩ := Rd.at_ hr 0 (by omega)
    obtain ⟨cur, hg, hcs, hown', hgr⟩ := hown.laid off ys (by omega)
    have hcells : ∀ j u, (ys.map bv)[j]? = some u → w.cell? ((⟨b, o2, none⟩ : Addr).add j) = some u := by
      intro j u hu
      rw [List.getElem?_map] at hu
      rcases Nat.lt_or_ge j ys.length with hj | hj
      · obtain ⟨b', off', h, _, hc⟩ := Rd.at_ hr j hj
        injection h with h; injection h with h1 h2; subst h1; subst h2
        rw [List.getElem?_eq_getElem hj] at hu
        simp at hu
        subst hu
        have hadd : (⟨b, o2, Option.none⟩ : Addr).add j = ⟨b, o2 + j, Option.none⟩ := by unfold Addr.add; split <;> simp_all
        rw [hadd]; exact hc
      · rw [List.getElem?_eq_none hj] at hu; cases hu
    have hrun := run_copy_row (P := P) w dT sT o.type elem g off dLen dCap ⟨b, o2, none⟩ sLen sCap cur e (ys.map bv) hu hsz hg (by simp; rw [hl]; exact (Nat.min_eq_left hn).symm) hcells (by simp; omega) (by intro v hv; simp at hv; obtain ⟨x, _, rfl⟩ := hv; rfl)
    have hk := h _ hown' hgr
    rw [show sLen = (ys.map bv).length from by simp [hl]] at hk
    generalize ys.map bv = cs at *
    unfold Oper.wp
    simp [execOp, ho, resolve, invoke, builtin, hd, hs, hrun, Result.andThen]
    exact hk

theorem lay_nil (xs : List UInt8) (k : Nat) : lay xs k [] = xs := by simp [lay]
/-- what stands on a side: the blocks' bytes, noughts behind -/
def sideN (l : List Bm) (size : Nat) : List UInt8 := flatN l ++ List.replicate (size - blkSz l) 0
theorem sideN_len (l : List Bm) (size : Nat) (h : blkSz l ≤ size) : (sideN l size).length = size := by unfold sideN; rw [List.length_append, flatN_len, List.length_replicate]; omega
theorem sideN_step (l : List Bm) (size k : Nat) (hk : k < l.length) (h : blkSz (l.take (k + 1)) ≤ size) :
    sideN (l.take (k + 1)) size = lay ((sideN (l.take k) size).set (blkSz (l.take k)) l[k].kind) (blkSz (l.take k) + 1) l[k].data := by
  have hs := blkSz_snoc l k hk
  have hf := flatN_snoc l k hk
  have hl := flatN_len (l.take k)
  unfold sideN lay
  rw [hf, hs]
  generalize flatN (l.take k) = fl at *
  generalize blkSz (l.take k) = B at *
  obtain ⟨m, hm⟩ : ∃ m, size - B = 1 + l[k].data.length + m := ⟨size - B - (1 + l[k].data.length), by omega⟩
  rw [hm, show size - (B + (1 + l[k].data.length)) = m by omega]
  have e1 : (fl ++ List.replicate (1 + l[k].data.length + m) (0 : UInt8)).set B l[k].kind = (fl ++ [l[k].kind]) ++ List.replicate (l[k].data.length + m) 0 := by
    rw [List.set_append_right _ _ (by omega), hl, Nat.sub_self, show 1 + l[k].data.length + m = (l[k].data.length + m) + 1 by omega, List.replicate_succ, List.append_assoc]
    rfl
  have hl2 : (fl ++ [l[k].kind]).length = B + 1 := by rw [List.length_append, hl]; rfl
  rw [e1, List.take_left' hl2, List.drop_append, List.drop_of_length_le (by omega), hl2, List.nil_append, List.drop_replicate, show l[k].data.length + m - (B + 1 + l[k].data.length - (B + 1)) = m by omega]
  simp only [List.append_assoc]

end Go.Proofs.YtghbgehmaejggaaDoor
