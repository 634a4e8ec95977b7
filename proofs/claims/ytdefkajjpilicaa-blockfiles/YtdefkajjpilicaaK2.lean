/- Words for a row of bytes into which is copied (out of MemG), and for a copy of a string. No law is claimed here. -/
import Derived.Test.YtdefkajjpilicaaK1
import Derived.Laws.CopyOwn
import Derived.Lib.BufferWrite
namespace Go.Proofs.Ytdefkajjpilicaa
open Go.RowKit

theorem Own.kept {α : Type} {f : α → Value} {w w' : World} {base : Nat} {e : TypeId} {A : Option Addr} {n c : Nat} {xs : List α} (h : Own f w base e A n c xs) {row : Option Nat} (hg : w.grownBy w' row)
    (hne : ∀ k, A.map (·.block) = some k → some k ≠ row) : Own f w' base e A n c xs := by
  refine ⟨h.own.kept hg ?_, h.len⟩
  rw [ownBlock_slice]
  cases hA : A.map (·.block) with
  | none => exact .inl rfl
  | some k => exact .inr (hne k hA)
theorem Own.ltA {α : Type} {f : α → Value} {w : World} {base : Nat} {e : TypeId} {A : Option Addr} {n c : Nat} {xs : List α} (h : Own f w base e A n c xs) : ∀ k, A.map (·.block) = some k → base ≤ k ∧ k < w.heap.size := by
  have := h.lt; rw [ownBlock_slice] at this; exact this
/-- bytes laid over a row of bytes from a place on -/
def lay (xs : List UInt8) (at_ : Nat) (ys : List UInt8) : List UInt8 := xs.take at_ ++ (ys ++ xs.drop (at_ + ys.length))
theorem lay_len (xs : List UInt8) (at_ : Nat) (ys : List UInt8) (h : at_ + ys.length ≤ xs.length) : (lay xs at_ ys).length = xs.length := by simp [lay]; omega
theorem lay_splice (xs : List UInt8) (at_ : Nat) (ys : List UInt8) : (lay xs at_ ys).map bv = splice (xs.map bv) at_ (ys.map bv) := by simp [lay, splice]
theorem Own.laid {w : World} {base g n c : Nat} {e : TypeId} {xs : List UInt8} (h : Own bv w base e (some ⟨g, 0, none⟩) n c xs) (at_ : Nat) (ys : List UInt8) (hf : at_ + ys.length ≤ n) :
    ∃ cur, w.heap[g]? = some (.cells cur e (0, 0)) ∧ n ≤ cur.size ∧ Own bv (w.setRow g (cur.toList.take at_ ++ (ys.map bv ++ cur.toList.drop (at_ + (ys.map bv).length))).toArray) base e (some ⟨g, 0, none⟩) n c (lay xs at_ ys) ∧
      w.grownBy (w.setRow g (cur.toList.take at_ ++ (ys.map bv ++ cur.toList.drop (at_ + (ys.map bv).length))).toArray) (some g) := by
  have hl := h.len
  rcases h.own.2 with ⟨hv, _⟩ | ⟨g', cap, cur, hv, hb, hg, hnc, hcm, hs, ht⟩
  · injection hv with h1; cases h1
  · injection hv with h1 h2 h3
    injection h1 with h1; injection h1 with h1
    subst h1; subst h3
    rw [Nat.mul_one] at hs ht
    refine ⟨cur, hg, by omega, ⟨⟨by simp [lay_len xs at_ ys (by omega), hl], .inr ⟨g, c, _, rfl, hb, setRow_heap w g cur _ e (0, 0) hg, hnc, hcm, ?_, ?_⟩⟩, by rw [lay_len xs at_ ys (by omega)]; exact hl⟩, ?_⟩
    · simp; omega
    · obtain ⟨R, hR⟩ : ∃ R, cur.toList = xs.map bv ++ R := ⟨cur.toList.drop n, by rw [← ht, List.take_append_drop]⟩
      rw [lay_splice, Nat.mul_one, hR, List.take_append_of_le_length (l₁ := xs.map bv) (l₂ := R) (i := at_) (by simp; omega), List.drop_append_of_le_length (by simp; omega), ← List.append_assoc, ← List.append_assoc]
      rw [List.take_left' (by simp; omega)]
      unfold splice
      rw [List.append_assoc]
    · exact ⟨rfl, rfl, rfl, by simp [World.setRow], fun k _ hk => setRow_other w g k _ (fun e => hk (by rw [e]))⟩

/-- copy of bytes into a row of the call's own -/
theorem wpList_copy_lay {P : Program} {w : World} {ops : Array Oper} {rest : List Oper} {o : Oper} {a : Act} {Q : Exit → Act → World → Prop} (hgd : o.guard = none) (d s : Operand) (dT sT : TypeId)
    (ho : o.op = .call { callee := .builtin .copy, args := #[d, s], argTypes := #[dT, sT] }) (elem : TypeId) (hu : P.underlying dT = some (.slice elem)) (hsz : (P.info? elem).map (·.size) = some 1)
    (g off dLen dCap : Nat) (A2 : Option Addr) (sLen sCap : Nat) (hd : a.eval d = .slice (some ⟨g, off, none⟩) dLen dCap) (hs : a.eval s = .slice A2 sLen sCap)
    (base : Nat) (e : TypeId) (n c : Nat) (xs : List UInt8) (hown : Own bv w base e (some ⟨g, 0, none⟩) n c xs) (B : Nat) (ys : List UInt8) (hr : Rd bv w B A2 sLen sCap ys) (h1 : 1 ≤ sLen) (hn : sLen ≤ dLen) (hfit : off + sLen ≤ n)
    (h : ∀ w', Own bv w' base e (some ⟨g, 0, none⟩) n c (lay xs off ys) → w.grownBy w' (some g) → wpList P ops Q rest (a.put o.dst (goInt sLen)) w') : wpList P ops Q (o :: rest) a w := by
  have hl := hr.len
  obtain ⟨b, o2, rfl, _, _⟩ := hr.at_ 0 (by omega)
  obtain ⟨cur, hg, hcs, hown', hgr⟩ := hown.laid off ys (by omega)
  have hcells : ∀ j u, (ys.map bv)[j]? = some u → w.cell? ((⟨b, o2, none⟩ : Addr).add j) = some u := by
    intro j u hu
    rw [List.getElem?_map] at hu
    rcases Nat.lt_or_ge j ys.length with hj | hj
    · obtain ⟨b', off', h, _, hc⟩ := hr.at_ j hj
      injection h with h; injection h with h1 h2; subst h1; subst h2
      rw [List.getElem?_eq_getElem hj] at hu
      simp at hu
      subst hu
      have hadd : (⟨b, o2, Option.none⟩ : Addr).add j = ⟨b, o2 + j, Option.none⟩ := by unfold Addr.add; split <;> simp_all
      rw [hadd]; exact hc
    · rw [List.getElem?_eq_none hj] at hu; cases hu
  refine wpList_copy_own hgd d s dT sT ho elem hu hsz g off dLen dCap ⟨b, o2, none⟩ sLen sCap hd hs cur e hg (ys.map bv) (by simp; rw [hl]; exact (Nat.min_eq_left hn).symm) hcells (by simp; omega) (by intro v hv; simp at hv; obtain ⟨x, _, rfl⟩ := hv; rfl) ?_
  have := h _ hown' hgr
  rw [show (ys.map bv).length = sLen from by simp [hl]] at this ⊢
  exact this


/-- a block that was just made, whole -/
theorem Own.fresh {α : Type} {f : α → Value} (w : World) (e : TypeId) (xs : List α) (cs : Array Value) (n g : Nat) (hcs : cs = (xs.map f).toArray) (hn : xs.length = n) (hm : n ≤ maxLen) (hg : g = w.heap.size) :
    Own f (w.alloc (.cells cs e)) w.heap.size e (some ⟨g, 0, none⟩) n n xs := by
  subst hcs; subst hg
  refine ⟨⟨by simp [hn], .inr ⟨w.heap.size, n, _, rfl, Nat.le_refl _, heap_alloc_new w _, Nat.le_refl _, hm, by simp [hn], ?_⟩⟩, hn⟩
  rw [List.take_of_length_le (by simp [hn])]

/-- the bytes of a string of which at most k are taken -/
def strN (s : ByteArray) : List UInt8 := s.data.toList
theorem strN_len (s : ByteArray) : (strN s).length = s.size := by unfold strN; rw [Array.length_toList]; exact rfl

theorem run_copy_str {P : Program} (w : World) (dT sT ty elem : TypeId) (g off dLen dCap : Nat) (str : ByteArray) (cur : Array Value) (e : TypeId) (ys : List UInt8)
    (hu : P.underlying dT = some (.slice elem)) (hsz : (P.info? elem).map (·.size) = some 1) (hg : w.heap[g]? = some (.cells cur e (0, 0))) (hmin : Nat.min str.size dLen = ys.length)
    (htk : List.take ys.length (List.map (fun b : UInt8 => Value.int IntKind.u8 (b.toNat : Int)) str.data.toList) = ys.map bv) (hfit : off + ys.length ≤ cur.size) :
    (Builtin.copy_ #[dT, sT] ty #[.slice (some ⟨g, off, none⟩) dLen dCap, .string str]).run P w = .ok (goInt ys.length) (w.setRow g (cur.toList.take off ++ (ys.map bv ++ cur.toList.drop (off + (ys.map bv).length))).toArray) := by
  have hst := run_storeCells_at P g off e (ys.map bv) 0 cur w hg (by simp; omega) (fun v hv => by obtain ⟨x, _, rfl⟩ := List.mem_map.1 hv; rfl)
  simp only [Nat.add_zero] at hst
  cases hq : P.info? elem with
  | none => simp [hq] at hsz
  | some i =>
    simp [Builtin.copy_, run_underlying hu, Builtin.lenOf, Builtin.firstCells, sizeOf, typeInfo, hq, hmin]
    rw [htk, hst]
    simp [Result.andThen]

/-- copy of a string into a row of the call's own, as a run: as much as there is room for -/
theorem run_copy_lay {P : Program} (w : World) (dT sT ty elem : TypeId) (g off dLen dCap : Nat) (str : ByteArray) (base : Nat) (e : TypeId) (n c : Nat) (xs : List UInt8)
    (hu : P.underlying dT = some (.slice elem)) (hsz : (P.info? elem).map (·.size) = some 1) (hown : Own bv w base e (some ⟨g, 0, none⟩) n c xs) (hfit : off + dLen ≤ n) :
    ∃ w', (Builtin.copy_ #[dT, sT] ty #[.slice (some ⟨g, off, none⟩) dLen dCap, .string str]).run P w = .ok (goInt ((strN str).take dLen).length) w' ∧
      Own bv w' base e (some ⟨g, 0, none⟩) n c (lay xs off ((strN str).take dLen)) ∧ w.grownBy w' (some g) := by
  have hlt : ((strN str).take dLen).length ≤ dLen := by simp; omega
  obtain ⟨cur, hg, hcs, hown', hgr⟩ := hown.laid off ((strN str).take dLen) (by omega)
  have hmin : Nat.min str.size dLen = ((strN str).take dLen).length := by rw [List.length_take, strN_len]; exact Nat.min_comm _ _
  have htk : List.take ((strN str).take dLen).length (List.map (fun b : UInt8 => Value.int IntKind.u8 (b.toNat : Int)) str.data.toList) = ((strN str).take dLen).map bv := by
    rw [List.map_take, List.length_take, strN_len]
    show _ = List.take dLen (List.map (fun b : UInt8 => Value.int IntKind.u8 (b.toNat : Int)) (strN str))
    have : (List.map (fun b : UInt8 => Value.int IntKind.u8 (b.toNat : Int)) (strN str)).length = str.size := by rw [List.length_map, strN_len]
    rw [← this]
    exact List.take_eq_take_min.symm
  exact ⟨_, run_copy_str (P := P) w dT sT ty elem g off dLen dCap str cur e ((strN str).take dLen) hu hsz hg hmin htk (by omega), hown', hgr⟩

end Go.Proofs.Ytdefkajjpilicaa
