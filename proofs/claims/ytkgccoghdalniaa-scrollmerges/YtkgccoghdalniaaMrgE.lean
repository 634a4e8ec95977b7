/- What the law on Merge makes of its writes. Plain lemmas, no law is claimed here. -/
import Derived.Test.YtkgccoghdalniaaMrgD
import Derived.Test.YtkgccoghdalniaaRdE
namespace Go.Proofs.Ytkgccoghdalniaa
open Go.RowKit

def SR (base : Nat) (w : World) (A : Option Addr) (b : Nat) : Prop := base ≤ b ∧ b < w.heap.size ∧ Off A b
/-- a row of writes of the call's own -/
def Row (w : World) (base : Nat) (A : Option Addr) (n c : Nat) (rs : List RawW) (ws : List Wm) : Prop := OwnX (shW .u8 .u32) w base 44 (SR base w A) A n c rs ws
section
variable {w w' : World} {base : Nat} {A : Option Addr} {n c : Nat} {rs : List RawW} {ws : List Wm}
theorem Row.below (h : Row w base A n c rs ws) (hb : Below w.heap.size w w') : Row w' base A n c rs ws :=
  OwnX.keep h (fun k hk' => hb.block k (OwnX.lt h k hk').2) (Kp.below hb (fun _ h => h.2.1)) (fun _ h => ⟨h.1, Nat.lt_of_lt_of_le h.2.1 hb.size, h.2.2⟩)
theorem Row.drew (h : Row w base A n c rs ws) : Row w.drew base A n c rs ws := h.below ((Below.refl _ _).drew)
theorem Row.set {g : Nat} (h : Row w base (some ⟨g, 0, none⟩) n c rs ws) (j i p : Nat) (r r' : RawW) (x : Wm) (u : Value) (hj : j < n) (hi : i < 3) (hp : p = j * 3 + i) (hr : rs[j]? = some r)
    (hraw : (shW .u8 .u32).raw r' = ((shW .u8 .u32).raw r).set i u) (hok : (shW .u8 .u32).Ok w (SR base w (some ⟨g, 0, none⟩)) r' x) :
    Row (w.setCell ⟨g, p, none⟩ u) base (some ⟨g, 0, none⟩) n c (rs.set j r') (ws.set j x) := by
  have hrj : rs[j]'(by rw [OwnX.lenr h]; exact hj) = r := by rw [List.getElem?_eq_getElem (by rw [OwnX.lenr h]; exact hj)] at hr; injection hr
  have f := OwnX.field h j i r' x u p hj hi hp (by rw [hrj]; exact hraw) hok (fun b hb => off_some.1 hb.2.2)
  have hsz : (w.setCell ⟨g, p, none⟩ u).heap.size = w.heap.size := by simp
  exact f.1.sub (fun b h => ⟨h.1, by rw [hsz]; exact h.2.1, h.2.2⟩)
theorem Row.get {g : Nat} (h : Row w base (some ⟨g, 0, none⟩) n c rs ws) (j : Nat) (hj : j < n) : ∃ A3 n3 c3 x, ws[j]? = some x ∧ rs[j]? = some ⟨x.side, x.pl, A3, n3, c3⟩ ∧ w.cell? ⟨g, j * 3, none⟩ = some (.int .u8 (x.side.toNat : Int)) ∧
    w.cell? ⟨g, j * 3 + 1, none⟩ = some (.int .u32 x.pl) ∧ w.cell? ⟨g, j * 3 + 2, none⟩ = some (.slice A3 n3 c3) ∧ Rdp bv w (SR base w (some ⟨g, 0, none⟩)) A3 n3 c3 x.data := by
  have hjr : j < rs.length := by rw [OwnX.lenr h]; exact hj
  have hjx : j < ws.length := by rw [OwnX.len h]; exact hj
  obtain ⟨g', e, _, _, hc⟩ := OwnX.cell h j hj
  injection e with e; injection e with e; subst e
  obtain ⟨h1, h2, h3⟩ := OwnX.ok h j _ _ (List.getElem?_eq_getElem hjr) (List.getElem?_eq_getElem hjx)
  have c0 := hc 0 _ rfl
  have c1 := hc 1 _ rfl
  have c2 := hc 2 _ rfl
  rw [show 0 + j * (shW .u8 .u32).k + 0 = j * 3 from by show 0 + j * 3 + 0 = j * 3; omega] at c0
  rw [show 0 + j * (shW .u8 .u32).k + 1 = j * 3 + 1 from by show 0 + j * 3 + 1 = j * 3 + 1; omega] at c1
  rw [show 0 + j * (shW .u8 .u32).k + 2 = j * 3 + 2 from by show 0 + j * 3 + 2 = j * 3 + 2; omega] at c2
  exact ⟨rs[j].A, rs[j].n, rs[j].c, ws[j], List.getElem?_eq_getElem hjx, by rw [List.getElem?_eq_getElem hjr, ← h1, ← h2], by rw [← h1]; exact c0, by rw [← h2]; exact c1, c2, h3⟩
theorem Row.frozen {g : Nat} (h : Row w base (some ⟨g, 0, none⟩) n c rs ws) (i : Nat) : w.frozen? ⟨g, i, none⟩ = false := (OwnX.own h).frozenAt i
theorem Row.addr (h : Row w base A n c rs ws) (hn : 0 < n) : ∃ g, A = some ⟨g, 0, none⟩ ∧ base ≤ g ∧ g < w.heap.size := by
  obtain ⟨g, e, h1, h2, _⟩ := OwnX.cell h 0 hn
  exact ⟨g, e, h1, h2⟩
theorem Two.row {base' : Nat} {A2 : Option Addr} {n2 c2 : Nat} {rs2 : List RawW} (h : Two w base' A n c rs A2 n2 c2 rs2 ws) : Row w base' A n c rs ws := h.one.sub (fun _ h => ⟨h.1, h.2.1, h.2.2.1⟩)
end

/-- what few with fit makes of a write -/
def okF (x : Wm) : Prop := 0 ≤ x.pl ∧ x.pl < 4294967296 ∧ 1 ≤ x.data.length ∧ x.data.length ≤ 60
theorem few_okF {ws : List Wm} (h : ∀ y ∈ ws, plB y) {x : Wm} (hx : x ∈ fewN true ws) : okF x := by
  unfold fewN at hx
  rw [List.mem_mapIdx] at hx
  obtain ⟨i, hi, rfl⟩ := hx
  have := h _ (List.mem_of_mem_take (List.getElem_mem hi))
  unfold fixW okF
  rw [if_pos rfl]
  generalize (ws.take 8)[i] = y at *
  refine ⟨by simp only; have := this.1; omega, by simp only; have := this.1; omega, ?_, ?_⟩
  · simp only; split
    · simp
    · rename_i h0; omega
  · simp only; split
    · simp
    · simp; omega
/-- .. and the law, of the first k -/
def okK (k : Nat) (ws : List Wm) : Prop := ∀ (j : Nat) (x : Wm), ws[j]? = some x → okF x ∧ (j < k → x.side.toNat < 2 ∧ x.pl ≤ 199 + 60 * j)
theorem okK_zero {ws : List Wm} (h : ∀ x ∈ ws, okF x) : okK 0 ws := fun j x hx => ⟨h x (List.mem_of_getElem? hx), fun h => by omega⟩
theorem okK_set {k : Nat} {ws : List Wm} (h : okK k ws) (x : Wm) (hx : okF x) (h2 : x.side.toNat < 2 ∧ x.pl ≤ 199 + 60 * k) : okK (k + 1) (ws.set k x) := by
  intro j y hy
  rw [List.getElem?_set] at hy
  split at hy
  · rename_i e
    subst e
    split at hy
    · injection hy with hy; subst hy; exact ⟨hx, fun _ => h2⟩
    · cases hy
  · rename_i e
    exact ⟨(h j y hy).1, fun hj => (h j y hy).2 (by omega)⟩
def zz : List (List UInt8) := [List.replicate 1000 0, List.replicate 1000 0]
theorem okK_all {ws : List Wm} (h : okK ws.length ws) (h8 : ws.length ≤ 8) : ∀ y ∈ ws, okA zz y = true ∧ 0 ≤ y.pl ∧ y.data.length ≤ 60 := by
  intro y hy
  obtain ⟨j, hj, rfl⟩ := List.getElem_of_mem hy
  obtain ⟨⟨h1, h2, h3, h4⟩, h5⟩ := h j _ (List.getElem?_eq_getElem hj)
  obtain ⟨h6, h7⟩ := h5 hj
  generalize ws[j] = y at *
  refine ⟨?_, h1, h4⟩
  unfold okA fitB
  simp only [Bool.and_eq_true, decide_eq_true_eq]
  have hz : (zz.getD y.side.toNat []).length = 1000 := by
    rcases (show y.side.toNat = 0 ∨ y.side.toNat = 1 from by omega) with e | e <;> rw [e] <;> (show (List.replicate 1000 (0 : UInt8)).length = 1000; exact List.length_replicate)
  refine ⟨rightB_true.2 ⟨by omega, by omega, h3, by omega, by omega⟩, h6, ?_⟩
  rw [hz]; omega

def zerosB (n : Nat) : Array Value := ((List.replicate n (0 : UInt8)).map bv).toArray
theorem Try.mkB (k : IntKind) (n : Nat) (hn : n ≤ 1099511627776) (w : World) : (Instr.makeSlice 23 (.int k (n : Int)) (.int k (n : Int))).run Try.prog w = .ok (.slice (some ⟨w.heap.size, 0, none⟩) n n) (w.alloc (.cells (zerosB n) 5)) := by
  unfold zerosB
  obtain ⟨i0, hi, hz0, hz1, hz2⟩ := info_parts Try.infoU8
  have := run_make (P := Try.prog) w 23 5 i0 _ Try.underlying23 hi hz0 k k n n (by omega) (by omega) (by rw [hz2]; omega) (by omega)
  rw [this, hz1, Int.toNat_natCast, Nat.mul_one]
  congr 3
  have h := toList_madeCells_one (.int .u8 0) n
  rw [List.map_replicate]
  show madeCells #[.int .u8 0] n = (List.replicate n (Value.int .u8 0)).toArray
  rw [← h]
theorem RdE.zerosB {w : World} {e : TypeId} {g m : Nat} (hg : g = w.heap.size) : RdE bv (w.alloc (.cells (zerosB m) e)) (some ⟨g, 0, none⟩) m m (List.replicate m 0) := RdE.made rfl hg (by simp)
theorem RdE.svPair {w : World} {e : TypeId} {fr : Nat × Nat} {A A2 : Option Addr} {n c n2 c2 g : Nat} (hg : g = w.heap.size) : RdE sv (w.alloc (.cells #[.slice A n c, .slice A2 n2 c2] e fr)) (some ⟨g, 0, none⟩) 2 2 [(A, n, c), (A2, n2, c2)] := RdE.made (f := sv) rfl hg rfl

theorem rds_two {w : World} {A1 A2 : Option Addr} {n1 c1 n2 c2 : Nat} {x1 x2 : List UInt8} (h1 : RdE bv w A1 n1 c1 x1) (h2 : RdE bv w A2 n2 c2 x2) : Rds w w.heap.size [(A1, n1, c1), (A2, n2, c2)] [x1, x2] :=
  ⟨rfl, fun j s ys hs hy => by
    match j, hs, hy with
    | 0, hs, hy => simp at hs hy; subst hs; subst hy; exact h1
    | 1, hs, hy => simp at hs hy; subst hs; subst hy; exact h2⟩
theorem zz_mem {xs : List UInt8} (h : xs ∈ zz) : xs = List.replicate 1000 0 := by
  unfold zz at h
  rcases List.mem_cons.1 h with h | h
  · exact h
  · rcases List.mem_cons.1 h with h | h
    · exact h
    · cases h
theorem zz_lens {xss : List (List UInt8)} (h : xss.map List.length = zz.map List.length) : ∀ xs ∈ xss, xs.length = 1000 := by
  intro xs hx
  have h1 : xs.length ∈ zz.map List.length := by rw [← h]; exact List.mem_map_of_mem hx
  rw [List.mem_map] at h1
  obtain ⟨y, hy, e⟩ := h1
  rw [← e, zz_mem hy, List.length_replicate]

theorem Grid.two {w : World} {base : Nat} {A : Option Addr} {c : Nat} {ss : List (Option Addr × Nat × Nat)} {xss : List (List UInt8)} (h : Grid w base A 2 c ss xss) :
    ∃ g A0 n0 c0 A1 n1 c1 x0 x1, A = some ⟨g, 0, none⟩ ∧ w.cell? ⟨g, 0, none⟩ = some (.slice A0 n0 c0) ∧ w.cell? ⟨g, 1, none⟩ = some (.slice A1 n1 c1) ∧ xss = [x0, x1] ∧ Rd bv w w.heap.size A0 n0 c0 x0 ∧ Rd bv w w.heap.size A1 n1 c1 x1 := by
  obtain ⟨g, rfl⟩ := h.row.zero (by omega)
  have hl := h.slen
  have hx := h.len
  match ss, hl, xss, hx with
  | [s0, s1], _, [x0, x1], _ =>
    have r0 := h.each 0 s0 x0 rfl rfl
    have r1 := h.each 1 s1 x1 rfl rfl
    obtain ⟨b, off, e, _, k0⟩ := h.row.rd.at_ 0 (by simp)
    injection e with e; injection e with e1 e2; subst e1; subst e2
    obtain ⟨b, off, e, _, k1⟩ := h.row.rd.at_ 1 (by simp)
    injection e with e; injection e with e1 e2; subst e1; subst e2
    exact ⟨g, s0.1, s0.2.1, s0.2.2, s1.1, s1.2.1, s1.2.2, x0, x1, rfl, k0, k1, rfl, r0.rd, r1.rd⟩

end Go.Proofs.Ytkgccoghdalniaa
