/- Laws of the walk that speak of no one program: an append of one element to a slice of the call's own, and the string that such a slice of bytes is turned into. -/
import Derived.WalkKit
import Derived.Lib.Hide
import Derived.Handy
namespace Go.Proofs.YtmhekhilgllciaaGreat
open Go.RowKit

/-- bytes, as cells -/
def bytesV (l : List UInt8) : List Value := l.map fun c => .int .u8 (c.toNat : Int)
theorem bytesV_len (l : List UInt8) : (bytesV l).length = l.length := by simp [bytesV]
theorem bytesV_app (a b : List UInt8) : bytesV (a ++ b) = bytesV a ++ bytesV b := by simp [bytesV]
theorem bytesV_get (l : List UInt8) (j : Nat) (h : j < l.length) : (bytesV l)[j]? = some (.int .u8 (l[j].toNat : Int)) := by simp [bytesV, h]

theorem bytesV_push (l : List UInt8) (k : Nat) (u : Int) (hu : u = k) (h : k < 256) : bytesV l ++ [.int .u8 u] = bytesV (l ++ [UInt8.ofNat k]) := by
  subst hu; rw [bytesV_app]; simp [bytesV]; omega

/-- an append of one element, which has just been laid in a block of its own -/
theorem wpList_push {P : Program} (W : World) {ops : Array Oper} {rest : List Oper} {o : Oper} {a : Act} {Q : Exit → Act → World → Prop} (hgd : o.guard = none) (s x : Operand) (t : TypeId)
    (ho : o.op = .call { callee := .builtin .append, args := #[s, x], argTypes := #[t, t] })
    (base : Nat) (e : TypeId) (i : TypeInfo) (z : Value) (bytes : Nat) (ht : P.underlying t = some (.slice e)) (hi : P.info? e = some i) (hz : i.zero = some z)
    (hsize : i.size = 1) (hby : i.bytes = bytes) (hzs : z.cells.size = 1)
    (v : Value) (n : Nat) (xs : List Value) (hs : a.eval s = v) (hown : W.ownsRow base e 1 v n xs) (u : Value)
    (hx : a.eval x = .slice (some ⟨W.heap.size, 0, none⟩) 1 1) (hu : u.oneCell' = true)
    (h63 : n + 1 ≤ maxLen) (hbytes : (n + 1) * bytes ≤ 140737488355328) (hbase : base ≤ W.heap.size)
    (h : ∀ (g c : Nat) (w' : World), w'.ownsRow base e 1 (.slice (some ⟨g, 0, none⟩) (n + 1) c) (n + 1) (xs ++ [u]) → W.grownBy w' v.ownBlock → wpList P ops Q rest (a.put o.dst (.slice (some ⟨g, 0, none⟩) (n + 1) c)) w') :
    wpList P ops Q (o :: rest) a (W.alloc (.cells #[u] e)) := by
  refine wpList_append_own (W.alloc (.cells #[u] e)) hgd s x t ho base e i z 1 bytes ht hi hz hsize hby hzs (by omega) v n xs hs (hown.alloc _) ⟨W.heap.size, 0, none⟩ 1 1 [u] hx rfl ?_ ?_ h63 hbytes (by simp; omega) ?_
  · intro j y hy
    match j, hy with
    | 0, hy => simp at hy; subst hy; exact World.cell?_alloc_mark W #[u] e (0, 0) 0
  · intro y hy; simp at hy; subst hy; exact hu
  · intro v' w' hown' hg _
    rcases hown'.2 with ⟨_, h0⟩ | ⟨g, c, cur, rfl, r⟩
    · omega
    · refine h g c w' hown' ⟨hg.os, hg.tape, hg.output, ?_, ?_⟩
      · have := hg.size; simp at this; omega
      · intro k hk hne
        rw [hg.block k (by simp; omega) hne]
        exact Below.heap_alloc W _ k hk

/-- what a slice of bytes of the call's own is as a string -/
theorem run_str_own {P : Program} {w : World} {base src dst e g cap : Nat} {l : List UInt8} (hs : P.underlying src = some (.slice e)) (he : P.underlying e = some (.int .u8)) (hd : P.underlying dst = some .string)
    (hown : w.ownsRow base e 1 (.slice (some ⟨g, 0, none⟩) l.length cap) l.length (bytesV l)) :
    (convert src dst (.slice (some ⟨g, 0, none⟩) l.length cap)).run P w = .ok (.string ⟨l.toArray⟩) w := by
  refine run_convert_bytes_back w src dst e ⟨g, 0, none⟩ cap l hs he hd ?_
  intro j hj
  have := hown.cellAt j (by omega)
  rw [bytesV_get l j hj] at this
  have e0 : (⟨g, 0, none⟩ : Addr).add j = ⟨g, j, none⟩ := by unfold Addr.add; split <;> simp_all
  rw [e0]; exact this

/-- two stores into one cell: the second stays -/
theorem setCell2 (w : World) (a : Addr) (v v' : Value) : (w.setCell a v).setCell a v' = w.setCell a v' := by
  unfold World.setCell
  congr 1
  apply Array.ext_getElem?
  intro i
  simp only [Array.getElem?_modify]
  split
  · cases w.heap[i]? with
    | none => rfl
    | some o =>
      cases o <;> simp
      split <;> simp
  · rfl

/-- the cells of a text that has just been turned into bytes -/
theorem cell_bytesRow (w : World) (s : ByteArray) (a c t : Nat) (fr : Nat × Nat) {b : Nat} (hb : b = s.size) (j : Nat) (hj : j < s.size - a) :
    (w.alloc (.cells (bytesRow (s.extract a b) c) t fr)).cell? ⟨w.heap.size, j, none⟩ = some (.int .u8 ((s[a + j]'(by omega)).toNat : Int)) := by
  subst hb
  have hs : j < (s.extract a s.size).data.size := by simp [ByteArray.size_data]; omega
  rw [World.cell?_alloc_mark, bytesRow_at _ _ j hs]
  simp [ByteArray.data_extract, Array.getElem_extract]
  rfl

end Go.Proofs.YtmhekhilgllciaaGreat
