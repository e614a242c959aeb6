/- What matcher.Parse reads; the contract of the library's SplitN there. -/
import Derived.Test.YtjkmnanadeffnaaDoorMatG
import Derived.Test.YtjkmnanadeffnaaDoorMaxC
import Derived.Laws.Rows
import Derived.Laws.Tables
namespace Go.Proofs.YtjkmnanadeffnaaDoor
open Go.RowKit Go.Maps

def splitW (T : Bs) : List ByteArray := Lib.splitB ⟨#[124]⟩ 0 (min 9 (T.length + 1) - 1) ⟨T.toArray⟩
def pHead (s : Bs) : Bs := (Lib.cut s [34]).1
def pTail (s : Bs) : Bs := (Lib.cut s [34]).2.1
def pOpen (s : Bs) : Bool := (Lib.cut s [34]).2.2
def pWords (s : Bs) : Bs := Lib.trimSuffix (pTail s) [34]
def pShut (s : Bs) : Bool := Lib.hasSuffix (pTail s) [34]
def pAt (s : Bs) : Int := Lib.indexAny (pHead s) [61, 33]
def pMat (s : Bs) : Mat := ⟨⟨((pHead s).take (pAt s).toNat).toArray⟩, howC ((pHead s).drop (pAt s).toNat), splitW (pWords s)⟩
def pOk (s : Bs) : Bool := pOpen s && (pShut s && decide (0 ≤ pAt s))
/-- what a text is read as -/
def parseM (s : Bs) : Option Mat := if pOk s = true then (if rightM (pMat s) = true then some (pMat s) else none) else none

def zeroMat : Value := .agg #[.string ⟨#[]⟩, .int .i64 0, .slice none 0 0]
def ParsePost (o : Option Mat) (w : World) (e : Ending) (w' : World) : Prop :=
  (match o with
    | some m => ∃ a c, e = .returned (.tuple #[.agg (matCells a c m), .int .i64 0]) ∧ HasStrs w' a c m.words
    | none => e = .returned (.tuple #[zeroMat, .int .i64 6])) ∧ Below w.heap.size w w'

theorem pHead_len (s : Bs) : (pHead s).length ≤ s.length := by
  unfold pHead Lib.cut
  split
  · simp; omega
  · simp
theorem pTail_len (s : Bs) : (pTail s).length ≤ s.length := by
  unfold pTail Lib.cut
  split
  · simp
  · simp
theorem pWords_len (s : Bs) : (pWords s).length ≤ s.length := by
  have := pTail_len s
  unfold pWords Lib.trimSuffix
  split
  · simp; omega
  · exact this

theorem splitB_size (sep : ByteArray) : ∀ (k : Nat) (s : ByteArray), ∀ p ∈ Lib.splitB sep 0 k s, p.size ≤ s.size
  | 0, s, p, h => by
    simp only [Lib.splitB, List.mem_singleton] at h
    subst h; exact Nat.le_refl _
  | k + 1, s, p, h => by
    unfold Lib.splitB at h
    split at h
    · simp only [List.mem_singleton] at h
      subst h; exact Nat.le_refl _
    · rcases List.mem_cons.1 h with rfl | h
      · rw [ByteArray.size_extract]; omega
      · have := splitB_size sep k _ p h
        rw [ByteArray.size_extract] at this
        omega

theorem split_any (Q : Bs) (W : World) (hm : MaxC W) (hq : Q.length ≤ 1000000) :
    Calls Tryd.prog 40 #[.string ⟨Q.toArray⟩, .string ⟨#[124]⟩, .int .i64 9] W fun e w' => ∃ c, e = .returned (.slice (some ⟨W.heap.size, 0, none⟩) (splitW Q).length c) ∧ HasStrs w' (some ⟨W.heap.size, 0, none⟩) c (splitW Q) ∧ Below W.heap.size W w' ∧ W.heap.size < w'.heap.size := by
  obtain ⟨m, hm⟩ := hm
  have hsz : (⟨Q.toArray⟩ : ByteArray).size = Q.length := by simp [ByteArray.size]
  refine (Tryd.strings_SplitN ⟨Q.toArray⟩ ⟨#[124]⟩ 9 m W (by rw [hsz]; omega) hm (by decide) (by decide) (by decide)).mono ?_
  rintro e w' ⟨rfl, rfl⟩
  rw [hsz]
  have hl := Lib.splitB_length_le ⟨#[124]⟩ 0 (min 9 (Q.length + 1) - 1) ⟨Q.toArray⟩
  refine ⟨_, rfl, ⟨?_, ?_, ?_, .inr ⟨W.heap.size, 0, rfl, by simp, fun i hi => ?_⟩⟩, (Below.refl _ _).alloc (Nat.le_refl _) _, by simp⟩
  · show (Lib.splitB _ _ _ _).length ≤ _; omega
  · unfold maxLen; omega
  · intro p hp
    have := splitB_size _ _ _ p hp
    rw [hsz] at this
    unfold maxLen; omega
  · rw [Nat.zero_add]
    refine (World.cell?_alloc_mark W _ _ (0, 0) i).trans ?_
    unfold splitW at hi ⊢
    unfold Lib.cellsOf
    rw [List.getElem?_toArray, List.getElem?_append_left (by simpa using hi)]
    simp [hi]

theorem HasStrs.other {w w' : World} {b off c : Nat} {ss : List ByteArray} (h : HasStrs w (some ⟨b, off, none⟩) c ss) (hb : w'.heap[b]? = w.heap[b]?) (hs : w.heap.size ≤ w'.heap.size) : HasStrs w' (some ⟨b, off, none⟩) c ss := by
  obtain ⟨h1, h2, h3, h4⟩ := h
  refine ⟨h1, h2, h3, ?_⟩
  rcases h4 with h4 | ⟨b2, o2, e, hlt, hc⟩
  · exact .inl h4
  · cases e
    refine .inr ⟨b, off, rfl, Nat.lt_of_lt_of_le hlt hs, fun i hi => ?_⟩
    rw [← hc i hi]
    unfold World.cell?
    rw [hb]
theorem HasStrs.set3O {w : World} {b off c g : Nat} {ss : List ByteArray} (h : HasStrs w (some ⟨b, off, none⟩) c ss) (hne : b ≠ g) (x y z : Value) : HasStrs (((w.setCell ⟨g, 0, none⟩ x).setCell ⟨g, 1, none⟩ y).setCell ⟨g, 2, none⟩ z) (some ⟨b, off, none⟩) c ss :=
  h.other (((Below.heap_setCell _ _ z b hne).trans (Below.heap_setCell _ _ y b hne)).trans (Below.heap_setCell _ _ x b hne)) (by simp [World.setCell])
theorem MaxC.drew {w : World} (h : MaxC w) : MaxC w.drew := h
theorem results_cell_tmp1 {P : Program} {fn : Func} {p u : Tmp} {ty : TypeId} (h : fn.results = #[.cell p ty, .tmp u]) (tmps : Array Value) (w : World) (g : Nat) (t : TypeId) (cs : Array Value) (fr : Nat × Nat) (d : TypeDesc)
    (hp : tmps.getD p undef = .pointer (some ⟨g, 0, none⟩)) (hg : w.heap[g]? = some (.cells cs t fr))
    (hu : P.underlying ty = some d) (hd : (match d with | .struct _ | .array _ _ => true | _ => false) = true) (hi : (P.info? ty).map (·.size) = some cs.size) :
    (results fn tmps).run P w = .ok (.tuple #[.agg cs, tmps.getD u undef]) w := by
  have hp' : tmps[p]?.getD undef = .pointer (some ⟨g, 0, none⟩) := by simpa using hp
  simp [results, h, hp', asAddr, run_loadVar_row w g t ty cs fr d hg hu hd hi]
end Go.Proofs.YtjkmnanadeffnaaDoor
