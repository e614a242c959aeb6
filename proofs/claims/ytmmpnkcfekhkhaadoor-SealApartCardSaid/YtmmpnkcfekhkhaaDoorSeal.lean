/- Plain mathematics for layer 2: sections, frames, what is sealed. It speaks of no program. -/
import Derived.Test.YtmmpnkcfekhkhaaDoorSha
import Derived.Test.YtmmpnkcfekhkhaaDoorBind3
import Derived.Test.YtmmpnkcfekhkhaaDoorMath3
namespace Go.Proofs.YtmmpnkcfekhkhaaDoor
open Go.WideShapes (bytes_inj)

def le4 (x : Nat) : List UInt8 := [UInt8.ofNat x, UInt8.ofNat (x / 256), UInt8.ofNat (x / 65536), UInt8.ofNat (x / 16777216)]
/-- a section's check, in bytes -/
def checkS (s : ByteArray) : ByteArray := ⟨(le4 (crcN s.data.toList)).toArray⟩
theorem checkS_size (s : ByteArray) : (checkS s).size = 4 := rfl
/-- a section's frame -/
def frameS (s : ByteArray) : ByteArray := ⟨(bindL [s, checkS s]).toArray⟩
theorem frameS_list (s : ByteArray) : (frameS s).data.toList = bindL [s, checkS s] := rfl
theorem numB_len2 {n : Nat} (h : n ≤ 4100) : (numB n).length ≤ 2 := numB_len 1 n (by omega)
theorem frameS_size {s : ByteArray} (h : s.size ≤ 4096) : (frameS s).size ≤ 4103 := by
  rw [size_list, frameS_list]
  have h1 := numB_len2 (n := s.size) (by omega)
  have h2 : (numB 4).length = 1 := by rw [numB_lt (by omega)]; rfl
  have e : bindL [s, checkS s] = numB s.size ++ s.data.toList ++ (numB (checkS s).size ++ (checkS s).data.toList ++ []) := rfl
  rw [e, checkS_size]
  simp only [List.length_append, List.length_nil, ← size_list, checkS_size, h2]
  omega
def mayC (ss : List ByteArray) : Bool := decide (ss.length ≤ 64) && ss.all fun s => decide (s.size ≤ 4096)
theorem mayC_true {ss : List ByteArray} (h : mayC ss = true) : ss.length ≤ 64 ∧ ∀ s ∈ ss, s.size ≤ 4096 := by
  simpa [mayC] using h
theorem mayC_mk {ss : List ByteArray} (h1 : ss.length ≤ 64) (h2 : ∀ s ∈ ss, s.size ≤ 4096) : mayC ss = true := by
  simpa [mayC] using ⟨h1, h2⟩
theorem mayB_mk {ss : List ByteArray} (h1 : ss.length ≤ 512) (h2 : ∀ s ∈ ss, s.size ≤ 8192) : mayB ss = true := by
  simpa [mayB] using ⟨h1, h2⟩
theorem mayB_pair {s : ByteArray} (h : s.size ≤ 8192) : mayB [s, checkS s] = true := by
  refine mayB_mk (by simp) fun x hx => ?_
  simp only [List.mem_cons, List.not_mem_nil, or_false] at hx
  rcases hx with rfl | rfl
  · exact h
  · rw [checkS_size]; omega
theorem mayB_frames {ss : List ByteArray} (h : mayC ss = true) : mayB (ss.map frameS) = true := by
  obtain ⟨h1, h2⟩ := mayC_true h
  refine mayB_mk (by simp; omega) fun x hx => ?_
  obtain ⟨s, hs, rfl⟩ := List.mem_map.1 hx
  have := frameS_size (h2 s hs)
  omega
def sealB : List UInt8 := [115, 101, 97, 108]
def bodyL (ss : List ByteArray) : List UInt8 := sealB ++ bindL (ss.map frameS)
def closeL (ss : List ByteArray) : List UInt8 := bodyL ss ++ shaL (bodyL ss)
def closeS (ss : List ByteArray) : ByteArray := if mayC ss = true then ⟨(closeL ss).toArray⟩ else ⟨#[]⟩
def closeE (ss : List ByteArray) : Int := if mayC ss = true then 0 else 2
theorem bindL_le (ss : List ByteArray) (m : Nat) (hm : m ≤ 8200) (hs : ∀ s ∈ ss, s.size ≤ m) : (bindL ss).length ≤ ss.length * (m + 9) := by
  induction ss with
  | nil => simp [bindL]
  | cons s ss ih =>
    have h1 := ih fun x hx => hs x (by simp [hx])
    have h2 := hs s (by simp)
    have h3 := numB_len9 (n := s.size) (by omega)
    have e : bindL (s :: ss) = numB s.size ++ s.data.toList ++ bindL ss := rfl
    have h4 : s.data.toList.length = s.size := by simp
    rw [e, List.length_append, List.length_append, List.length_cons, h4, Nat.add_mul]
    omega
theorem bodyL_len {ss : List ByteArray} (h : mayC ss = true) : (bodyL ss).length ≤ 300000 := by
  obtain ⟨h1, h2⟩ := mayC_true h
  have hb := bindL_le (ss.map frameS) 4103 (by omega) (fun x hx => by
    obtain ⟨s, hs, rfl⟩ := List.mem_map.1 hx
    exact frameS_size (h2 s hs))
  rw [List.length_map] at hb
  have : ss.length * (4103 + 9) ≤ 64 * (4103 + 9) := Nat.mul_le_mul_right _ h1
  rw [bodyL, List.length_append]
  show 4 + _ ≤ _
  omega
theorem closeS_true {ss : List ByteArray} (h : mayC ss = true) : closeS ss = ⟨(closeL ss).toArray⟩ := if_pos h
theorem closeL_len (ss : List ByteArray) : (closeL ss).length = (bodyL ss).length + 32 := by rw [closeL, List.length_append, shaL_len]
theorem closeS_size (ss : List ByteArray) : (closeS ss).size ≤ 300032 := by
  unfold closeS
  split
  · rename_i h
    have := bodyL_len h
    rw [size_list]
    show (closeL ss).length ≤ _
    rw [closeL_len]; omega
  · exact Nat.zero_le _

/-- what a frame holds: the section, the error -/
def unfP (ps : List ByteArray) (f : ByteArray) : ByteArray × Nat :=
  match ps with
  | [x, y] => if y.size = 4 then if x.size ≤ 4096 then if y = checkS x then if f.data.toList = bindL [x, y] then (x, 0) else (⟨#[]⟩, 6) else (⟨#[]⟩, 4) else (⟨#[]⟩, 2) else (⟨#[]⟩, 6)
  | _ => (⟨#[]⟩, 6)
def unf (f : ByteArray) : ByteArray × Nat := unfP (loose f).1 f
/-- what the frames hold -/
def unfAll : List ByteArray → List ByteArray → List ByteArray × Nat
  | [], acc => (acc, 0)
  | f :: fs, acc => if (unf f).2 = 0 then unfAll fs (acc ++ [(unf f).1]) else ([], (unf f).2)
def openP (fs : List ByteArray × Nat) : List ByteArray × Nat := if fs.2 = 0 then if fs.1.length ≤ 64 then unfAll fs.1 [] else ([], 2) else ([], fs.2)
def openF (s : ByteArray) : List ByteArray × Nat :=
  if s.size < 36 then ([], 3) else if s.data.toList.take 4 = sealB then
    if shaL (s.data.toList.take (s.size - 32)) = s.data.toList.drop (s.size - 32) then openP (loose ((s.extract 0 (s.size - 32)).extract 4 (s.size - 32))) else ([], 5)
  else ([], 6)
end Go.Proofs.YtmmpnkcfekhkhaaDoor
