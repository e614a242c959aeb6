/- What frame.Bind answers to whatever row of texts. -/
import Derived.Test.YtmmpnkcfekhkhaaDoorBind2
namespace Go.Proofs.YtmmpnkcfekhkhaaDoor
open Go.RowKit

/-- a row of texts, as what an append is handed -/
theorem src_strs {P : Program} {t e : Nat} {w : World} {a : Option Addr} {c : Nat} {ss : List ByteArray} (hk : P.underlying t = some (.slice e)) (h : HasStrs w a c ss) : Src P 1 t (.slice a ss.length c) ss.length (strsV ss) w := by
  obtain ⟨h1, h2, h3, h4⟩ := h
  rcases h4 with rfl | ⟨b, off, rfl, hb, hc⟩
  · cases a with
    | none => exact Src.ofNil w hk c
    | some a => exact Src.ofSlice w hk a 0 c [] (by simp) (fun j u hu => by simp at hu) (fun u hu => by cases hu)
  · refine Src.ofSlice w hk ⟨b, off, none⟩ ss.length c (strsV ss) (by simp [strsV]) (fun j u hu => ?_) (fun u hu => ?_)
    · have hj : j < ss.length := by
        have := (List.getElem?_eq_some_iff.1 hu).1
        simpa [strsV] using this
      have e0 : (⟨b, off, none⟩ : Addr).add j = ⟨b, off + j, none⟩ := by unfold Addr.add; split <;> simp_all
      rw [e0, hc j hj]
      simpa [strsV, hj] using hu
    · obtain ⟨_, _, rfl⟩ := List.mem_map.1 hu
      rfl

/-- what Bind answers -/
def bindS (ss : List ByteArray) : ByteArray := if mayB ss = true then ⟨(bindL ss).toArray⟩ else ⟨#[]⟩
def bindE (ss : List ByteArray) : Int := if mayB ss = true then 0 else 2
theorem bind_any (a : Option Addr) (c : Nat) (ss : List ByteArray) (w : World) (h : HasStrs w a c ss) :
    Calls Tryd.prog 36 #[.slice a ss.length c] w fun e w' => e = .returned (.tuple #[.string (bindS ss), .int .i64 (bindE ss)]) ∧ Below w.heap.size w w' := by
  cases hm : mayB ss with
  | true =>
    have e1 : bindS ss = ⟨(bindL ss).toArray⟩ := by rw [bindS, if_pos hm]
    have e2 : bindE ss = 0 := by rw [bindE, if_pos hm]
    rw [e1, e2]
    exact bind_ok a c ss w h hm
  | false =>
    have hm' : ¬ mayB ss = true := by rw [hm]; simp
    have e1 : bindS ss = ⟨#[]⟩ := by rw [bindS, if_neg hm']
    have e2 : bindE ss = 2 := by rw [bindE, if_neg hm']
    rw [e1, e2]
    exact bind_bad a c ss w h hm
theorem bindS_size (ss : List ByteArray) (hl : ss.length ≤ 515) (hs : ∀ s ∈ ss, s.size ≤ 8200) : (bindS ss).size ≤ 5000000 := by
  unfold bindS
  split
  · have := bindL_len ss hs
    rw [size_list]; show (bindL ss).length ≤ _; omega
  · exact Nat.zero_le _

end Go.Proofs.YtmmpnkcfekhkhaaDoor
