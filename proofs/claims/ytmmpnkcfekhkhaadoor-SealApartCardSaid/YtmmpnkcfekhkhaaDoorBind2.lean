/- The contracts of the document's own Bind and Same. -/
import Derived.Test.YtmmpnkcfekhkhaaDoorBind
import Derived.Test.YtmmpnkcfekhkhaaDoorSameR
namespace Go.Proofs.YtmmpnkcfekhkhaaDoor
open Go.RowKit
open Go.WideShapes (bytes_inj)

theorem data_app (a b : ByteArray) : (a ++ b).data.toList = a.data.toList ++ b.data.toList := by simp [ByteArray.data_append]
theorem size_list (a : ByteArray) : a.size = a.data.toList.length := by simp
theorem ba_of_list {a : ByteArray} {l : List UInt8} (h : a.data.toList = l) : a = ⟨l.toArray⟩ := by
  subst h; rfl

set_option maxHeartbeats 800000 in
set_option maxRecDepth 100000 in
theorem rbind_some (b off c : Nat) (ss : List ByteArray) (w : World) (hlc : ss.length ≤ c) (hcm : c ≤ maxLen) (hb : b < w.heap.size)
    (hcell : ∀ i (h : i < ss.length), w.cell? ⟨b, off + i, none⟩ = some (.string ss[i])) (hl : ss.length ≤ 515) (hsz : ∀ s ∈ ss, s.size ≤ 8200) :
    Calls Tryd.prog 25 #[.slice (some ⟨b, off, none⟩) ss.length c] w fun e w' => e = .returned (.string ⟨(bindL ss).toArray⟩) ∧ Below w.heap.size w w' := by
  unfold maxLen at hcm
  have HC := Lib.hid hcell
  have HS := Lib.hid hsz
  clear hcell hsz
  go_enter Tryd.func25, Tryd.ntmps25
  go_wp2_with fail
  go_loopw [3, 8] (fun v i wr => ∃ (k : Nat) (o : ByteArray), k ≤ ss.length ∧ i = .int .i64 k ∧ v = .string o ∧ o.data.toList = bindL (ss.take k) ∧ Below w.heap.size w wr) (fun _ i _ => ss.length - (intOf i).toNat)
  case atStart => exact ⟨0, ⟨#[]⟩, Nat.zero_le _, rfl, rfl, rfl, Below.refl _ _⟩
  case round =>
    obtain ⟨k, o, hk, rfl, rfl, ho, hbl⟩ := hrel
    have hos : o.size ≤ 5000000 := by
      have hlen := bindL_len (ss.take k) (fun s hs => HS.out s (List.mem_of_mem_take hs))
      rw [List.length_take] at hlen
      rw [size_list, ho]; omega
    have HO := Lib.hid ho
    clear ho
    by_cases hkL : k < ss.length
    · have hc := (hbl.cell (p := ⟨b, off + k, none⟩) hb).trans (HC.out k (by omega))
      have hs := HS.out ss[k] (List.getElem_mem _)
      have hnl := numB_len9 (n := ss[k].size) (by omega)
      have htk := Lib.hid (bindL_take ss k hkL)
      have hns : (⟨(numB ss[k].size).toArray⟩ : ByteArray).size ≤ 9 := by rw [size_list]; exact hnl
      obtain ⟨q, hq⟩ : ∃ q : ByteArray, q = ⟨(numB ss[k].size).toArray⟩ := ⟨_, rfl⟩
      have hqd : q.data.toList = numB ss[k].size := by rw [hq]
      have hnum := fun W => rnumber_any ss[k].size W (by omega)
      rw [← hq] at hns hnum
      have HN := Lib.hid hnum
      have HQ := Lib.hid hqd
      have hsum : (o ++ q).size ≤ 5000009 := by rw [ByteArray.size_append]; omega
      clear hnum hq hqd hnl
      go_wp2_with (go_at_call 41; refine (HN.out _).mono ?_; rintro e w2 ⟨rfl, hb2⟩)
      go_roundw
      case rel => exact ⟨k + 1, (o ++ q) ++ ss[k], by omega, by go_num, rfl, by rw [data_app, data_app, HO.out, HQ.out, htk.out], bthen hbl hb2⟩
      case measure => simp [intOf]; omega
    · obtain rfl : k = ss.length := by omega
      go_wp2
      go_ret
      refine ⟨?_, hbl⟩
      have := HO.out
      rw [List.take_of_length_le (Nat.le_refl _)] at this
      rw [← ba_of_list this]
      rfl

theorem rbind_any (a : Option Addr) (c : Nat) (ss : List ByteArray) (w : World) (h : HasStrs w a c ss) (hl : ss.length ≤ 515) (hsz : ∀ s ∈ ss, s.size ≤ 8200) :
    Calls Tryd.prog 25 #[.slice a ss.length c] w fun e w' => e = .returned (.string ⟨(bindL ss).toArray⟩) ∧ Below w.heap.size w w' := by
  obtain ⟨h1, h2, h3, h4⟩ := h
  rcases h4 with rfl | ⟨b, off, rfl, hb, hc⟩
  · go_enter Tryd.func25, Tryd.ntmps25
    go_wp2
    refine wp_loop_rounds 1 ?_
    rw [rounds_succ]
    go_wp2
    go_ret
    exact ⟨rfl, Below.refl _ _⟩
  · exact rbind_some b off c ss w h1 h2 hb hc hl hsz

end Go.Proofs.YtmmpnkcfekhkhaaDoor
