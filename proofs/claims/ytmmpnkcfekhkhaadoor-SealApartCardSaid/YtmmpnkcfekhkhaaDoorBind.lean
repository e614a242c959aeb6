/- The contracts of what binds texts: frame.Bind, and the document's own May, Bind, Same. -/
import Derived.Test.YtmmpnkcfekhkhaaDoorInfo
import Derived.Test.YtmmpnkcfekhkhaaDoorRef1
import Derived.BigQuiet
import Derived.Deep.QuietTactic
namespace Go.Proofs.YtmmpnkcfekhkhaaDoor
open Go.RowKit

theorem owns_call {w w1 : World} {base e size n : Nat} {v : Value} {xs : List Value} (h : w.ownsRow base e size v n xs) (hb : Below w.heap.size w w1) : w1.ownsRow base e size v n xs :=
  h.kept (row := none) ⟨hb.os, hb.tape, hb.output, hb.size, fun k hk _ => hb.block k hk⟩ (by cases v.ownBlock <;> simp)
theorem run_str_any {P : Program} {w : World} {base src dst e : Nat} {v : Value} {l : List UInt8} (hs : P.underlying src = some (.slice e)) (he : P.underlying e = some (.int .u8)) (hd : P.underlying dst = some .string)
    (hown : w.ownsRow base e 1 v l.length (bytesV l)) : (convert src dst v).run P w = .ok (.string ⟨l.toArray⟩) w := by
  rcases hown.2 with ⟨rfl, h0⟩ | ⟨g, cap, cur, rfl, _⟩
  · obtain rfl : l = [] := List.eq_nil_of_length_eq_zero h0
    exact run_convert_bytes_nil w src e hs he 0 0 dst hd
  · exact run_str_own hs he hd hown

theorem src_list {P : Program} {tx : TypeId} (w : World) (hk : P.underlying tx = some .string) (l : List UInt8) : Src P 1 tx (.string ⟨l.toArray⟩) l.length (bytesV l) w := by
  have h := Src.ofString (P := P) w hk ⟨l.toArray⟩
  simpa [byteCells, bytesV, ByteArray.size] using h
theorem src_text {P : Program} {tx : TypeId} (w : World) (hk : P.underlying tx = some .string) (s : ByteArray) : Src P 1 tx (.string s) s.size (bytesV s.data.toList) w :=
  Src.ofString w hk s

/-- texts, bound -/
def bindL (ss : List ByteArray) : List UInt8 := ss.flatMap fun s => numB s.size ++ s.data.toList
theorem bindL_snoc (ss : List ByteArray) (s : ByteArray) : bindL (ss ++ [s]) = bindL ss ++ numB s.size ++ s.data.toList := by simp [bindL]
theorem bindL_take (ss : List ByteArray) (k : Nat) (h : k < ss.length) : bindL (ss.take (k + 1)) = bindL (ss.take k) ++ numB ss[k].size ++ ss[k].data.toList := by
  rw [List.take_succ_eq_append_getElem h, bindL_snoc]
theorem bindL_len (ss : List ByteArray) (hs : ∀ s ∈ ss, s.size ≤ 8200) : (bindL ss).length ≤ ss.length * 8209 := by
  induction ss with
  | nil => simp [bindL]
  | cons s ss ih =>
    have h1 := ih fun x hx => hs x (by simp [hx])
    have h2 := hs s (by simp)
    have h3 := numB_len9 (n := s.size) (by omega)
    have e : bindL (s :: ss) = numB s.size ++ s.data.toList ++ bindL ss := rfl
    have h4 : s.data.toList.length = s.size := by simp
    rw [e, List.length_append, List.length_append, List.length_cons, h4]
    omega

def mayB (ss : List ByteArray) : Bool := decide (ss.length ≤ 512) && ss.all fun s => decide (s.size ≤ 8192)
theorem mayB_true {ss : List ByteArray} (h : mayB ss = true) : ss.length ≤ 512 ∧ ∀ s ∈ ss, s.size ≤ 8192 := by
  simpa [mayB] using h
theorem first_bad (p : ByteArray → Prop) [DecidablePred p] : ∀ (ss : List ByteArray), (¬ ∀ s ∈ ss, p s) → ∃ j, ∃ hj : j < ss.length, ¬ p ss[j] ∧ ∀ k (hk : k < j), p (ss[k]'(by omega))
  | [], h => absurd (fun s hs => by cases hs) h
  | s :: ss, h => by
    by_cases hs : p s
    · obtain ⟨j, hj, hb, ha⟩ := first_bad p ss (fun hall => h fun x hx => by
        rcases List.mem_cons.1 hx with rfl | hx
        · exact hs
        · exact hall x hx)
      refine ⟨j + 1, by simpa using hj, by simpa using hb, fun k hk => ?_⟩
      match k, hk with
      | 0, _ => simpa using hs
      | k + 1, hk => simpa using ha k (by omega)
    · exact ⟨0, by simp, by simpa using hs, fun k hk => by omega⟩
theorem mayB_false {ss : List ByteArray} (h : mayB ss = false) (hl : ss.length ≤ 512) : ∃ j, ∃ hj : j < ss.length, ¬ ss[j].size ≤ 8192 ∧ ∀ k (hk : k < j), (ss[k]'(by omega)).size ≤ 8192 := by
  refine first_bad (fun s => s.size ≤ 8192) ss fun hall => ?_
  have : mayB ss = true := by simpa [mayB] using ⟨hl, hall⟩
  rw [h] at this
  cases this

set_option maxHeartbeats 1600000 in
set_option maxRecDepth 100000 in
theorem bind_some (b off c : Nat) (ss : List ByteArray) (w : World) (hlc : ss.length ≤ c) (hcm : c ≤ maxLen) (hb : b < w.heap.size)
    (hcell : ∀ i (h : i < ss.length), w.cell? ⟨b, off + i, none⟩ = some (.string ss[i])) (hl : ss.length ≤ 512) (hsz : ∀ s ∈ ss, s.size ≤ 8192) :
    Calls Tryd.prog 36 #[.slice (some ⟨b, off, none⟩) ss.length c] w fun e w' => e = .returned (.tuple #[.string ⟨(bindL ss).toArray⟩, .int .i64 0]) ∧ Below w.heap.size w w' := by
  obtain ⟨i0, hi, hz0, hz1, hz2⟩ := info_parts Tryd.infoB
  unfold maxLen at hcm
  have HC := Lib.hid hcell
  have HS := Lib.hid hsz
  clear hcell hsz
  go_enter Tryd.func36, Tryd.ntmps36
  go_wp2_with fail
  go_loopw [4, 14] (fun v i wr => ∃ k : Nat, k ≤ ss.length ∧ i = .int .i64 k ∧ wr.ownsRow w.heap.size 5 1 v (bindL (ss.take k)).length (bytesV (bindL (ss.take k))) ∧ Below w.heap.size w wr) (fun _ i _ => ss.length - (intOf i).toNat)
  case atStart => exact ⟨0, Nat.zero_le _, rfl, World.ownsRow_nil _ _ _ _, Below.refl _ _⟩
  case round =>
    obtain ⟨k, hk, rfl, hown, hbl⟩ := hrel
    have hlen := bindL_len (ss.take k) (fun s hs => by have := HS.out s (List.mem_of_mem_take hs); omega)
    rw [List.length_take] at hlen
    by_cases hkL : k < ss.length
    · have hc := (hbl.cell (p := ⟨b, off + k, none⟩) hb).trans (HC.out k (by omega))
      have hs := HS.out ss[k] (List.getElem_mem _)
      have hnl := numB_len9 (n := ss[k].size) (by omega)
      have htk := Lib.hid (bindL_take ss k hkL)
      go_wp2_with (first | (go_at_call 51; refine (number_any ss[k].size _ (by omega)).mono ?_; rintro e w2 ⟨rfl, hb2⟩; have hown2 := owns_call hown hb2) | (at_builtin; refine wpList_append_src _ rfl _ _ 41 9 rfl w.heap.size 5 i0 (.int .u8 0) 1 1 Tryd.underlying41 hi hz0 hz1 hz2 rfl _ _ _ rfl (by assumption) _ _ _ rfl (src_list _ Tryd.underlying9 _) ?c1 ?c2 ?c3 ?_))
      case c1 => unfold maxLen; omega
      case c2 => omega
      case c3 => exact Nat.le_trans hbl.size hb2.size
      intro v3 w3 hown3 hg3
      go_wp2_with (at_builtin; refine wpList_append_src _ rfl _ _ 41 9 rfl w.heap.size 5 i0 (.int .u8 0) 1 1 Tryd.underlying41 hi hz0 hz1 hz2 rfl _ _ _ rfl hown3 _ _ _ rfl (src_text _ Tryd.underlying9 _) ?d1 ?d2 ?d3 ?_)
      case d1 => unfold maxLen; omega
      case d2 => omega
      case d3 => exact Nat.le_trans (Nat.le_trans hbl.size hb2.size) hg3.size
      intro v4 w4 hown4 hg4
      have hbl4 : Below w.heap.size w w4 := ((bthen hbl hb2).grown hg3 (Nat.le_trans hbl.size hb2.size) (fun k hk => (hown2.lt k hk).1)).grown hg4 (Nat.le_trans (Nat.le_trans hbl.size hb2.size) hg3.size) (fun k hk => (hown3.lt k hk).1)
      have hown5 : w4.ownsRow w.heap.size 5 1 v4 (bindL (ss.take (k + 1))).length (bytesV (bindL (ss.take (k + 1)))) := by
        rw [htk.out, bytesV_app, bytesV_app, List.length_append, List.length_append]
        simpa using hown4
      clear hown hown2 hown3 hown4 hg3 hg4 hb2
      go_wp2
      go_roundw
      case rel => exact ⟨k + 1, by omega, by go_num, hown5, hbl4⟩
      case measure => simp [intOf]; omega
    · obtain rfl : k = ss.length := by omega
      rw [List.take_of_length_le (Nat.le_refl _)] at hown
      have hcv := run_str_any (P := Tryd.prog) (src := 41) (dst := 9) Tryd.underlying41 Tryd.underlying5 Tryd.underlying9 hown
      clear hown hlen
      go_wp2
      go_ret2
      exact ⟨rfl, hbl⟩

theorem bind_none (a : Option Addr) (c : Nat) (w : World) :
    Calls Tryd.prog 36 #[.slice a 0 c] w fun e w' => e = .returned (.tuple #[.string ⟨(bindL []).toArray⟩, .int .i64 0]) ∧ Below w.heap.size w w' := by
  have hcv := run_convert_bytes_nil (P := Tryd.prog) w 41 5 Tryd.underlying41 Tryd.underlying5 0 0 9 Tryd.underlying9
  go_enter Tryd.func36, Tryd.ntmps36
  go_wp2
  refine wp_loop_rounds 1 ?_
  rw [rounds_succ]
  go_wp2
  go_ret2
  exact ⟨rfl, Below.refl _ _⟩

theorem bind_ok (a : Option Addr) (c : Nat) (ss : List ByteArray) (w : World) (h : HasStrs w a c ss) (hm : mayB ss = true) :
    Calls Tryd.prog 36 #[.slice a ss.length c] w fun e w' => e = .returned (.tuple #[.string ⟨(bindL ss).toArray⟩, .int .i64 0]) ∧ Below w.heap.size w w' := by
  obtain ⟨hl, hs⟩ := mayB_true hm
  obtain ⟨h1, h2, h3, h4⟩ := h
  rcases h4 with rfl | ⟨b, off, rfl, hb, hc⟩
  · exact bind_none a c w
  · exact bind_some b off c ss w h1 h2 hb hc hl hs

set_option maxHeartbeats 800000 in
set_option maxRecDepth 100000 in
theorem bind_bad (a : Option Addr) (c : Nat) (ss : List ByteArray) (w : World) (h : HasStrs w a c ss) (hm : mayB ss = false) :
    Calls Tryd.prog 36 #[.slice a ss.length c] w fun e w' => e = .returned (.tuple #[.string ⟨#[]⟩, .int .i64 2]) ∧ Below w.heap.size w w' := by
  obtain ⟨h1, h2, h3, h4⟩ := h
  unfold maxLen at h2
  by_cases hl : ss.length ≤ 512
  · obtain ⟨j, hj, hbad, hall⟩ := mayB_false hm hl
    rcases h4 with rfl | ⟨b, off, rfl, hb, hcell⟩
    · cases hj
    · obtain ⟨i0, hi, hz0, hz1, hz2⟩ := info_parts Tryd.infoB
      have HC := Lib.hid hcell
      have HA := Lib.hid hall
      have HM := Lib.hid h3
      clear hcell hall hm h3
      go_enter Tryd.func36, Tryd.ntmps36
      go_wp2_with fail
      go_loopw [4, 14] (fun v i wr => ∃ k : Nat, k ≤ j ∧ i = .int .i64 k ∧ (∃ l : List UInt8, l.length ≤ k * 8209 ∧ wr.ownsRow w.heap.size 5 1 v l.length (bytesV l)) ∧ Below w.heap.size w wr) (fun _ i _ => ss.length - (intOf i).toNat)
      case atStart => exact ⟨0, Nat.zero_le _, rfl, ⟨[], by simp, World.ownsRow_nil _ _ _ _⟩, Below.refl _ _⟩
      case round =>
        obtain ⟨k, hk, rfl, ⟨l, hll, hown⟩, hbl⟩ := hrel
        have hc := (hbl.cell (p := ⟨b, off + k, none⟩) hb).trans (HC.out k (by omega))
        by_cases hkj : k = j
        · subst hkj
          have hs := HM.out ss[k] (List.getElem_mem _)
          unfold maxLen at hs
          go_wp2
          go_ret2
          exact ⟨rfl, hbl⟩
        · have hs := HA.out k (by omega)
          have hnl := numB_len9 (n := ss[k].size) (by omega)
          go_wp2_with (first | (go_at_call 51; refine (number_any ss[k].size _ (by omega)).mono ?_; rintro e w2 ⟨rfl, hb2⟩; have hown2 := owns_call hown hb2) | (at_builtin; refine wpList_append_src _ rfl _ _ 41 9 rfl w.heap.size 5 i0 (.int .u8 0) 1 1 Tryd.underlying41 hi hz0 hz1 hz2 rfl _ _ _ rfl (by assumption) _ _ _ rfl (src_list _ Tryd.underlying9 _) ?c1 ?c2 ?c3 ?_))
          case c1 => unfold maxLen; omega
          case c2 => omega
          case c3 => exact Nat.le_trans hbl.size hb2.size
          intro v3 w3 hown3 hg3
          go_wp2_with (at_builtin; refine wpList_append_src _ rfl _ _ 41 9 rfl w.heap.size 5 i0 (.int .u8 0) 1 1 Tryd.underlying41 hi hz0 hz1 hz2 rfl _ _ _ rfl hown3 _ _ _ rfl (src_text _ Tryd.underlying9 _) ?d1 ?d2 ?d3 ?_)
          case d1 => unfold maxLen; omega
          case d2 => omega
          case d3 => exact Nat.le_trans (Nat.le_trans hbl.size hb2.size) hg3.size
          intro v4 w4 hown4 hg4
          have hbl4 : Below w.heap.size w w4 := ((bthen hbl hb2).grown hg3 (Nat.le_trans hbl.size hb2.size) (fun k hk => (hown2.lt k hk).1)).grown hg4 (Nat.le_trans (Nat.le_trans hbl.size hb2.size) hg3.size) (fun k hk => (hown3.lt k hk).1)
          have hown5 : ∃ l : List UInt8, l.length ≤ (k + 1) * 8209 ∧ w4.ownsRow w.heap.size 5 1 v4 l.length (bytesV l) := by
            refine ⟨l ++ numB ss[k].size ++ ss[k].data.toList, ?_, ?_⟩
            · simp; omega
            · rw [bytesV_app, bytesV_app, List.length_append, List.length_append]
              simpa using hown4
          clear hown hown2 hown3 hown4 hg3 hg4 hb2
          go_wp2
          go_roundw
          case rel => exact ⟨k + 1, by omega, by go_num, hown5, hbl4⟩
          case measure => simp [intOf]; omega
  · clear hm h3 h4
    go_enter Tryd.func36, Tryd.ntmps36
    go_wp2
    go_ret2
    exact ⟨rfl, Below.refl _ _⟩
end Go.Proofs.YtmmpnkcfekhkhaaDoor
