/- What the lists of the rows of hours give: names of days, two errors of the library's; the contracts of hours.twoDigits, clock, daysIn, minuteOf. -/
import Derived.Test.YtekcmgajjbdmgabDoorHrsB
import Derived.Test.YtekcmgajjbdmgabDoorIdxV
import Derived.Test.YtekcmgajjbdmgabDoorShelf
import Derived.Test.YtekcmgajjbdmgabDoorLater
import Derived.Lib.AtoiErrMem
import Derived.Outline
namespace Go.Proofs.YtekcmgajjbdmgabDoor
open Go.RowKit

/-- what the listed variables hold -/
def HW (w : World) : Prop :=
  (∃ m : Int, w.cell? ⟨1, 0, none⟩ = some (.int .i64 m)) ∧ (∀ k, k < 7 → w.cell? ⟨0, k, none⟩ = some (.string ⟨(nameT k).toArray⟩)) ∧
  (∃ t p, w.cell? ⟨2, 0, none⟩ = some (.iface t p)) ∧ (∃ t p, w.cell? ⟨3, 0, none⟩ = some (.iface t p))
theorem HW.call {w w1 : World} (h : HW w) (hb : Below w.heap.size w w1) : HW w1 := by
  obtain ⟨⟨m, h1⟩, h2, ⟨t, p, h3⟩, ⟨t', p', h4⟩⟩ := h
  have k : ∀ a v, w.cell? a = some v → w1.cell? a = some v := fun a v hv => (hb.cell (World.block_lt_of_cell? _ _ hv)).trans hv
  exact ⟨⟨m, k _ _ h1⟩, fun i hi => k _ _ (h2 i hi), ⟨t, p, k _ _ h3⟩, ⟨t', p', k _ _ h4⟩⟩

def AtoiP (s : Bs) (w : World) (e : Ending) (w' : World) : Prop :=
  (∃ v ev, e = .returned (.tuple #[.int .i64 v, ev]) ∧ ((Lib.atoiAll s = .ok v ∧ ev = .nilIface) ∨ ((∀ u, Lib.atoiAll s ≠ .ok u) ∧ ∃ t p, ev = .iface t p))) ∧ Below w.heap.size w w'
theorem atoi_any (s : ByteArray) (w : World) (hw : HW w) (hs : s.size ≤ 100000) : Calls Tryd.prog 60 #[.string s] w (AtoiP s.data.toList w) := by
  obtain ⟨_, _, ⟨t, p, h3⟩, ⟨t', p', h4⟩⟩ := hw
  cases h : Lib.atoiAll s.data.toList
  · rename_i v
    refine (Tryd.strconv_Atoi_ok s (by omega) v h w).mono ?_
    rintro e w' ⟨rfl, hw'⟩
    refine ⟨⟨v, _, rfl, .inl ⟨h, rfl⟩⟩, ?_⟩
    rcases hw' with rfl | ⟨t, rfl⟩
    · exact Below.refl _ _
    · exact Lib.bytesWorld_below _ _ _
  · refine (Any.strconv_Atoi_syntax Tryd.laysC172 s (by omega) h _ w h3 (.inr ⟨t, p, rfl⟩)).mono ?_
    rintro e w' ⟨N, rfl, _, _, hb⟩
    exact ⟨⟨_, _, rfl, .inr ⟨fun u hu => (by rw [h] at hu; cases hu), _, _, rfl⟩⟩, hb⟩
  · refine (Tryd.strconv_Atoi_range s (by omega) h _ w h4 (.inr ⟨t', p', rfl⟩)).mono ?_
    rintro e w' ⟨N, rfl, _, _, hb⟩
    exact ⟨⟨_, _, rfl, .inr ⟨fun u hu => (by rw [h] at hu; cases hu), _, _, rfl⟩⟩, hb⟩

def IntW (x : Int) (w : World) (e : Ending) (w' : World) : Prop := e = .returned (.int .i64 x) ∧ Below w.heap.size w w'
theorem cut_len (s : Bs) (c : UInt8) : (Lib.cut s [c]).1.length ≤ s.length ∧ (Lib.cut s [c]).2.1.length ≤ s.length := by
  unfold Lib.cut
  split
  · simp; omega
  · simp
theorem cutH_any (s : ByteArray) (c : UInt8) (w : World) (hw : HW w) (hs : s.size ≤ 100000) :
    Calls Tryd.prog 34 #[.string s, .string ⟨#[c]⟩] w fun e w' => ∃ b, e = .returned (.tuple #[.string ⟨(Lib.cut s.data.toList [c]).1.toArray⟩, .string ⟨(Lib.cut s.data.toList [c]).2.1.toArray⟩, .bool b]) ∧ Below w.heap.size w w' := by
  obtain ⟨m, h1⟩ := hw.1
  refine (Tryd.strings_Cut s ⟨#[c]⟩ m w (by omega) h1).mono ?_
  rintro e w' ⟨rfl, n, rfl⟩
  exact ⟨_, rfl, ⟨rfl, rfl, rfl, Nat.le_refl _, fun _ _ => rfl⟩⟩

theorem minT_ok {s : Bs} {a b : Int} (h1 : Lib.atoiAll (Lib.cut s [58]).1 = .ok a) (h2 : Lib.atoiAll (Lib.cut s [58]).2.1 = .ok b) : minT s = IntKind.i64.wrap (IntKind.i64.wrap (a * 60) + b) := by
  unfold minT; rw [h1, h2]
theorem minT_no {s : Bs} (h : (∀ u, Lib.atoiAll (Lib.cut s [58]).1 ≠ .ok u) ∨ (∀ u, Lib.atoiAll (Lib.cut s [58]).2.1 ≠ .ok u)) : minT s = -1 := by
  unfold minT
  split
  · rename_i a b h1 h2
    rcases h with h | h
    · exact absurd h1 (h a)
    · exact absurd h2 (h b)
  · rfl
set_option maxHeartbeats 1600000 in
theorem minuteOf_any (s : ByteArray) (w : World) (hw : HW w) (hs : s.size ≤ 100000) : Calls Tryd.prog 36 #[.string s] w (IntW (minT s.data.toList) w) := by
  have hc := fun W (h : Below w.heap.size w W) => cutH_any s 58 W (hw.call h) hs
  obtain ⟨l1, l2⟩ := cut_len s.data.toList 58
  have hl := lenB s
  have ha := fun W (h : Below w.heap.size w W) => atoi_any ⟨(Lib.cut s.data.toList [58]).1.toArray⟩ W (hw.call h) (by rw [show (⟨(Lib.cut s.data.toList [58]).1.toArray⟩ : ByteArray).size = (Lib.cut s.data.toList [58]).1.length from by simp [ByteArray.size]]; omega)
  have hb := fun W (h : Below w.heap.size w W) => atoi_any ⟨(Lib.cut s.data.toList [58]).2.1.toArray⟩ W (hw.call h) (by rw [show (⟨(Lib.cut s.data.toList [58]).2.1.toArray⟩ : ByteArray).size = (Lib.cut s.data.toList [58]).2.1.length from by simp [ByteArray.size]]; omega)
  have hR1 := fun a b => minT_ok (s := s.data.toList) (a := a) (b := b)
  have hR2 := minT_no (s := s.data.toList)
  simp only at ha hb
  generalize minT s.data.toList = R at *
  generalize (Lib.cut s.data.toList [58]).1 = A at *
  generalize (Lib.cut s.data.toList [58]).2.1 = B at *
  clear l1 l2 hl
  have HR1 := Lib.hid hR1
  have HR2 := Lib.hid hR2
  have HC := Lib.hid hc
  have HA := Lib.hid ha
  have HB := Lib.hid hb
  clear hc ha hb hR1 hR2
  go_enter Tryd.func36, Tryd.ntmps36
  go_upto_region 4 with (first
    | (go_at_call 34; (with_reducible refine (HC.out _ (Below.refl _ _)).mono ?_); rintro e w2 ⟨b1, rfl, hb2⟩)
    | (go_at_call 60; (with_reducible refine (HA.out _ hb2).mono ?_); rintro e w3 ⟨⟨v1, e1, rfl, hv1⟩, hb3⟩; have hb3 := bthen hb2 hb3)
    | (go_at_call 60; (with_reducible refine (HB.out _ hb3).mono ?_); rintro e w4 ⟨⟨v2, e2, rfl, hv2⟩, hb4⟩; have hb4 := bthen hb3 hb4))
  rcases hv1 with ⟨g1, rfl⟩ | ⟨g1, t1, p1, rfl⟩
  · rcases hv2 with ⟨g2, rfl⟩ | ⟨g2, t2, p2, rfl⟩
    · have hr := HR1.out v1 v2 g1 g2
      clear g1 g2
      subst hr
      go_wp2_with fail
      go_ret
      exact ⟨by simp [IntWalk.i64_left], hb4⟩
    · have hr := HR2.out (.inr g2)
      clear g1 g2
      subst hr
      go_wp2_with fail
      go_ret
      exact ⟨rfl, hb4⟩
  · have hr := HR2.out (.inl g1)
    clear g1 hv2
    subst hr
    go_wp2_with fail
    go_ret
    exact ⟨rfl, hb4⟩

def bytA (l : Bs) : ByteArray := ⟨l.toArray⟩
theorem bytA_size (l : Bs) : (bytA l).size = l.length := by simp [bytA, ByteArray.size]
theorem bytA_list (l : Bs) : (bytA l).data.toList = l := by simp [bytA]
theorem bytA_app (a b : Bs) : bytA (a ++ b) = bytA a ++ bytA b := by apply bytes_ext; simp [bytA, ByteArray.data_append]
def StrW (l : Bs) (w : World) (e : Ending) (w' : World) : Prop := e = .returned (.string (bytA l)) ∧ Below w.heap.size w w'
theorem twoT_len (n : Nat) : (twoT n).length = 2 := rfl
theorem run_two (w : World) (n : Nat) (hn : n < 100) : (convert 81 9 (.slice (some ⟨w.heap.size, 0, none⟩) 2 2)).run Tryd.prog (w.alloc (.cells #[.int .u8 (48 + (n : Int) / 10), .int .u8 (48 + (n : Int) % 10)] 5)) =
    .ok (.string (bytA (twoT n))) (w.alloc (.cells #[.int .u8 (48 + (n : Int) / 10), .int .u8 (48 + (n : Int) % 10)] 5)) := by
  refine run_convert_bytes_back _ 81 9 5 ⟨w.heap.size, 0, none⟩ 2 (twoT n) Tryd.underlying81 Tryd.underlying5 Tryd.underlying9 ?_
  intro j hj
  have e0 : (⟨w.heap.size, 0, none⟩ : Addr).add j = ⟨w.heap.size, j, none⟩ := by unfold Addr.add; split <;> simp_all
  rw [e0, World.cell?_alloc_mark w #[.int .u8 (48 + (n : Int) / 10), .int .u8 (48 + (n : Int) % 10)] 5 (0, 0) j]
  have h2 : j = 0 ∨ j = 1 := by rw [twoT_len] at hj; omega
  rcases h2 with rfl | rfl
  · have : (48 + n / 10) % 256 = 48 + n / 10 := by omega
    simp [twoT, this]
  · have : (48 + n % 10) % 256 = 48 + n % 10 := by omega
    simp [twoT, this]
set_option maxRecDepth 100000 in
theorem twoD_any (n : Nat) (w : World) (hn : n < 100) : Calls Tryd.prog 57 #[.int .i64 (n : Int)] w (StrW (twoT n) w) := by
  have hc := run_two w n hn
  go_enter Tryd.func57, Tryd.ntmps57
  go_wp2_with fail
  go_ret
  exact ⟨rfl, (Below.refl _ _).alloc (Nat.le_refl _) _⟩
set_option maxRecDepth 100000 in
theorem clock_any (m : Nat) (w : World) (hm : m < 1441) : Calls Tryd.prog 33 #[.int .i64 (m : Int)] w (StrW (clockT m) w) := by
  have h1 := fun W => twoD_any (m / 60) W (by omega)
  have h2 := fun W => twoD_any (m % 60) W (by omega)
  rw [show ((m / 60 : Nat) : Int) = (m : Int) / 60 by omega] at h1
  rw [show ((m % 60 : Nat) : Int) = (m : Int) % 60 by omega] at h2
  unfold clockT
  unfold StrW at h1 h2 ⊢
  rw [bytA_app, bytA_app]
  have s1 := bytA_size (twoT (m / 60))
  have s2 := bytA_size (twoT (m % 60))
  rw [twoT_len] at s1 s2
  generalize bytA (twoT (m / 60)) = X at *
  generalize bytA (twoT (m % 60)) = Y at *
  have p1 : ¬ 9223372036854775807 < X.size + 1 := by omega
  have p2 : ¬ 9223372036854775807 < X.size + 1 + Y.size := by omega
  clear s1 s2
  go_enter Tryd.func33, Tryd.ntmps33
  go_wp2_with (go_at_call 57; first | ((with_reducible refine (h1 _).mono ?_); rintro e w2 ⟨rfl, hb2⟩) | ((with_reducible refine (h2 _).mono ?_); rintro e w3 ⟨rfl, hb3⟩))
  go_ret
  exact ⟨by rw [← ByteArray.append_assoc]; rfl, bthen hb2 hb3⟩
end Go.Proofs.YtekcmgajjbdmgabDoor
