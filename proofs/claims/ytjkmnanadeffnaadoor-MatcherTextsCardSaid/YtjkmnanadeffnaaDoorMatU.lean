/- The contract of matcher.Text. -/
import Derived.Test.YtjkmnanadeffnaaDoorMatC
import Derived.Test.YtjkmnanadeffnaaDoorMatX
import Derived.Test.YtjkmnanadeffnaaDoorMatY
import Derived.Test.YtjkmnanadeffnaaDoorShelf
import Derived.Deep.RegionHeld3
namespace Go.Proofs.YtjkmnanadeffnaaDoor
open Go.RowKit Go.Maps

theorem joinW_lib (ws : List ByteArray) : Lib.join (ws.map (·.data.toList)) [124] = joinW ws := by
  cases ws with
  | nil => rfl
  | cons s r =>
    rw [List.map_cons, Lib.join_cons]
    simp [joinW, Lib.joinTail, List.flatMap, List.map_map, Function.comp_def]
theorem flat_len : ∀ (r : List ByteArray) (k : Nat), (∀ s ∈ r, s.size ≤ 64) → r.length ≤ k → (r.flatMap fun x => 124 :: x.data.toList).length ≤ 65 * k
  | [], _, _, _ => by simp
  | s :: r, 0, _, h => by simp at h
  | s :: r, k + 1, h, hk => by
    have ih := flat_len r k (fun x hx => h x (List.mem_cons_of_mem _ hx)) (by simpa using hk)
    have hs := h s (by simp)
    have e : s.data.toList.length = s.size := by simp
    rw [List.flatMap_cons, List.length_append, List.length_cons]
    omega
theorem joinW_len (ws : List ByteArray) (h : ∀ s ∈ ws, s.size ≤ 64) (hk : ws.length ≤ 8) : (joinW ws).length ≤ 600 := by
  cases ws with
  | nil => simp [joinW]
  | cons s r =>
    have := flat_len r 8 (fun x hx => h x (List.mem_cons_of_mem _ hx)) (by simp at hk; omega)
    have hs := h s (by simp)
    have e : s.data.toList.length = s.size := by simp
    simp only [joinW, List.length_append]
    omega

theorem join_any (a : Option Addr) (c : Nat) (ws : List ByteArray) (W : World) (h : HasStrs W a c ws) (h1 : 1 ≤ ws.length) (h8 : ws.length ≤ 8) (hs : ∀ s ∈ ws, s.size ≤ 64) :
    Calls Tryd.prog 35 #[.slice a ws.length c, .string ⟨#[124]⟩] W fun e w' => e = .returned (.string ⟨(joinW ws).toArray⟩) ∧ Below W.heap.size W w' := by
  obtain ⟨hc, hm, _, h4⟩ := h
  rcases h4 with rfl | ⟨b, off, rfl, hlt, hcell⟩
  · simp at h1
  · have hl := joinW_len ws hs h8
    have e := joinW_lib ws
    have := Tryd.strings_Join b off c ws ⟨#[124]⟩ W (fun j x hx => by
      obtain ⟨hj, rfl⟩ := List.getElem?_eq_some_iff.1 hx
      exact hcell j hj) hlt (by omega) hc (by
        show (Lib.join (ws.map (·.data.toList)) [124]).length ≤ _
        rw [e]; omega)
    rw [show (⟨#[124]⟩ : ByteArray).data.toList = [124] from rfl, e] at this
    exact this

def textV (m : Mat) : ByteArray := if rightM m then ⟨(textM m).toArray⟩ else ⟨#[]⟩
def textE (m : Mat) : Int := if rightM m then 0 else 1
def TextPost (m : Mat) (w : World) (e : Ending) (w' : World) : Prop := e = .returned (.tuple #[.string (textV m), .int .i64 (textE m)]) ∧ Below w.heap.size w w'
theorem right_words {m : Mat} (h : rightM m = true) : (∀ s ∈ m.words, s.size ≤ 64) ∧ 1 ≤ m.words.length ∧ m.words.length ≤ 8 ∧ m.name.size ≤ 64 := by
  obtain ⟨hn, h1, h4, hw, hl1, hl8, _⟩ := (rightM_iff m).1 h
  refine ⟨fun s hs => ?_, hl1, hl8, ?_⟩
  · have := wordsC_all hw s hs
    simp only [wordC, Bool.and_eq_true, decide_eq_true_eq] at this
    have e : s.data.toList.length = s.size := by simp
    omega
  · have e : m.name.data.toList.length = m.name.size := by simp
    simp only [nameC, Bool.and_eq_true, decide_eq_true_eq] at hn
    omega
theorem textM_bytes (m : Mat) : ((((m.name ++ ⟨(signT m.how).toArray⟩) ++ ⟨#[34]⟩) ++ ⟨(joinW m.words).toArray⟩) ++ ⟨#[34]⟩ : ByteArray) = ⟨(textM m).toArray⟩ := by
  apply bytes_ext
  simp [textM, ByteArray.data_append]

theorem map_call {w w1 : World} {b n : Nat} {D : DataW Unit} (h : w.ownsMap Tryd.prog 3 signElem b n D) (hb : Below w.heap.size w w1) : w1.ownsMap Tryd.prog 3 signElem b n D :=
  h.kept (row := none) ⟨hb.os, hb.tape, hb.output, hb.size, fun k hk _ => hb.block k hk⟩ (by simp)

set_option maxHeartbeats 6400000 in
set_option maxRecDepth 100000 in
theorem mText_any (v : Value) (m : Mat) (w : World) (h : HasMat w v m) : Calls Tryd.prog 19 #[v] w (TextPost m w) := by
  have hrt := fun v W (h : HasMat W v m) => mRight_any v m W h
  have HR := Lib.hid hrt
  clear hrt
  obtain ⟨a, c, rfl, hW, hs, hwf⟩ := h
  cases hr : rightM m with
  | false =>
    have e1 : textV m = ⟨#[]⟩ := by simp [textV, hr]
    have e2 : textE m = 1 := by simp [textE, hr]
    unfold TextPost
    rw [e1, e2]
    rw [hr] at HR
    have hbx := Blk.new w 25 #[.string m.name, .int .i64 m.how, .slice a m.words.length c]
    have hb0 : Below w.heap.size w (w.alloc (.cells #[.string m.name, .int .i64 m.how, .slice a m.words.length c] 25)) := (Below.refl _ _).alloc (Nat.le_refl _) _
    have HM := Lib.hid (show HasMat (w.alloc (.cells #[.string m.name, .int .i64 m.how, .slice a m.words.length c] 25)) (.agg #[.string m.name, .int .i64 m.how, .slice a m.words.length c]) m from ⟨a, c, rfl, hW.call hb0, hs, hwf⟩)
    clear hr e1 e2 hW hs hwf
    go_enter Tryd.func19, Tryd.ntmps19
    go_upto_region 1 with fail
    generalize w.alloc (.cells #[.string m.name, .int .i64 m.how, .slice a m.words.length c] 25) = wx at *
    obtain ⟨c0, c1, c2⟩ := hbx.cells3
    go_wp2_with (go_at_call 12; refine (HR.out _ _ HM.out).mono ?_; rintro e w2 ⟨rfl, hb2⟩)
    go_ret2
    exact ⟨rfl, bthen hb0 hb2⟩
  | true =>
    have e1 : textV m = ⟨(textM m).toArray⟩ := by simp [textV, hr]
    have e2 : textE m = 0 := by simp [textE, hr]
    obtain ⟨q1, q2, q3, q4⟩ := right_words hr
    unfold TextPost
    rw [e1, e2, ← textM_bytes]
    rw [hr] at HR
    have hbx := Blk.new w 25 #[.string m.name, .int .i64 m.how, .slice a m.words.length c]
    have hb0 : Below w.heap.size w (w.alloc (.cells #[.string m.name, .int .i64 m.how, .slice a m.words.length c] 25)) := (Below.refl _ _).alloc (Nat.le_refl _) _
    have HM := Lib.hid (show HasMat (w.alloc (.cells #[.string m.name, .int .i64 m.how, .slice a m.words.length c] 25)) (.agg #[.string m.name, .int .i64 m.how, .slice a m.words.length c]) m from ⟨a, c, rfl, hW.call hb0, hs, hwf⟩)
    have hW0 := hW.call hb0
    have HJ := Lib.hid (fun W h => join_any a c m.words W h q2 q3 q1)
    have hsv := signVal_is m.how
    have HL0 := fun (W : World) (b : Nat) (hm : W.ownsMap Tryd.prog 3 signElem b 4 D4) => look_sign1 hm m.how hwf
    rw [hsv] at HL0
    have HL := Lib.hid HL0
    have hsg : (signT m.how).length ≤ 2 := by
      unfold signT
      rcases signC_cases m.how with ⟨_, e⟩ | ⟨_, e⟩ | ⟨_, e⟩ | ⟨_, e⟩ | ⟨_, e⟩ <;> rw [e] <;> simp
    have hjl := joinW_len m.words q1 q3
    clear hr e1 e2 hW hs hwf q1 HL0 hsv
    generalize joinW m.words = J at *
    generalize (signT m.how) = T at *
    generalize onesC m.how = X at *
    generalize mostC m.how = M at *
    go_enter Tryd.func19, Tryd.ntmps19
    go_upto_region 1 with fail
    generalize w.alloc (.cells #[.string m.name, .int .i64 m.how, .slice a m.words.length c] 25) = wx at *
    obtain ⟨c0, c1, c2⟩ := hbx.cells3
    go_upto_region 3 with (go_at_call 12; refine (HR.out _ _ HM.out).mono ?_; rintro e w2 ⟨rfl, hb2⟩)
    have hbx2 := hbx.call hb2
    have hW2 := hW0.call hb2
    have hb3 := bthen hb0 hb2
    clear c0 c1 c2 hbx hW0 hb0 HM HR hb2
    have HB := Lib.hid hbx2
    have HW2 := Lib.hid hW2
    have HB3 := Lib.hid hb3
    have HKP := Lib.hid (fun W (h : Below w2.heap.size w2 W) => (HB.out.call h).cells3)
    have hs0 := run_sign0 ⟨T.toArray⟩ M X
    clear hbx2 hW2 hb3
    have p1 : ¬ 9223372036854775807 < m.name.size + T.length := by omega
    have p2 : ¬ 9223372036854775807 < m.name.size + T.length + 1 := by omega
    have p3 : ¬ 9223372036854775807 < m.name.size + T.length + 1 + J.length := by omega
    have p4 : ¬ 9223372036854775807 < m.name.size + T.length + 1 + J.length + 1 := by omega
    clear hsg hjl q2 q3 q4
    go_region_held3 (fun w' => w'.cell? ⟨w.heap.size, 0, none⟩ = some (.string m.name) ∧ w'.cell? ⟨w.heap.size, 1, none⟩ = some (.int .i64 m.how) ∧ w'.cell? ⟨w.heap.size, 2, none⟩ = some (.slice a m.words.length c))
      (first | exact HKP.out _ (bthen (bthen (Below.refl _ _).drew hbs) hbj) | exact HKP.out _ (bthen (bthen (Below.refl _ _).drew hbj) hbs) | exact HKP.out _ (bthen (Below.refl _ _).drew hbs) | exact HKP.out _ (bthen (Below.refl _ _).drew hbj) | exact HKP.out _ (Below.refl _ _).drew)
      (first
      | (go_at_call 25; (with_reducible refine (signs_any _).mono ?_); rintro e ws ⟨rfl, hm, hbs⟩; (first | (have hlk := HL.out ws wj.heap.size hm) | (have hlk := HL.out ws w2.heap.size hm)))
      | (go_at_call 35; (with_reducible refine (HJ.out _ ?_).mono ?_); (first | exact (HW2.out.drew.call hbs) | exact HW2.out.drew); rintro e wj ⟨rfl, hbj⟩; (try have hlj := HL.out wj w2.heap.size (map_call hm hbj))))
    all_goals
      go_wp2_with fail
      go_ret2
      first
      | exact ⟨rfl, bthen (bthen HB3.out.drew hbs) hbj⟩
      | exact ⟨rfl, bthen (bthen HB3.out.drew hbj) hbs⟩
end Go.Proofs.YtjkmnanadeffnaaDoor
