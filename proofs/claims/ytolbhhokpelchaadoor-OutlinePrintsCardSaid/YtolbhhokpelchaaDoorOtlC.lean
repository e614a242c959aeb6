/- The contracts of outline.unquoted and outline.readFlat. -/
import Derived.Test.YtolbhhokpelchaaDoorOtlM
import Derived.Test.YtolbhhokpelchaaDoorOutP
import Derived.Test.YtolbhhokpelchaaDoorOutN
import Derived.Test.YtolbhhokpelchaaDoorShelf
namespace Go.Proofs.YtolbhhokpelchaaDoor
open Go.RowKit

theorem oCutPre_any (s p : ByteArray) (w : World) : Calls Tryd.prog 80 #[.string s, .string p] w fun e w' => e = .returned (.tuple #[.string (bytesA (Lib.trimPrefix s.data.toList p.data.toList)), .bool (Lib.hasPrefix s.data.toList p.data.toList)]) ∧ w = w' :=
  (Tryd.strings_CutPrefix s p w).mono fun _ _ h => ⟨h.1, h.2.symm⟩
theorem oTrimSuf_any (s p : ByteArray) (w : World) (hs : s.size ≤ maxLen) : Calls Tryd.prog 19 #[.string s, .string p] w fun e w' => e = .returned (.string (bytesA (Lib.trimSuffix s.data.toList p.data.toList))) ∧ w = w' :=
  (Tryd.strings_TrimSuffix s p w (by unfold maxLen at hs; omega)).mono fun _ _ h => ⟨h.1, h.2.symm⟩
theorem bA_list (l : Bs) : (bytesA l).data.toList = l := rfl
theorem bA_size (l : Bs) : (bytesA l).size = l.length := List.size_toArray
theorem bA_of (s : ByteArray) : bytesA s.data.toList = s := bytes_ext rfl
theorem trimSuf_le (l p : Bs) : (Lib.trimSuffix l p).length ≤ l.length := by
  unfold Lib.trimSuffix
  split
  · rw [List.length_take]; omega
  · exact Nat.le_refl _
theorem trimPre_le (l p : Bs) : (Lib.trimPrefix l p).length ≤ l.length := by
  unfold Lib.trimPrefix
  split
  · rw [List.length_drop]; omega
  · exact Nat.le_refl _
theorem unqL_esc (l : Bs) (k : Nat) (h : k + 1 < l.length) (hc : l[k] = 92) : unqL (l.drop k) = l[k + 1] :: unqL (l.drop (k + 2)) := by
  rw [List.drop_eq_getElem_cons (show k < l.length by omega), List.drop_eq_getElem_cons h, unqL, if_pos hc]
theorem unqL_plain (l : Bs) (k : Nat) (h : k < l.length) (hc : l[k] ≠ 92 ∨ k + 1 = l.length) : unqL (l.drop k) = l[k] :: unqL (l.drop (k + 1)) := by
  rw [List.drop_eq_getElem_cons h]
  by_cases h1 : k + 1 < l.length
  · rw [List.drop_eq_getElem_cons h1, unqL, if_neg (by rcases hc with h | h; exact h; omega)]
  · rw [List.drop_eq_nil_of_le (by omega)]
    rfl
theorem unqL_len : ∀ (l : Bs), (unqL l).length ≤ l.length
  | [] => Nat.le_refl _
  | [c] => Nat.le_refl _
  | c :: d :: s => by
    rw [unqL]
    split
    · have := unqL_len s
      simp only [List.length_cons]; omega
    · have := unqL_len (d :: s)
      simp only [List.length_cons] at this ⊢; omega

set_option maxHeartbeats 1600000 in
set_option maxRecDepth 100000 in
theorem unquoted_any (s : ByteArray) (w : World) (hs : s.size ≤ 1000000) :
    Calls Tryd.prog 99 #[.string s] w (StrB (bytesA (unqS s.data.toList)) w) := by
  obtain ⟨i0, hi, hz0, hz1, hz2⟩ := info_partsQ Tryd.infoQ
  have h1 := fun W => oCutPre_any s ⟨#[34]⟩ W
  obtain ⟨B, hB⟩ : ∃ B, Lib.hasPrefix s.data.toList [34] = B := ⟨_, rfl⟩
  obtain ⟨T, hT⟩ : ∃ T, bytesA (Lib.trimPrefix s.data.toList [34]) = T := ⟨_, rfl⟩
  obtain ⟨U, hU⟩ : ∃ U, bytesA (unqS s.data.toList) = U := ⟨_, rfl⟩
  have hTs : T.size ≤ 1000000 := by
    rw [← hT, bA_size]
    have := trimPre_le s.data.toList [34]
    rw [lenB] at this
    omega
  have h2 := fun W => oTrimSuf_any T ⟨#[34]⟩ W (by unfold maxLen; omega)
  obtain ⟨V, hV⟩ : ∃ V, bytesA (Lib.trimSuffix T.data.toList [34]) = V := ⟨_, rfl⟩
  have hVs : V.size ≤ 1000000 := by
    rw [← hV, bA_size]
    have := trimSuf_le T.data.toList [34]
    rw [lenB] at this
    omega
  have hUV : U = if B then bytesA (unqL V.data.toList) else s := by
    rw [← hU, unqS, hB, ← hV, bA_list, ← hT, bA_list]
    split
    · rfl
    · exact bA_of s
  rw [show (⟨#[34]⟩ : ByteArray).data.toList = [34] from rfl] at h1 h2
  rw [hB, hT] at h1
  rw [hV] at h2
  rw [hU]
  have H1 := Lib.hid h1
  have H2 := Lib.hid h2
  have HUV := Lib.hid hUV
  clear h1 h2 hUV hB hT hU hV hTs
  go_enter Tryd.func99, Tryd.ntmps99
  cases B with
  | false =>
    obtain rfl : U = s := HUV.out
    go_wp2_with (go_at_call 80; refine (H1.out _).mono ?_; rintro e w2 ⟨rfl, rfl⟩)
    go_ret
    exact ⟨rfl, Below.refl _ _⟩
  | true =>
    have HU2 : Hid (U = bytesA (unqL V.data.toList)) := HUV
    have hnil : OwnB 5 w w.heap.size (.slice none 0 0) [] := World.ownsRow_nil _ _ _ _
    clear HUV
    go_wp2_with (first
      | (go_at_call 80; refine (H1.out _).mono ?_; rintro e w2 ⟨rfl, rfl⟩)
      | (go_at_call 19; refine (H2.out _).mono ?_; rintro e w2 ⟨rfl, rfl⟩))
    go_loopw [5, 6] (fun u i wr => ∃ (k : Nat) (L : Bs), k ≤ V.size ∧ i = .int .i64 k ∧ OwnB 5 wr w.heap.size u L ∧ Hid (L ++ unqL (V.data.toList.drop k) = unqL V.data.toList) ∧ Below w.heap.size w wr ∧ w.heap.size ≤ wr.heap.size) (fun _ i _ => V.size - (intOf i).toNat)
    case atStart => exact ⟨0, [], Nat.zero_le _, rfl, hnil, Lib.hid rfl, Below.refl _ _, Nat.le_refl _⟩
    case round =>
      clear hnil H1 H2
      obtain ⟨k, L, hk, rfl, hown, HL, hb, hz⟩ := hrel
      have hlen : L.length ≤ 2000000 := by
        have h1 := congrArg List.length HL.out
        have h2 := unqL_len V.data.toList
        rw [List.length_append] at h1
        rw [lenB] at h2
        omega
      by_cases hks : k < V.size
      · by_cases hesc : V[k] = 92 ∧ k + 1 < V.size
        · obtain ⟨h92, hk1⟩ := hesc
          have hstep := unqL_esc V.data.toList k (by rw [lenB]; exact hk1) h92
          have HL2 : Hid ((L ++ [V[k + 1]]) ++ unqL (V.data.toList.drop (k + 2)) = unqL V.data.toList) := Lib.hid (by rw [← HL.out, hstep]; simp; rfl)
          have t1 : ((V[k].toNat : Int) == 92) = true := by rw [is92_iff] at h92; rw [beq_iff_eq]; omega
          have t2 : decide ((k : Int) + 1 < (V.size : Int)) = true := decide_eq_true (by omega)
          clear hstep h92 HL
          go_wp2_with (at_builtin; refine (wpList_pushB wr rfl _ _ 48 rfl w.heap.size 5 i0 (.int .u8 0) Tryd.underlying48 hi hz0 hz1 hz2 rfl _ L [V[k + 1]] rfl (by assumption) [.int .u8 (V[k + 1].toNat : Int)] 1 rfl rfl rfl (by simp; omega) (by assumption) ?_))
          intro v3 w3 hown3 hg3
          have hb3 : Below w.heap.size w w3 := hown.grown hb hz hg3
          have hz3' := Nat.le_trans hz hg3.size
          clear hown hg3 hb hz
          go_wp2
          go_roundw
          case rel => exact ⟨k + 2, _, by omega, by go_num, hown3, HL2, hb3, hz3'⟩
          case measure => simp [intOf]; omega
        · have hor : V.data.toList[k]'(by rw [lenB]; exact hks) ≠ 92 ∨ k + 1 = V.data.toList.length := by
            by_cases h : V[k] = 92
            · exact .inr (by have : ¬ k + 1 < V.size := fun h2 => hesc ⟨h, h2⟩; rw [lenB]; omega)
            · exact .inl h
          have hstep := unqL_plain V.data.toList k (by rw [lenB]; exact hks) hor
          have HL2 : Hid ((L ++ [V[k]]) ++ unqL (V.data.toList.drop (k + 1)) = unqL V.data.toList) := Lib.hid (by rw [← HL.out, hstep]; simp; rfl)
          have ht : ((V[k].toNat : Int) == 92) = false ∨ ((V[k].toNat : Int) == 92) = true ∧ decide ((k : Int) + 1 < (V.size : Int)) = false := by
            by_cases h : V[k] = 92
            · refine .inr ⟨by rw [is92_iff] at h; rw [beq_iff_eq]; omega, decide_eq_false ?_⟩
              have : ¬ k + 1 < V.size := fun h2 => hesc ⟨h, h2⟩
              omega
            · rw [is92_iff] at h
              exact .inl (by rw [beq_eq_false_iff_ne]; omega)
          clear hstep hor HL hesc
          rcases ht with t1 | ⟨t1, t2⟩
          all_goals
            go_wp2_with (at_builtin; refine (wpList_pushB wr rfl _ _ 48 rfl w.heap.size 5 i0 (.int .u8 0) Tryd.underlying48 hi hz0 hz1 hz2 rfl _ L [V[k]] rfl (by assumption) [.int .u8 (V[k].toNat : Int)] 1 rfl rfl rfl (by simp; omega) (by assumption) ?_))
            intro v3 w3 hown3 hg3
            have hb3 : Below w.heap.size w w3 := hown.grown hb hz hg3
            have hz3' := Nat.le_trans hz hg3.size
            clear hown hg3 hb hz
            go_wp2
            go_roundw
            case rel => exact ⟨k + 1, _, by omega, by go_num, hown3, HL2, hb3, hz3'⟩
            case measure => simp [intOf]; omega
      · have hkk : k = V.size := by omega
        have hfin : U = ⟨L.toArray⟩ := by
          have h := HL.out
          rw [List.drop_eq_nil_of_le (by rw [lenB]; omega), unqL, List.append_nil] at h
          rw [HU2.out, ← h]
          rfl
        have HF := Lib.hid hfin
        have hst := OwnB.str hown Tryd.underlying48 Tryd.underlying5 Tryd.underlying9
        clear hfin hown HL hkk
        go_wp2
        go_ret
        exact ⟨by rw [HF.out]; rfl, hb⟩

/-- what readFlat answers -/
def FlatP (o : Option Nd) (w : World) (e : Ending) (w' : World) : Prop :=
  Below w.heap.size w w' ∧ match o with
    | some n => e = .returned (.agg #[.int .i64 n.kind, .string n.word, .slice none 0 0, .slice none 0 0])
    | none => e = .panicked [lineP]
theorem flatI_is {s : Bs} {n : Nd} (h : flatI s = some n) : n.names = [] ∧ n.items = [] ∧ 1 ≤ n.kind ∧ n.kind ≤ 3 ∧ (n.kind = 1 → owC n.word.data.toList = true) ∧ (n.kind ≠ 1 → n.word = ⟨#[]⟩) := by
  unfold flatI at h
  split at h
  · split at h
    · cases h; exact ⟨rfl, rfl, by decide, by decide, fun e => absurd e (by decide), fun _ => rfl⟩
    · split at h
      · cases h; exact ⟨rfl, rfl, by decide, by decide, fun e => absurd e (by decide), fun _ => rfl⟩
      · split at h
        · rename_i h2
          cases h
          rw [Bool.and_eq_true] at h2
          exact ⟨rfl, rfl, by show (1 : Int) ≤ 1; decide, by show (1 : Int) ≤ 3; decide, fun _ => h2.1, fun e => absurd rfl e⟩
        · cases h
  · cases h
theorem below_set4N {B : Nat} {w0 w : World} {g : Nat} (h : Below B w0 w) (hg : B ≤ g) (a b c d : Value) : Below B w0 ((((w.setCell ⟨g, 0, none⟩ a).setCell ⟨g, 1, none⟩ b).setCell ⟨g, 2, none⟩ c).setCell ⟨g, 3, none⟩ d) := (((h.setCell hg a).setCell hg b).setCell hg c).setCell hg d
theorem Blk.set4N {w : World} {g : Nat} {t : TypeId} {x y z u : Value} (h : Blk w g t #[x, y, z, u]) (a b c d : Value) : Blk ((((w.setCell ⟨g, 0, none⟩ a).setCell ⟨g, 1, none⟩ b).setCell ⟨g, 2, none⟩ c).setCell ⟨g, 3, none⟩ d) g t #[a, b, c, d] := (((h.set 0 a).set 1 b).set 2 c).set 3 d
theorem results_cellN {P : Program} {fn : Func} {p : Tmp} {ty : TypeId} (h : fn.results = #[.cell p ty]) (tmps : Array Value) (w : World) (g : Nat) (t : TypeId) (cs : Array Value) (fr : Nat × Nat) (d : TypeDesc)
    (hp : tmps.getD p undef = .pointer (some ⟨g, 0, none⟩)) (hg : w.heap[g]? = some (.cells cs t fr))
    (hu : P.underlying ty = some d) (hd : (match d with | .struct _ | .array _ _ => true | _ => false) = true) (hi : (P.info? ty).map (·.size) = some cs.size) :
    (results fn tmps).run P w = .ok (.agg cs) w := by
  have hp' : tmps[p]?.getD undef = .pointer (some ⟨g, 0, none⟩) := by simpa using hp
  simp [results, h, hp', asAddr, run_loadVar_row w g t ty cs fr d hg hu hd hi]
end Go.Proofs.YtolbhhokpelchaaDoor
