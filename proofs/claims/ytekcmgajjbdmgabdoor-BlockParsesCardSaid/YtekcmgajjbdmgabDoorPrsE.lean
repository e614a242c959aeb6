/- The contract of block.within where a key is there already, or is one too many. -/
import Derived.Test.YtekcmgajjbdmgabDoorPrsD
namespace Go.Proofs.YtekcmgajjbdmgabDoor
open Go.RowKit

theorem last_at {α : Type} (l : List α) (z : α) (h : l.getLast? = some z) : ∃ i, ∃ hi : i < l.length, l.length = i + 1 ∧ l[i] = z := by
  have e := drop_last l z h
  have hl : l.length = l.dropLast.length + 1 := by
    have := congrArg List.length e
    simpa using this
  refine ⟨l.dropLast.length, by omega, hl, ?_⟩
  have : l[l.dropLast.length]? = some z := by rw [e]; simp
  rw [List.getElem?_eq_getElem (by omega)] at this
  exact Option.some.inj this
theorem getLast_map {α β : Type} (f : α → β) (l : List α) (y : β) (h : (l.map f).getLast? = some y) : ∃ z, l.getLast? = some z ∧ f z = y := by
  rw [List.getLast?_map] at h
  cases hl : l.getLast? with
  | none => rw [hl] at h; cases h
  | some z => rw [hl] at h; exact ⟨z, rfl, Option.some.inj h⟩

set_option maxHeartbeats 6400000 in
set_option maxRecDepth 100000 in
theorem within_full (rb B0 : Nat) (f : Value) (ds : List Dfn) (d : Dfn) (s : ByteArray) (k v : Bs) (w : World) (h : RdS w rb B0 f ds) (hm : MaxC w) (hs : s.size ≤ 100000) (hne : s ≠ ⟨#[125, 10]⟩) (hl : ds.getLast? = some d) (h64 : ds.length ≤ 64)
    (hk : withD s.data.toList = some (k, v)) (hno : memB (bytesA k) d.keys = true ∨ d.keys.length = 64) :
    Calls Tryd.prog 46 #[.pointer (some ⟨rb, 0, none⟩), .string s] w fun e w' => e = .returned .nilFunc ∧ Below w.heap.size w w' := by
  have hq := strNe2 s hne
  obtain ⟨⟨S, B, K, V, E, G, F⟩, h1, h2, h3, h4, h5, h6⟩ := wline s hs
  rw [h6] at hk
  have hw := fun W => bWord_any K W h4
  have hv := fun W => bValue_any V W h5
  simp only at h1 h2 h3 hk hw hv
  obtain ⟨P, e⟩ : (E = true ∧ G = true ∧ bwC K.data.toList = true ∧ bvC V.data.toList = true) ∧ (K.data.toList, V.data.toList) = (k, v) := by
    split at hk
    · rename_i hh
      exact ⟨hh, Option.some.inj hk⟩
    · cases hk
  obtain ⟨rfl, rfl, p3, p4⟩ := P
  simp only [Prod.mk.injEq] at e
  obtain ⟨rfl, rfl⟩ := e
  rw [bytesA_of] at hno
  rw [p3] at hw
  rw [p4] at hv
  have H1 := Lib.hid h1
  have H2 := Lib.hid h2
  have H3 := Lib.hid (h3 w hm)
  have HW := Lib.hid hw
  have HV := Lib.hid hv
  have HR := Lib.hid h
  clear h1 h2 h3 h4 h5 h6 hw hv hk p3 p4 hne h hm
  go_enter Tryd.func46, Tryd.ntmps46
  go_upto_region 8 with (first | (go_at_call 44; refine (H1.out _).mono ?_; rintro e w2 ⟨rfl, rfl⟩) | (go_at_call 43; refine (H2.out _).mono ?_; rintro e w3 ⟨rfl, rfl⟩) | (go_at_call 34; refine H3.out.mono ?_; rintro e w4 ⟨rfl, hb4⟩) | (go_at_call 45; refine (HW.out _).mono ?_; rintro e w5 ⟨rfl, rfl⟩) | (go_at_call 66; refine (HV.out _).mono ?_; rintro e w6 ⟨rfl, rfl⟩))
  obtain ⟨vv, qs, lo, rfl, hblk, hrb, hown, hl1, hl2, hrows⟩ := HR.out.call hb4
  obtain ⟨q, hql, rfl⟩ := getLast_map _ qs d hl
  obtain ⟨i, hi, hlen, hqi⟩ := last_at qs q hql
  obtain ⟨a, c, hvv, hds⟩ := hown.defs fun q hq => ((hrows.all hl2) q hq).1.1
  subst hvv
  obtain ⟨g, rfl, hgb, hgl, _, hnc, hcm, d0, d1, d2, _⟩ := hown.at i hi
  have hkeys := ((hrows.2 q hql).okT.1).1.1
  have hcon := fun n => contains_any _ _ _ K (w4.drewN n) (show HasStrs (w4.drewN n) q.ka q.kc q.d.keys from hkeys)
  rw [hqi] at d0 d1 d2
  have c0 : w4.cell? ⟨rb, 0, none⟩ = some (.slice (some ⟨g, 0, none⟩) qs.length c) := hblk.cell 0
  rw [hlen] at c0 hnc
  have hi64 : i < 64 := by simp at h64; omega
  have e1 : ((i + 1 : Nat) : Int) = (i : Int) + 1 := by omega
  have e2 : IntKind.i64.wrap ((i : Int) + 1 - 1) = (i : Int) := by rw [IntWalk.i64_in _ (by omega)]; omega
  have e3 : (i : Int) + 1 - 1 = (i : Int) := by omega
  have e4 : (0 : Int) < (i : Int) + 1 := by omega
  have e5 : (0 : Int) ≤ (i : Int) := by omega
  have e6 : (i : Int) < (i : Int) + 1 := by omega
  unfold maxLen at hcm
  have HB4 := Lib.hid hb4
  have HC := Lib.hid hcon
  have D1 := Lib.hid d1
  clear hl hblk hown hrows hds hqi hkeys hcon d0 d2 d1 hb4 hql hl1 hl2 HR
  go_quiet (fail)
  clear c0 e1 e2 e3 e4 e5 e6
  have d1 := fun n => (show (w4.drewN n).cell? ⟨g, i * 3 + 1, none⟩ = some (.slice q.ka q.d.keys.length q.kc) from D1.out)
  have hbd := fun n => drawn_below HB4.out n
  have HBD := Lib.hid hbd
  clear hbd
  by_cases hk64 : q.d.keys.length = 64
  · have ht : ((q.d.keys.length : Int) == 64) = true := by rw [hk64]; rfl
    clear hk64 hno
    go_wp2_with fail
    go_ret
    exact ⟨rfl, HBD.out _⟩
  · have ht : ((q.d.keys.length : Int) == 64) = false := beq_eq_false_iff_ne.2 (by omega)
    have hmem := hno.resolve_right hk64
    rw [hmem] at HC
    clear hk64 hno hmem
    go_wp2_with (go_at_call 67; refine (HC.out _).mono ?_; rintro e w7 ⟨rfl, rfl⟩)
    go_ret
    exact ⟨rfl, HBD.out _⟩
end Go.Proofs.YtekcmgajjbdmgabDoor
