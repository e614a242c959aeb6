/- The sort of a row of labels by their names. -/
import Derived.Test.YtdlhmjdjoadioabGreatDoorMg1
import Derived.Test.YtdlhmjdjoadioabGreatDoorZLabF
import Derived.Test.YtdlhmjdjoadioabGreatDoorSortF
import Derived.Shelf.SlSortCmp.NoneTotal
namespace Go.Proofs.YtdlhmjdjoadioabGreatDoor
open Go.RowKit Go.Sort Go.Lib Go.Shelf

def encL (l : Lab) : List Value := [.string l.1, .string l.2]
theorem flat_labs (ls : List Lab) : flatK encL 2 ls.toArray = (labsV ls).toArray := by
  refine ext_get! (by simp [labsV_len]) fun t ht => ?_
  have ht' : t < ls.length * 2 := by simpa using ht
  rw [get_flatK _ _ _ t (by simpa using ht')]
  have hi : t / 2 < ls.length := by omega
  obtain ⟨g1, g2⟩ := labsV_get ls (t / 2) hi
  have e0 : (ls.toArray[t / 2]!) = ls[t / 2] := by simp [hi]
  rw [e0]
  rcases Nat.mod_two_eq_zero_or_one t with h | h
  · rw [h]
    have : (labsV ls).toArray[t]! = .string ls[t / 2].1 := by
      have e1 : t / 2 * 2 = t := by omega
      rw [e1] at g1
      simp [Array.getElem!_eq_getD, Array.getD_eq_getD_getElem?, g1]
    rw [this]; rfl
  · rw [h]
    have : (labsV ls).toArray[t]! = .string ls[t / 2].2 := by
      have e1 : t / 2 * 2 + 1 = t := by omega
      rw [e1] at g2
      simp [Array.getElem!_eq_getD, Array.getD_eq_getD_getElem?, g2]
    rw [this]; rfl
theorem OwnL.holds {T : TypeId} {w : World} {base g cap : Nat} {ls : List Lab} (h : OwnL T w base (.slice (some ⟨g, 0, none⟩) ls.length cap) ls) : HoldsK encL 2 w g 0 ls.toArray := by
  intro j hj
  rw [flat_labs] at hj ⊢
  have hj' : j < (labsV ls).length := by simpa using hj
  rcases h.2 with ⟨hv, _⟩ | ⟨g1, c1, cur, hv, hb, hg, hn, hm, hcs, ht⟩
  · cases hv
  · simp only [Value.slice.injEq, Option.some.injEq, Addr.mk.injEq] at hv
    obtain ⟨⟨rfl, _, _⟩, _, rfl⟩ := hv
    refine ⟨?_, ?_⟩
    · rw [Nat.zero_add, World.ownsRow.cellAt h j (by rw [← labsV_len]; exact hj')]
      simp [hj']
    · simp [World.frozen?, hg]
theorem grown_sorted {w : World} {g n : Nat} {os : Array Obj} (d : Array Lab) : w.grownBy (grow (putRowK encL 2 (Sort.ahead w n) g 0 d) os) (some g) := by
  refine ⟨rfl, rfl, rfl, by simp [putRowK], fun k hk hne => ?_⟩
  rw [heap_grow_old _ _ (by simpa [putRowK] using hk)]
  have : g ≠ k := fun e => hne (by rw [e])
  simp [putRowK, putRow, mapBlock, Sort.ahead, Array.getElem?_modify, this]
theorem swo_cmp : SWO (ltOf cmpL) := by
  have e : ltOf cmpL = ltL := by funext a b; rw [ltL_cmp]; rfl
  rw [e]
  exact ⟨ltL_irrefl, fun _ _ _ h g => ltL_trans h g, fun _ _ _ h g => ltL_ntrans h g⟩
theorem lt_cmp (a b : Lab) : ltOf cmpL a b = ltL a b := by rw [ltL_cmp]; rfl
theorem order_lays (blk off size : Nat) (w : World) : CmpLays Tryz.prog 59 #[] encL 2 cmpL blk off size w := by
  intro m os dk _ x y
  refine (order_any x y _).mono fun e w' ⟨he, os', hw⟩ => ⟨he, 0, os', ?_⟩
  rw [hw]; rfl
theorem bits_len (n : Nat) (W : World) (h : n ≤ 12) : Calls Tryz.prog 105 #[.int .u64 n] W fun e w' => (∃ l : Int, e = .returned (.int .i64 l)) ∧ w' = W :=
  (Tryz.bits_Len n W (by omega) (by omega)).mono fun _ _ ⟨he, hw⟩ => ⟨⟨_, he⟩, hw⟩

def SortPost (base g cap : Nat) (ls : List Lab) (w : World) (e : Ending) (w' : World) : Prop :=
  e = .returned (.tuple #[]) ∧ ∃ out, out.Perm ls ∧ WS out ∧ HasLabs w' (some ⟨g, 0, none⟩) cap out ∧ Below base w w' ∧ w.heap.size ≤ w'.heap.size
theorem sort_any (base g cap : Nat) (ls : List Lab) (w : World) (h : OwnL 88 w base (.slice (some ⟨g, 0, none⟩) ls.length cap) ls) (h8 : ls.length ≤ 8) (hs : ∀ l ∈ ls, l.1.size ≤ maxLen ∧ l.2.size ≤ maxLen) :
    Calls Tryz.prog 88 #[.slice (some ⟨g, 0, none⟩) ls.length cap, .func (.func 59) #[] #[]] w (SortPost base g cap ls w) := by
  have eg : ∀ args w, (callFunc 59 args).run Tryz.prog w = .ok (.enter 59 args) w := enters_of Tryz.func59 (by kernel_rfl) rfl
  have hH := h.holds
  obtain ⟨hg, hbg, hlc, hcm⟩ : g < w.heap.size ∧ base ≤ g ∧ ls.length ≤ cap ∧ cap ≤ maxLen := by
    rcases h.2 with ⟨hv, _⟩ | ⟨g1, c1, cur, hv, hb, hg, hn, hm, _⟩
    · cases hv
    · simp only [Value.slice.injEq, Option.some.injEq, Addr.mk.injEq] at hv
      obtain ⟨⟨rfl, _, _⟩, _, rfl⟩ := hv
      exact ⟨lt_of_block hg, hb, hn, hm⟩
  have hcon := AnyQ.slices_SortFunc_small Tryz.sortEntries 2 Tryz.isAgg88 Tryz.sizeOf88 encL (fun _ => rfl) (fun x v hv => by simp [encL] at hv; rcases hv with rfl | rfl <;> rfl) cmpL 59 #[] g 0 cap ls.toArray w eg (order_lays g 0 _ w) hH hg (by simpa using (by omega : ls.length ≤ 12)) bits_len
  refine (show Calls Tryz.prog 88 _ _ _ from hcon).mono fun e w' ⟨he, n, os, hw⟩ => ⟨he, ?_⟩
  have hins := insertionSort_holds (lt := ltOf cmpL) swo_cmp ls.toArray 0 ls.toArray.size (Nat.zero_le _) (Nat.le_refl _)
  obtain ⟨⟨hsz, _, hperm⟩, hsorted⟩ := hins
  generalize Sort.insertionSort (ltOf cmpL) ls.toArray 0 ls.toArray.size = d at *
  have hd : d.size = ls.length := by simpa using hsz
  have hp : d.toList.Perm ls := by
    have e1 : (d.extract 0 ls.toArray.size).toList = d.toList := by rw [← hsz]; simp
    have e2 : (ls.toArray.extract 0 ls.toArray.size).toList = ls := by simp
    rwa [e1, e2] at hperm
  have hws : WS d.toList := by
    refine List.pairwise_iff_getElem.2 fun i j hi hj hij => ?_
    have hi' : i < d.size := by simpa using hi
    have hj' : j < d.size := by simpa using hj
    have h1 := hsorted i j (Nat.zero_le _) hij (by rw [← hsz]; exact hj')
    rw [lt_cmp, getElem!_pos d j hj', getElem!_pos d i hi'] at h1
    simpa using h1
  have hgr := grown_sorted (w := w) (g := g) (n := n) (os := os) d
  have hH' : HoldsK encL 2 w' g 0 d := by
    rw [hw]
    exact holdsK_grow encL 2 _ os g 0 d (by simpa [putRowK] using hg) (holdsK_putRowK encL 2 _ g 0 ls.toArray d (holdsK_ahead encL 2 w n g 0 ls.toArray hH) hsz)
  rw [show sortWorldK encL 2 w g 0 n d os = grow (putRowK encL 2 (Sort.ahead w n) g 0 d) os from rfl] at hw
  rw [← hw] at hgr
  refine ⟨d.toList, hp, hws, ⟨by simpa [hd] using hlc, hcm, fun l hl => hs l (hp.subset hl), .inr ⟨g, 0, rfl, Nat.lt_of_lt_of_le hg hgr.size, fun i hi => ?_⟩⟩, ⟨hgr.os, hgr.tape, hgr.output, hgr.size, fun k hk => hgr.block k (by omega) (fun e => by cases e; omega)⟩, hgr.size⟩
  have hi' : i < d.size := by simpa using hi
  have c0 := (hH'.cell hi' (show 0 < 2 by omega)).1
  have c1 := (hH'.cell hi' (show 1 < 2 by omega)).1
  rw [getElem!_pos d i hi'] at c0 c1
  exact ⟨by simpa [encL] using c0, by simpa [encL] using c1⟩
theorem sort_none (a : Option Addr) (cap : Nat) (fv : Value) (w : World) :
    Calls Tryz.prog 88 #[.slice a 0 cap, fv] w fun e w' => e = .returned (.tuple #[]) ∧ w' = w :=
  AnyF.slices_SortFunc_none Tryz.sortEntries a cap fv w
end Go.Proofs.YtdlhmjdjoadioabGreatDoor
