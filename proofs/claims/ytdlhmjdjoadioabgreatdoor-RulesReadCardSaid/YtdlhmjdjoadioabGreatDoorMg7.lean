/- The contract of the standard library's slices.SortFunc, laid at this program's own numbers. -/
import Derived.Shelf.SlSortCmp.SmallK
import Derived.Test.YtdlhmjdjoadioabGreatDoorShelf
import Derived.Test.YtdlhmjdjoadioabGreatDoorMg1
import Derived.Test.YtdlhmjdjoadioabGreatDoorZLabF
import Derived.Shelf.SlSortCmp.NoneTotal
namespace Go.Proofs
open Go.Shelf
def Tryz.sortEntries_ren : Go.Shelf.Ren := ⟨fun | 6 => 88 | 15 => 105 | 14 => 104 | 28 => 125 | 29 => 96 | 20 => 117 | 21 => 118 | 22 => 119 | 23 => 120 | 24 => 121 | 25 => 122 | 26 => 123 | 27 => 124 | 46 => 128 | 47 => 129 | 48 => 130 | 49 => 131 | 50 => 132 | 57 => 133 | n => n, fun | 22 => 113 | 24 => 88 | 25 => 115 | 3 => 3 | 39 => 123 | 0 => 0 | 53 => 121 | 55 => 102 | 4 => 4 | 46 => 142 | 45 => 141 | 50 => 146 | 5 => 5 | 9 => 9 | 66 => 152 | 70 => 156 | 76 => 158 | 77 => 159 | n => n, fun | n => n⟩
theorem Tryz.sortEntries : Go.Proofs.SlLaysF0.n6 Tryz.prog Tryz.sortEntries_ren := {
  mixed := by kernel_rfl
  f6 := ⟨Tryz.f88.name, by decide, Tryz.func88.trans (congrArg some (by kernel_rfl))⟩
  f14 := ⟨Tryz.f104.name, by decide, Tryz.func104.trans (congrArg some (by kernel_rfl))⟩
  f15 := Tryz.func105.trans (congrArg some (by kernel_rfl))
  f20 := ⟨Tryz.f117.name, by decide, Tryz.func117.trans (congrArg some (by kernel_rfl))⟩
  f21 := ⟨Tryz.f118.name, by decide, Tryz.func118.trans (congrArg some (by kernel_rfl))⟩
  f22 := ⟨Tryz.f119.name, by decide, Tryz.func119.trans (congrArg some (by kernel_rfl))⟩
  f23 := ⟨Tryz.f120.name, by decide, Tryz.func120.trans (congrArg some (by kernel_rfl))⟩
  f24 := ⟨Tryz.f121.name, by decide, Tryz.func121.trans (congrArg some (by kernel_rfl))⟩
  f25 := ⟨Tryz.f122.name, by decide, Tryz.func122.trans (congrArg some (by kernel_rfl))⟩
  f26 := ⟨Tryz.f123.name, by decide, Tryz.func123.trans (congrArg some (by kernel_rfl))⟩
  f27 := ⟨Tryz.f124.name, by decide, Tryz.func124.trans (congrArg some (by kernel_rfl))⟩
  f28 := Tryz.func125.trans (congrArg some (by kernel_rfl))
  f29 := Tryz.func96.trans (congrArg some (by kernel_rfl))
  f46 := ⟨Tryz.f128.name, by decide, Tryz.func128.trans (congrArg some (by kernel_rfl))⟩
  f47 := Tryz.func129.trans (congrArg some (by kernel_rfl))
  f48 := Tryz.func130.trans (congrArg some (by kernel_rfl))
  f49 := ⟨Tryz.f131.name, by decide, Tryz.func131.trans (congrArg some (by kernel_rfl))⟩
  f50 := ⟨Tryz.f132.name, by decide, Tryz.func132.trans (congrArg some (by kernel_rfl))⟩
  f57 := ⟨Tryz.f133.name, by decide, Tryz.func133.trans (congrArg some (by kernel_rfl))⟩
  t0 := Tryz.underlying0
  a0 := Tryz.isAgg0
  z0 := Tryz.sizeOf0
  v0 := Tryz.zeroValue0
  t3 := Tryz.underlying3
  a3 := Tryz.isAgg3
  z3 := Tryz.sizeOf3
  v3 := Tryz.zeroValue3
  t4 := Tryz.underlying4
  a4 := Tryz.isAgg4
  z4 := Tryz.sizeOf4
  v4 := Tryz.zeroValue4
  t5 := Tryz.underlying5
  a5 := Tryz.isAgg5
  z5 := Tryz.sizeOf5
  v5 := Tryz.zeroValue5
  t9 := Tryz.underlying9
  a9 := Tryz.isAgg9
  z9 := Tryz.sizeOf9
  v9 := Tryz.zeroValue9
  t22 := Tryz.underlying113
  a22 := Tryz.isAgg113
  z22 := Tryz.sizeOf113
  v22 := Tryz.zeroValue113
  t25 := Tryz.underlying115
  a25 := Tryz.isAgg115
  z25 := Tryz.sizeOf115
  v25 := Tryz.zeroValue115
  t39 := Tryz.underlying123
  a39 := Tryz.isAgg123
  z39 := Tryz.sizeOf123
  v39 := Tryz.zeroValue123
  t45 := Tryz.underlying141
  a45 := Tryz.isAgg141
  z45 := Tryz.sizeOf141
  v45 := Tryz.zeroValue141
  t46 := Tryz.underlying142
  a46 := Tryz.isAgg142
  z46 := Tryz.sizeOf142
  v46 := Tryz.zeroValue142
  t50 := Tryz.underlying146
  a50 := Tryz.isAgg146
  z50 := Tryz.sizeOf146
  v50 := Tryz.zeroValue146
  t53 := Tryz.underlying121
  a53 := Tryz.isAgg121
  z53 := Tryz.sizeOf121
  v53 := Tryz.zeroValue121
  t55 := Tryz.underlying102
  a55 := Tryz.isAgg102
  z55 := Tryz.sizeOf102
  v55 := Tryz.zeroValue102
  t66 := Tryz.underlying152
  a66 := Tryz.isAgg152
  z66 := Tryz.sizeOf152
  v66 := Tryz.zeroValue152
  t70 := Tryz.underlying156
  a70 := Tryz.isAgg156
  z70 := Tryz.sizeOf156
  v70 := Tryz.zeroValue156
  t76 := Tryz.underlying158
  a76 := Tryz.isAgg158
  z76 := Tryz.sizeOf158
  v76 := Tryz.zeroValue158
  t77 := Tryz.underlying159
  a77 := Tryz.isAgg159
  z77 := Tryz.sizeOf159
  v77 := Tryz.zeroValue159 }
end Go.Proofs
/- The sort of a row of labels by their names. -/
namespace Go.Proofs.YtdlhmjdjoadioabGreatDoor
open Go.RowKit Go.Sort Go.Lib Go.Shelf

def encL (l : Lab) : List Value := [.string l.1, .string l.2]
theorem flat_labs (ls : List Lab) : flatK encL 2 ls.toArray = (labsV ls).toArray := by
  refine ext_get! (by simp [labsV_len]) fun t ht => ?_
  have ht' : t < ls.length * 2 := by simpa using ht
  rw [get_flatK _ _ _ t (by simpa using ht')]
  have hi : t / 2 < ls.length := by omega
  obtain ⟨g1, g2⟩ := labsV_get ls (t / 2) hi
  have e0 : (ls.toArray[t / 2]!) = ls[t / 2] := by simp [hi]
  rw [e0]
  rcases Nat.mod_two_eq_zero_or_one t with h | h
  · rw [h]
    have : (labsV ls).toArray[t]! = .string ls[t / 2].1 := by
      have e1 : t / 2 * 2 = t := by omega
      rw [e1] at g1
      simp [Array.getElem!_eq_getD, Array.getD_eq_getD_getElem?, g1]
    rw [this]; rfl
  · rw [h]
    have : (labsV ls).toArray[t]! = .string ls[t / 2].2 := by
      have e1 : t / 2 * 2 + 1 = t := by omega
      rw [e1] at g2
      simp [Array.getElem!_eq_getD, Array.getD_eq_getD_getElem?, g2]
    rw [this]; rfl
theorem OwnL.holds {T : TypeId} {w : World} {base g cap : Nat} {ls : List Lab} (h : OwnL T w base (.slice (some ⟨g, 0, none⟩) ls.length cap) ls) : HoldsK encL 2 w g 0 ls.toArray := by
  intro j hj
  rw [flat_labs] at hj ⊢
  have hj' : j < (labsV ls).length := by simpa using hj
  rcases h.2 with ⟨hv, _⟩ | ⟨g1, c1, cur, hv, hb, hg, hn, hm, hcs, ht⟩
  · cases hv
  · simp only [Value.slice.injEq, Option.some.injEq, Addr.mk.injEq] at hv
    obtain ⟨⟨rfl, _, _⟩, _, rfl⟩ := hv
    refine ⟨?_, ?_⟩
    · rw [Nat.zero_add, World.ownsRow.cellAt h j (by rw [← labsV_len]; exact hj')]
      simp [hj']
    · simp [World.frozen?, hg]
theorem grown_sorted {w : World} {g n : Nat} {os : Array Obj} (d : Array Lab) : w.grownBy (grow (putRowK encL 2 (Sort.ahead w n) g 0 d) os) (some g) := by
  refine ⟨rfl, rfl, rfl, by simp [putRowK], fun k hk hne => ?_⟩
  rw [heap_grow_old _ _ (by simpa [putRowK] using hk)]
  have : g ≠ k := fun e => hne (by rw [e])
  simp [putRowK, putRow, mapBlock, Sort.ahead, Array.getElem?_modify, this]
theorem swo_cmp : SWO (ltOf cmpL) := by
  have e : ltOf cmpL = ltL := by funext a b; rw [ltL_cmp]; rfl
  rw [e]
  exact ⟨ltL_irrefl, fun _ _ _ h g => ltL_trans h g, fun _ _ _ h g => ltL_ntrans h g⟩
theorem lt_cmp (a b : Lab) : ltOf cmpL a b = ltL a b := by rw [ltL_cmp]; rfl
theorem order_lays (blk off size : Nat) (w : World) : CmpLays Tryz.prog 59 #[] encL 2 cmpL blk off size w := by
  intro m os dk _ x y
  refine (order_any x y _).mono fun e w' ⟨he, os', hw⟩ => ⟨he, 0, os', ?_⟩
  rw [hw]; rfl
theorem bits_len (n : Nat) (W : World) (h : n ≤ 12) : Calls Tryz.prog 105 #[.int .u64 n] W fun e w' => (∃ l : Int, e = .returned (.int .i64 l)) ∧ w' = W :=
  (Tryz.bits_Len n W (by omega) (by omega)).mono fun _ _ ⟨he, hw⟩ => ⟨⟨_, he⟩, hw⟩

def SortPost (base g cap : Nat) (ls : List Lab) (w : World) (e : Ending) (w' : World) : Prop :=
  e = .returned (.tuple #[]) ∧ ∃ out, out.Perm ls ∧ WS out ∧ HasLabs w' (some ⟨g, 0, none⟩) cap out ∧ Below base w w' ∧ w.heap.size ≤ w'.heap.size
theorem sort_any (base g cap : Nat) (ls : List Lab) (w : World) (h : OwnL 88 w base (.slice (some ⟨g, 0, none⟩) ls.length cap) ls) (h8 : ls.length ≤ 8) (hs : ∀ l ∈ ls, l.1.size ≤ maxLen ∧ l.2.size ≤ maxLen) :
    Calls Tryz.prog 88 #[.slice (some ⟨g, 0, none⟩) ls.length cap, .func (.func 59) #[] #[]] w (SortPost base g cap ls w) := by
  have eg : ∀ args w, (callFunc 59 args).run Tryz.prog w = .ok (.enter 59 args) w := enters_of Tryz.func59 (by kernel_rfl) rfl
  have hH := h.holds
  obtain ⟨hg, hbg, hlc, hcm⟩ : g < w.heap.size ∧ base ≤ g ∧ ls.length ≤ cap ∧ cap ≤ maxLen := by
    rcases h.2 with ⟨hv, _⟩ | ⟨g1, c1, cur, hv, hb, hg, hn, hm, _⟩
    · cases hv
    · simp only [Value.slice.injEq, Option.some.injEq, Addr.mk.injEq] at hv
      obtain ⟨⟨rfl, _, _⟩, _, rfl⟩ := hv
      exact ⟨lt_of_block hg, hb, hn, hm⟩
  have hcon := AnyQ.slices_SortFunc_small Tryz.sortEntries 2 Tryz.isAgg88 Tryz.sizeOf88 encL (fun _ => rfl) (fun x v hv => by simp [encL] at hv; rcases hv with rfl | rfl <;> rfl) cmpL 59 #[] g 0 cap ls.toArray w eg (order_lays g 0 _ w) hH hg (by simpa using (by omega : ls.length ≤ 12)) bits_len
  refine (show Calls Tryz.prog 88 _ _ _ from hcon).mono fun e w' ⟨he, n, os, hw⟩ => ⟨he, ?_⟩
  have hins := insertionSort_holds (lt := ltOf cmpL) swo_cmp ls.toArray 0 ls.toArray.size (Nat.zero_le _) (Nat.le_refl _)
  obtain ⟨⟨hsz, _, hperm⟩, hsorted⟩ := hins
  generalize Sort.insertionSort (ltOf cmpL) ls.toArray 0 ls.toArray.size = d at *
  have hd : d.size = ls.length := by simpa using hsz
  have hp : d.toList.Perm ls := by
    have e1 : (d.extract 0 ls.toArray.size).toList = d.toList := by rw [← hsz]; simp
    have e2 : (ls.toArray.extract 0 ls.toArray.size).toList = ls := by simp
    rwa [e1, e2] at hperm
  have hws : WS d.toList := by
    refine List.pairwise_iff_getElem.2 fun i j hi hj hij => ?_
    have hi' : i < d.size := by simpa using hi
    have hj' : j < d.size := by simpa using hj
    have h1 := hsorted i j (Nat.zero_le _) hij (by rw [← hsz]; exact hj')
    rw [lt_cmp, getElem!_pos d j hj', getElem!_pos d i hi'] at h1
    simpa using h1
  have hgr := grown_sorted (w := w) (g := g) (n := n) (os := os) d
  have hH' : HoldsK encL 2 w' g 0 d := by
    rw [hw]
    exact holdsK_grow encL 2 _ os g 0 d (by simpa [putRowK] using hg) (holdsK_putRowK encL 2 _ g 0 ls.toArray d (holdsK_ahead encL 2 w n g 0 ls.toArray hH) hsz)
  rw [show sortWorldK encL 2 w g 0 n d os = grow (putRowK encL 2 (Sort.ahead w n) g 0 d) os from rfl] at hw
  rw [← hw] at hgr
  refine ⟨d.toList, hp, hws, ⟨by simpa [hd] using hlc, hcm, fun l hl => hs l (hp.subset hl), .inr ⟨g, 0, rfl, Nat.lt_of_lt_of_le hg hgr.size, fun i hi => ?_⟩⟩, ⟨hgr.os, hgr.tape, hgr.output, hgr.size, fun k hk => hgr.block k (by omega) (fun e => by cases e; omega)⟩, hgr.size⟩
  have hi' : i < d.size := by simpa using hi
  have c0 := (hH'.cell hi' (show 0 < 2 by omega)).1
  have c1 := (hH'.cell hi' (show 1 < 2 by omega)).1
  rw [getElem!_pos d i hi'] at c0 c1
  exact ⟨by simpa [encL] using c0, by simpa [encL] using c1⟩
theorem sort_none (a : Option Addr) (cap : Nat) (fv : Value) (w : World) :
    Calls Tryz.prog 88 #[.slice a 0 cap, fv] w fun e w' => e = .returned (.tuple #[]) ∧ w' = w :=
  AnyF.slices_SortFunc_none Tryz.sortEntries a cap fv w
end Go.Proofs.YtdlhmjdjoadioabGreatDoor
