/- A row round a node again and again; the node of one name; the closure 'one' of OutlineDeep. -/
import Derived.Test.YtolbhhokpelchaaDoorZOtlL
import Derived.Test.YtolbhhokpelchaaDoorOutF
namespace Go.Proofs.YtolbhhokpelchaaDoor
open Go.RowKit

def rowK : Nat → Nd → Nd
  | 0, n => n
  | k + 1, n => rowN (rowK k n)
theorem rowK_right (n : Nd) : ∀ k d, rightD (d + k) (rowK k n) = rightD d n
  | 0, _ => rfl
  | k + 1, d => by
    rw [show d + (k + 1) = (d + k) + 1 from rfl, rowK, rightD_row]
    exact rowK_right n k d
theorem rowK_8 (n : Nd) : nodeC (rowK 8 n) = false := by
  have h := rowK_right n 8 0
  rw [Nat.zero_add] at h
  exact h.trans rfl
def xNd : Nd := .mk 1 ⟨#[120]⟩ [] []
def oneC (s : ByteArray) : Bool := nodeC (.mk 3 ⟨#[]⟩ [s] [xNd])
theorem twoC (a b : ByteArray) : nodeC (.mk 3 ⟨#[]⟩ [a, b] [xNd, xNd]) = (oneC a && oneC b && decide (a ≠ b)) := by
  have hx : rightD 7 xNd = true := by decide +kernel
  unfold oneC nodeC
  rw [rightD, rightD, rightD]
  simp only [Nd.items, List.all_cons, List.all_nil, hx, Bool.and_true]
  simp [partsC, namesC, Nd.kind, Nd.word, Nd.names, Nd.items]
  rw [show List.range 2 = [0, 1] from rfl]
  by_cases hab : a = b
  · simp [onK, memB, hab, show ({ data := #[] } : ByteArray) = .empty from rfl]
  · simp [onK, memB, hab, show ({ data := #[] } : ByteArray) = .empty from rfl]
theorem one_ok (w : World) (s : ByteArray) (hs : s.size ≤ maxLen) (g1 g2 : Nat) (h1 : Blk w g1 9 #[.string s]) (h2 : Blk w g2 25 #[.int .i64 1, .string ⟨#[120]⟩, .slice none 0 0, .slice none 0 0]) :
    NdAt.ok w ⟨.mk 3 ⟨#[]⟩ [s] [xNd], some ⟨g1, 0, none⟩, 1, some ⟨g2, 0, none⟩, 1⟩ := by
  have hx : NdAt.ok w ⟨xNd, none, 0, none, 0⟩ := .flat _ ⟨noStrs w, by show (1 : Nat) ≤ maxLen; unfold maxLen; omega, rfl, Nat.le_refl 0, Nat.zero_le _⟩ rfl
  refine .of ⟨⟨Nat.le_refl 1, show (1 : Nat) ≤ maxLen by unfold maxLen; omega, ?_, .inr ⟨g1, 0, rfl, h1.lt, fun i hi => ?_⟩⟩, Nat.zero_le _, rfl, Nat.le_refl 1, by show (1 : Nat) ≤ maxLen; unfold maxLen; omega⟩ rfl h2.lt fun i hi => ?_
  · intro x hx
    obtain rfl : x = s := List.mem_singleton.mp (show x ∈ [s] from hx)
    exact hs
  · obtain rfl : i = 0 := by have : i < 1 := hi; omega
    exact h1.cell 0
  · obtain rfl : i = 0 := by have : i < 1 := hi; omega
    exact ⟨⟨xNd, none, 0, none, 0⟩, rfl, ⟨h2.cell 0, h2.cell 1, h2.cell 2, h2.cell 3⟩, hx⟩
set_option maxHeartbeats 1600000 in
set_option maxRecDepth 100000 in
theorem one_any (s : ByteArray) (g : Nat) (w : World) (hs : s.size ≤ maxLen) (hg : Blk w g 25 #[.int .i64 1, .string ⟨#[120]⟩, .slice none 0 0, .slice none 0 0]) :
    Calls Tryd.prog 24 #[.string s, .pointer (some ⟨g, 0, none⟩)] w (BoolW (oneC s) w) := by
  obtain ⟨k0, k1, k2, k3⟩ := hg.cells4
  have hok := one_ok ((w.alloc (.cells #[.string s] 9)).alloc (.cells #[.int .i64 1, .string ⟨#[120]⟩, .slice none 0 0, .slice none 0 0] 25)) s hs w.heap.size (w.heap.size + 1) ((Blk.new w _ _).alloc _) (nbN w _ _ _)
  have HR := Lib.hid (oRight_any _ _ hok)
  have HB := Lib.hid (below_al (o := .cells #[.int .i64 1, .string ⟨#[120]⟩, .slice none 0 0, .slice none 0 0] 25) (below_al (o := .cells #[.string s] 9) (Below.refl w.heap.size w)))
  have kk := fun o => (hg.alloc o).cells4.1
  have kk1 := fun o => (hg.alloc o).cells4.2.1
  have kk2 := fun o => (hg.alloc o).cells4.2.2.1
  have kk3 := fun o => (hg.alloc o).cells4.2.2.2
  clear hok hg
  go_enter Tryd.func24, Tryd.ntmps24
  go_wp2_with (go_at_call 12; refine HR.out.mono ?_; rintro e w2 ⟨rfl, hb2⟩)
  go_ret
  exact ⟨rfl, bthen HB.out hb2⟩
theorem two_ok (w : World) (a b : ByteArray) (ha : a.size ≤ maxLen) (hb : b.size ≤ maxLen) (g1 g2 : Nat) (h1 : Blk w g1 9 #[.string a, .string b]) (h2 : Blk w g2 25 #[.int .i64 1, .string ⟨#[120]⟩, .slice none 0 0, .slice none 0 0, .int .i64 1, .string ⟨#[120]⟩, .slice none 0 0, .slice none 0 0]) :
    NdAt.ok w ⟨.mk 3 ⟨#[]⟩ [a, b] [xNd, xNd], some ⟨g1, 0, none⟩, 2, some ⟨g2, 0, none⟩, 2⟩ := by
  have hx : NdAt.ok w ⟨xNd, none, 0, none, 0⟩ := .flat _ ⟨noStrs w, by show (1 : Nat) ≤ maxLen; unfold maxLen; omega, rfl, Nat.le_refl 0, Nat.zero_le _⟩ rfl
  refine .of ⟨⟨Nat.le_refl 2, show (2 : Nat) ≤ maxLen by unfold maxLen; omega, ?_, .inr ⟨g1, 0, rfl, h1.lt, fun i hi => ?_⟩⟩, Nat.zero_le _, rfl, Nat.le_refl 2, by show (2 : Nat) ≤ maxLen; unfold maxLen; omega⟩ rfl h2.lt fun i hi => ?_
  · intro x hx
    rcases List.mem_cons.mp (show x ∈ [a, b] from hx) with rfl | h
    · exact ha
    · rw [List.mem_singleton.mp h]
      exact hb
  · have hi2 : i < 2 := hi
    rcases (show i = 0 ∨ i = 1 by omega) with rfl | rfl
    · exact h1.cell 0
    · exact h1.cell 1
  · have hi2 : i < 2 := hi
    rcases (show i = 0 ∨ i = 1 by omega) with rfl | rfl
    · exact ⟨⟨xNd, none, 0, none, 0⟩, rfl, ⟨h2.cell 0, h2.cell 1, h2.cell 2, h2.cell 3⟩, hx⟩
    · exact ⟨⟨xNd, none, 0, none, 0⟩, rfl, ⟨h2.cell 4, h2.cell 5, h2.cell 6, h2.cell 7⟩, hx⟩
end Go.Proofs.YtolbhhokpelchaaDoor
