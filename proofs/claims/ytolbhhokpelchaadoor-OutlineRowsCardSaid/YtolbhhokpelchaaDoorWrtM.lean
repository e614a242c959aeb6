/- How a node is written: its lines. Mathematics alone. -/
import Derived.Test.YtolbhhokpelchaaDoorOutJ
namespace Go.Proofs.YtolbhhokpelchaaDoor

def hdNm (k : Int) (nm : ByteArray) : Bs := if k = 3 then nm.data.toList ++ [58] else [45]
mutual
/-- a node's lines, so deep in -/
def Nd.linesT : Nd → Nat → Bs
  | .mk k _ ns xs, d => linesLs k ns xs d
/-- the lines of items, with their names -/
def linesLs : Int → List ByteArray → List Nd → Nat → Bs
  | _, _, [], _ => []
  | k, ns, x :: xs, d => List.replicate (2 * d) 32 ++ (hdNm k (ns.headD ⟨#[]⟩) ++ (if x.items.isEmpty then 32 :: ((flatT x).data.toList ++ [10]) else 10 :: x.linesT (d + 1))) ++ linesLs k ns.tail xs d
end
/-- what stands behind a name, or a dash -/
def behT (x : Nd) (d : Nat) : Bs := if x.items.isEmpty then 32 :: ((flatT x).data.toList ++ [10]) else 10 :: x.linesT d
/-- an item's lines -/
def itemT (k : Int) (nm : ByteArray) (x : Nd) (d : Nat) : Bs := List.replicate (2 * d) 32 ++ (hdNm k nm ++ behT x (d + 1))
theorem linesLs_nil (k : Int) (ns : List ByteArray) (d : Nat) : linesLs k ns [] d = [] := by simp [linesLs]
theorem linesLs_cons (k : Int) (ns : List ByteArray) (x : Nd) (xs : List Nd) (d : Nat) : linesLs k ns (x :: xs) d = itemT k (ns.headD ⟨#[]⟩) x d ++ linesLs k ns.tail xs d := by simp only [linesLs, itemT, behT]
theorem linesT_eq (n : Nd) (d : Nat) : n.linesT d = linesLs n.kind n.names n.items d := by cases n; simp [Nd.linesT, Nd.kind, Nd.names, Nd.items]
def nmAt (ns : List ByteArray) (j : Nat) : ByteArray := ns[j]?.getD ⟨#[]⟩
theorem linesLs_take (k : Int) (d : Nat) : ∀ (xs : List Nd) (ns : List ByteArray) (j : Nat) (h : j < xs.length), linesLs k ns (xs.take (j + 1)) d = linesLs k ns (xs.take j) d ++ itemT k (nmAt ns j) xs[j] d
  | [], _, _, h => by simp at h
  | x :: xs, ns, 0, _ => by
    rw [List.take_succ_cons, linesLs_cons]
    have e : ns.headD ⟨#[]⟩ = nmAt ns 0 := by cases ns <;> rfl
    simp only [List.take_zero, linesLs_nil, e, List.append_nil, List.nil_append, List.getElem_cons_zero]
  | x :: xs, ns, j + 1, h => by
    rw [List.take_succ_cons, List.take_succ_cons, linesLs_cons, linesLs_cons, linesLs_take k d xs ns.tail j (by simpa using h)]
    have e : nmAt ns.tail j = nmAt ns (j + 1) := by cases ns <;> simp [nmAt]
    rw [e]
    simp
theorem linesT_upto (n : Nd) (d j : Nat) (h : j < n.items.length) : linesLs n.kind n.names (n.items.take (j + 1)) d = linesLs n.kind n.names (n.items.take j) d ++ itemT n.kind (nmAt n.names j) n.items[j] d := linesLs_take _ _ _ _ _ h
theorem linesLs_app (k : Int) (d : Nat) : ∀ (xs ys : List Nd) (ns : List ByteArray), linesLs k ns (xs ++ ys) d = linesLs k ns xs d ++ linesLs k (ns.drop xs.length) ys d
  | [], ys, ns => by simp [linesLs_nil]
  | x :: xs, ys, ns => by
    rw [List.cons_append, linesLs_cons, linesLs_cons, linesLs_app k d xs ys ns.tail]
    simp
theorem linesT_split (n : Nd) (d j : Nat) : n.linesT d = linesLs n.kind n.names (n.items.take j) d ++ linesLs n.kind (n.names.drop (n.items.take j).length) (n.items.drop j) d := by
  rw [linesT_eq]
  conv => lhs; rw [← List.take_append_drop j n.items]
  exact linesLs_app _ _ _ _ _
/-- parts, one behind the other -/
def catB (ss : List ByteArray) : Bs := ss.flatMap (·.data.toList)
theorem catB_take (ss : List ByteArray) (k : Nat) (h : k < ss.length) : catB (ss.take (k + 1)) = catB (ss.take k) ++ ss[k].data.toList := by
  unfold catB
  rw [List.take_succ_eq_append_getElem h, List.flatMap_append]
  simp only [List.flatMap_cons, List.flatMap_nil, List.append_nil]
theorem quoteL_le : ∀ (s : Bs), (quoteL s).length ≤ 2 * s.length := fun s => quoteL_len s
theorem flatT_len (n : Nd) : (flatT n).size ≤ 2 * n.word.size + 2 := by
  unfold flatT
  split
  · show 2 ≤ _; omega
  · split
    · show 2 ≤ _; omega
    · unfold wordT
      split
      · omega
      · unfold quoteS
        have := quoteL_le n.word.data.toList
        have h2 : n.word.data.toList.length = n.word.size := lenB n.word
        show (Array.size _) ≤ _
        simp only [List.size_toArray, List.length_cons, List.length_append, List.length_nil]
        omega
end Go.Proofs.YtolbhhokpelchaaDoor
