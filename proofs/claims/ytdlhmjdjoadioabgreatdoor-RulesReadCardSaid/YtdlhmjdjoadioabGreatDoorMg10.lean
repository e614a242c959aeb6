/- A block of bytes that a text was turned into, which is read, written and turned into a text again. It speaks of no one program. -/
import Derived.Test.YtdlhmjdjoadioabGreatDoorMg2
import Derived.Test.YtdlhmjdjoadioabGreatDoorZLabT
import Derived.Test.YtdlhmjdjoadioabGreatDoorZOwn
import Derived.Test.YtdlhmjdjoadioabGreatDoorLabP
import Derived.Test.YtdlhmjdjoadioabGreatDoorShelf
namespace Go.Proofs.YtdlhmjdjoadioabGreatDoor
open Go.RowKit

/-- block g holds the bytes l, none of them frozen -/
def HasBytes (w : World) (g : Nat) (l : List UInt8) : Prop :=
  ∃ (cur : Array Value) (e lo hi : Nat), w.heap[g]? = some (.cells cur e (lo, hi)) ∧ (l.length ≤ lo ∨ hi = 0) ∧ ∀ j (h : j < l.length), cur[j]? = some (.int .u8 (l[j].toNat : Int))

theorem HasBytes.lt {w : World} {g : Nat} {l : List UInt8} (h : HasBytes w g l) : g < w.heap.size := by
  obtain ⟨cur, e, lo, hi, hg, _⟩ := h
  exact lt_of_block hg
theorem HasBytes.cell {w : World} {g : Nat} {l : List UInt8} (h : HasBytes w g l) (j : Nat) (hj : j < l.length) : w.cell? ⟨g, j, none⟩ = some (.int .u8 (l[j].toNat : Int)) := by
  obtain ⟨cur, e, lo, hi, hg, _, hc⟩ := h
  simp [World.cell?, hg, hc j hj]
theorem HasBytes.free {w : World} {g : Nat} {l : List UInt8} (h : HasBytes w g l) (j : Nat) (hj : j < l.length) : w.frozen? ⟨g, j, none⟩ = false := by
  obtain ⟨cur, e, lo, hi, hg, hl, _⟩ := h
  simp [World.frozen?, hg]
  omega
theorem HasBytes.of_heap {w w' : World} {g : Nat} {l : List UInt8} (h : HasBytes w g l) (e : w'.heap[g]? = w.heap[g]?) : HasBytes w' g l := by
  obtain ⟨cur, t, lo, hi, hg, r⟩ := h
  exact ⟨cur, t, lo, hi, e.trans hg, r⟩
theorem HasBytes.drew {w : World} {g : Nat} {l : List UInt8} (h : HasBytes w g l) : HasBytes w.drew g l := h.of_heap rfl
theorem HasBytes.below {w w' : World} {g B : Nat} {l : List UInt8} (h : HasBytes w g l) (hb : Below B w w') (hg : g < B) : HasBytes w' g l := h.of_heap (hb.block g hg)
theorem HasBytes.call {w w' : World} {g : Nat} {l : List UInt8} (h : HasBytes w g l) (hb : Below w.heap.size w w') : HasBytes w' g l := h.below hb h.lt
theorem HasBytes.alloc {w : World} {g : Nat} {l : List UInt8} (h : HasBytes w g l) (o : Obj) : HasBytes (w.alloc o) g l := h.of_heap (Below.heap_alloc w o g h.lt)
theorem HasBytes.set {w : World} {g : Nat} {l : List UInt8} (h : HasBytes w g l) (i : Nat) (v : UInt8) : HasBytes (w.setCell ⟨g, i, none⟩ (.int .u8 (v.toNat : Int))) g (l.set i v) := by
  obtain ⟨cur, t, lo, hi, hg, hl, hc⟩ := h
  have hlt := lt_of_block hg
  have hg' : w.heap[g] = .cells cur t (lo, hi) := by simpa [Array.getElem?_eq_getElem hlt] using hg
  refine ⟨cur.setIfInBounds i (.int .u8 (v.toNat : Int)), t, lo, hi, ?_, by simpa using hl, ?_⟩
  · show (w.heap.modify g _)[g]? = _
    rw [Array.getElem?_eq_getElem (by simpa using hlt), Array.getElem_modify_self, hg']
    rfl
  · intro j hj
    have hj' : j < l.length := by simpa using hj
    have hcj := hc j hj'
    have hjc : j < cur.size := by
      rcases Nat.lt_or_ge j cur.size with h | h
      · exact h
      · simp [Array.getElem?_eq_none h] at hcj
    rw [Array.getElem?_setIfInBounds, List.getElem_set]
    by_cases e : i = j
    · subst e; simp [hjc]
    · simp [e, hcj]
theorem HasBytes.of_string (w : World) (s : ByteArray) (c t : Nat) (x : Nat) : HasBytes (w.alloc (.cells (bytesRow s c) t ((bytesRow s c).size, x))) w.heap.size s.data.toList := by
  refine ⟨bytesRow s c, t, (bytesRow s c).size, x, (by show (w.heap.push _)[w.heap.size]? = _; simp), .inl ?_, ?_⟩
  · simp [bytesRow]
  · intro j hj
    rw [bytesRow_at s c j (by simpa using hj)]
    simp
theorem HasBytes.str {P : Program} {w : World} {g src dst e cap : Nat} {l : List UInt8} (h : HasBytes w g l) (hs : P.underlying src = some (.slice e)) (he : P.underlying e = some (.int .u8)) (hd : P.underlying dst = some .string) :
    (convert src dst (.slice (some ⟨g, 0, none⟩) l.length cap)).run P w = .ok (.string ⟨l.toArray⟩) w := by
  refine run_convert_bytes_back w src dst e ⟨g, 0, none⟩ cap l hs he hd ?_
  intro j hj
  have e0 : (⟨g, 0, none⟩ : Addr).add j = ⟨g, j, none⟩ := by unfold Addr.add; split <;> simp_all
  rw [e0]
  exact h.cell j hj

/-- for a region that draws its order: what is known of a block of bytes is known behind a call, too -/
theorem held_bytes {w w1 : World} {g : Nat} {X : List UInt8} {C : World → Prop} (hv : ∀ W, HasBytes W g X → C W) (h : HasBytes w g X ∧ C w) (hb : Below w.heap.size w w1) : HasBytes w1 g X ∧ C w1 :=
  ⟨h.1.call hb, hv _ (h.1.call hb)⟩

end Go.Proofs.YtdlhmjdjoadioabGreatDoor
/- Bytes of a text put behind a row of the own. -/
namespace Go.Proofs.YtdlhmjdjoadioabGreatDoor
open Go.RowKit


theorem wpList_appS {P : Program} (w : World) {ops : Array Oper} {rest : List Oper} {o : Oper} {a : Act} {Q : Exit → Act → World → Prop} (hgd : o.guard = none) (s x : Operand) (t tx : TypeId)
    (ho : o.op = .call { callee := .builtin .append, args := #[s, x], argTypes := #[t, tx] })
    (base : Nat) (e e' : TypeId) (i : TypeInfo) (z : Value) (ht : P.underlying t = some (.slice e)) (htx : P.underlying tx = some (.slice e')) (hi : P.info? e = some i) (hz : i.zero = some z) (hsize : i.size = 1) (hby : i.bytes = 1) (hzs : z.cells.size = 1)
    (v : Value) (l cs : List UInt8) (hs : a.eval s = v) (hown : OwnB e w base v l) (g n c : Nat) (hn : n = cs.length) (hb : HasBytes w g cs) (hx : a.eval x = .slice (some ⟨g, 0, none⟩) n c)
    (h63 : l.length + cs.length ≤ 100000000) (hbase : base ≤ w.heap.size)
    (h : ∀ (v' : Value) (w' : World), OwnB e w' base v' (l ++ cs) → w.grownBy w' v.ownBlock → wpList P ops Q rest (a.put o.dst v') w') : wpList P ops Q (o :: rest) a w := by
  subst hn
  have hsrc : Src P 1 tx (.slice (some ⟨g, 0, none⟩) cs.length c) cs.length (bytesV cs) w := Src.ofSlice w htx _ _ _ _ (by rw [bytesV_len]; omega) (by
    intro j u hu
    have hj : j < cs.length := by
      rcases Nat.lt_or_ge j cs.length with h | h
      · exact h
      · simp [bytesV, h] at hu
    have e0 : (⟨g, 0, none⟩ : Addr).add j = ⟨g, j, none⟩ := by unfold Addr.add; split <;> simp_all
    rw [e0, hb.cell j hj, ← hu, bytesV_get cs j hj]) (by
    intro u hu
    obtain ⟨c, _, rfl⟩ := List.mem_map.1 hu
    rfl)
  refine wpList_append_src w hgd s x t tx ho base e i z 1 1 ht hi hz hsize hby hzs v l.length (bytesV l) hs hown _ cs.length (bytesV cs) hx hsrc (by unfold maxLen; omega) (by omega) hbase ?_
  intro v' w' hown' hg
  refine h v' w' ?_ hg
  unfold OwnB
  rw [bytesV_app, List.length_append]
  exact hown'

theorem OwnB.drew {T : TypeId} {w : World} {base : Nat} {v : Value} {l : List UInt8} (h : OwnB T w base v l) : OwnB T w.drew base v l := h.call (below_drewN (Below.refl _ _) 1)
end Go.Proofs.YtdlhmjdjoadioabGreatDoor
/- The contracts of what reads a set: label.readQuoted, readLabel, Parse. -/
namespace Go.Proofs.YtdlhmjdjoadioabGreatDoor
open Go.RowKit

def QuotePost (o : Option (Bs × Bs)) (w : World) (e : Ending) (w' : World) : Prop :=
  (match o with
    | some (v, r) => e = .returned (.tuple #[.string ⟨v.toArray⟩, .string ⟨r.toArray⟩, .bool true])
    | none => e = .returned (.tuple #[.string ⟨#[]⟩, .string ⟨#[]⟩, .bool false])) ∧ Below w.heap.size w w'

theorem drop_text (s : ByteArray) (k : Nat) : (⟨(s.data.toList.drop k).toArray⟩ : ByteArray) = s.extract k s.size := by
  apply bytes_ext
  simp only [ByteArray.data_extract, Array.toList_extract, List.extract_eq_take_drop]
  rw [List.take_of_length_le (by simp)]
theorem drop_end (s : ByteArray) (k : Nat) (h : s.size ≤ k) : s.data.toList.drop k = [] := List.drop_of_length_le (by simpa using h)
theorem readQ_plain (c : UInt8) (r acc : Bs) (h1 : ¬ c = 34) (h2 : ¬ c = 92) : readQ (c :: r) acc = readQ r (acc ++ [c]) := by
  rw [readQ]
  · exact h1
  · intro h; exact absurd h h2
  · intro d r' h; exact absurd h h2

set_option maxHeartbeats 3200000 in
set_option maxRecDepth 100000 in
theorem readQuoted_any (s : ByteArray) (w : World) (hs : s.size ≤ 1000000) :
    Calls Tryz.prog 65 #[.string s] w (QuotePost (readQ s.data.toList []) w) := by
  obtain ⟨i0, hi, hz0, hz1, hz2⟩ := info_partsB Tryz.infoB
  obtain ⟨R, hR⟩ : ∃ R, readQ s.data.toList [] = R := ⟨_, rfl⟩
  rw [hR]
  have HR := Lib.hid hR
  clear hR
  go_enter Tryz.func65, Tryz.ntmps65
  go_wp2
  go_loopw [5, 6] (fun u i wr => ∃ (k : Nat) (L : Bs), k ≤ s.size ∧ L.length ≤ k ∧ i = .int .i64 k ∧ OwnB 5 wr w.heap.size u L ∧ Hid (readQ (s.data.toList.drop k) L = R) ∧ Below w.heap.size w wr ∧ w.heap.size ≤ wr.heap.size) (fun _ i _ => s.size - (intOf i).toNat)
  case atStart => exact ⟨0, [], Nat.zero_le _, Nat.le_refl _, rfl, ⟨rfl, .inl ⟨rfl, rfl⟩⟩, HR, Below.refl _ _, Nat.le_refl _⟩
  case round =>
    clear HR
    obtain ⟨k, L, hk, hLk, rfl, hown, HR, hb, hz⟩ := hrel
    by_cases hks : k < s.size
    · have hd := drop_byte s k hks
      by_cases h34 : s[k] = 34
      · have t1 : ((s[k].toNat : Int) == 34) = true := by rw [beq_iff_eq, h34]; rfl
        have hre : some (L, s.data.toList.drop (k + 1)) = R := by rw [← HR.out, hd, h34]; rfl
        subst hre
        have hcv := fun x => OwnB.str (P := Tryz.prog) (src := 66) (dst := 9) (hown.call (later_below wr x)) Tryz.underlying66 Tryz.underlying5 Tryz.underlying9
        have hex : (⟨(s.data.toList.drop (k + 1)).toArray⟩ : ByteArray) = s.extract (k + 1) s.size := drop_text s (k + 1)
        have HEX := Lib.hid hex
        clear h34 hd HR hex hown
        go_upto_region 6 with fail
        refine wp_region_later (by kernel_rfl) (by kernel_rfl) ?_
        repeat (go_big_quiet_step (fail))
        refine wpQuiet_nil ?_
        rintro _ ⟨x, rfl⟩
        have hb2 := hb.trans ((later_below wr x).mono hz)
        generalize later wr x = w2 at *
        go_wp2
        go_ret3
        refine ⟨?_, hb2⟩
        show _ = Ending.returned (.tuple #[.string ⟨L.toArray⟩, .string ⟨(s.data.toList.drop (k + 1)).toArray⟩, .bool true])
        rw [HEX.out]
        rfl
      · have t1 : ((s[k].toNat : Int) == 34) = false := by rw [beq_eq_false_iff_ne]; rw [is34_iff] at h34; omega
        by_cases h92 : s[k] = 92
        · have t2 : ((s[k].toNat : Int) == 92) = true := by rw [beq_iff_eq, h92]; rfl
          by_cases hk1 : k + 1 < s.size
          · have hd1 := drop_byte s (k + 1) hk1
            have t3 : (((k : Int) + 1) == (s.size : Int)) = false := by rw [beq_eq_false_iff_ne]; omega
            by_cases hq : s[k + 1] = 34 ∨ s[k + 1] = 92
            · have hre : Hid (readQ (s.data.toList.drop (k + 2)) (L ++ [s[k + 1]]) = R) := Lib.hid (by rw [← HR.out, hd, hd1, h92, readQ, if_pos hq])
              clear h34 h92 hd hd1 HR
              rcases hq with hq | hq
              · have hre := hre
                have t4 : ((s[k + 1].toNat : Int) != 34) = false := by rw [hq]; rfl
                clear hq
                go_wp2_with (at_builtin; refine (wpList_pushB wr rfl _ _ 66 rfl w.heap.size 5 i0 (.int .u8 0) Tryz.underlying66 hi hz0 hz1 hz2 rfl _ L [s[k + 1]] rfl (by assumption) [.int .u8 (s[k + 1].toNat : Int)] 1 rfl rfl rfl (by simp; omega) (by assumption) ?_))
                intro v2 w2 hown2 hg2
                have hb2 : Below w.heap.size w w2 := hown.grown hb hz hg2
                have hz2' := Nat.le_trans hz hg2.size
                clear hown hg2 hb hz
                go_wp2
                go_roundw
                case rel => exact ⟨k + 2, _, by omega, by simp; omega, by go_num, hown2, hre, hb2, hz2'⟩
                case measure => simp [intOf]; omega
              · have hre := hre
                have t4 : ((s[k + 1].toNat : Int) != 34) = true := by rw [hq]; rfl
                have t5 : ((s[k + 1].toNat : Int) != 92) = false := by rw [hq]; rfl
                clear hq
                go_wp2_with (at_builtin; refine (wpList_pushB wr rfl _ _ 66 rfl w.heap.size 5 i0 (.int .u8 0) Tryz.underlying66 hi hz0 hz1 hz2 rfl _ L [s[k + 1]] rfl (by assumption) [.int .u8 (s[k + 1].toNat : Int)] 1 rfl rfl rfl (by simp; omega) (by assumption) ?_))
                intro v2 w2 hown2 hg2
                have hb2 : Below w.heap.size w w2 := hown.grown hb hz hg2
                have hz2' := Nat.le_trans hz hg2.size
                clear hown hg2 hb hz
                go_wp2
                go_roundw
                case rel => exact ⟨k + 2, _, by omega, by simp; omega, by go_num, hown2, hre, hb2, hz2'⟩
                case measure => simp [intOf]; omega
            · have hre : none = R := by rw [← HR.out, hd, hd1, h92, readQ, if_neg hq]
              subst hre
              have t4 : ((s[k + 1].toNat : Int) != 34) = true := by rw [bne_iff_ne]; rw [is34_iff, is92_iff] at hq; omega
              have t5 : ((s[k + 1].toNat : Int) != 92) = true := by rw [bne_iff_ne]; rw [is34_iff, is92_iff] at hq; omega
              clear hq h34 h92 hd hd1 HR
              go_wp2
              go_ret3
              exact ⟨rfl, hb⟩
          · have t3 : (((k : Int) + 1) == (s.size : Int)) = true := by rw [beq_iff_eq]; omega
            have hre : none = R := by rw [← HR.out, hd, h92, drop_end s (k + 1) (by omega)]; rfl
            subst hre
            clear h34 h92 hd HR
            go_wp2
            go_ret3
            exact ⟨rfl, hb⟩
        · have t2 : ((s[k].toNat : Int) == 92) = false := by rw [beq_eq_false_iff_ne]; rw [is92_iff] at h92; omega
          have hre : Hid (readQ (s.data.toList.drop (k + 1)) (L ++ [s[k]]) = R) := Lib.hid (by rw [← HR.out, hd, readQ_plain _ _ _ h34 h92])
          clear h34 h92 hd HR
          go_wp2_with (at_builtin; refine (wpList_pushB wr rfl _ _ 66 rfl w.heap.size 5 i0 (.int .u8 0) Tryz.underlying66 hi hz0 hz1 hz2 rfl _ L [s[k]] rfl (by assumption) [.int .u8 (s[k].toNat : Int)] 1 rfl rfl rfl (by simp; omega) (by assumption) ?_))
          intro v2 w2 hown2 hg2
          have hb2 : Below w.heap.size w w2 := hown.grown hb hz hg2
          have hz2' := Nat.le_trans hz hg2.size
          clear hown hg2 hb hz
          go_wp2
          go_roundw
          case rel => exact ⟨k + 1, _, by omega, by simp; omega, by go_num, hown2, hre, hb2, hz2'⟩
          case measure => simp [intOf]; omega
    · have hre : none = R := by rw [← HR.out, drop_end s k (by omega)]; rfl
      subst hre
      clear HR
      go_wp2
      go_ret3
      exact ⟨rfl, hb⟩
end Go.Proofs.YtdlhmjdjoadioabGreatDoor
/- What the library's own variable internal/bytealg.MaxLen holds. It speaks of no one program. -/
namespace Go.Proofs.YtdlhmjdjoadioabGreatDoor
open Go.RowKit

/-- what the library's own variable holds: some number -/
def MaxC (w : World) : Prop := ∃ m : Int, w.cell? ⟨3, 0, none⟩ = some (.int .i64 m)
theorem MaxC.lt2 {w : World} (h : MaxC w) : 3 < w.heap.size := by
  obtain ⟨m, h⟩ := h
  exact World.block_lt_of_cell? w _ h
theorem MaxC.lt {w : World} (h : MaxC w) : 0 < w.heap.size := Nat.lt_of_le_of_lt (Nat.zero_le _) h.lt2
theorem MaxC.call {w w1 : World} (h : MaxC w) (hb : Below w.heap.size w w1) : MaxC w1 := by
  have hlt := h.lt2
  obtain ⟨m, h⟩ := h
  exact ⟨m, by rw [← h]; unfold World.cell?; rw [hb.block 3 hlt]⟩

end Go.Proofs.YtdlhmjdjoadioabGreatDoor
