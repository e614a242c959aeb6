/- The constants are the roots: reckoned by the kernel, eight at a time. -/
import Derived.Test.YtmmpnkcfekhkhaaDoorIntRt
namespace Go.Proofs.YtmmpnkcfekhkhaaDoor
open Go.RowKit
set_option maxRecDepth 1000000 in
theorem rootsK0 : ([2, 3, 5, 7, 11, 13, 17, 19] : List Nat).map (fun p => rootF p 3) = [1116352408, 1899447441, 3049323471, 3921009573, 961987163, 1508970993, 2453635748, 2870763221] := by decide +kernel
set_option maxRecDepth 1000000 in
theorem rootsK1 : ([23, 29, 31, 37, 41, 43, 47, 53] : List Nat).map (fun p => rootF p 3) = [3624381080, 310598401, 607225278, 1426881987, 1925078388, 2162078206, 2614888103, 3248222580] := by decide +kernel
set_option maxRecDepth 1000000 in
theorem rootsK2 : ([59, 61, 67, 71, 73, 79, 83, 89] : List Nat).map (fun p => rootF p 3) = [3835390401, 4022224774, 264347078, 604807628, 770255983, 1249150122, 1555081692, 1996064986] := by decide +kernel
set_option maxRecDepth 1000000 in
theorem rootsK3 : ([97, 101, 103, 107, 109, 113, 127, 131] : List Nat).map (fun p => rootF p 3) = [2554220882, 2821834349, 2952996808, 3210313671, 3336571891, 3584528711, 113926993, 338241895] := by decide +kernel
set_option maxRecDepth 1000000 in
theorem rootsK4 : ([137, 139, 149, 151, 157, 163, 167, 173] : List Nat).map (fun p => rootF p 3) = [666307205, 773529912, 1294757372, 1396182291, 1695183700, 1986661051, 2177026350, 2456956037] := by decide +kernel
set_option maxRecDepth 1000000 in
theorem rootsK5 : ([179, 181, 191, 193, 197, 199, 211, 223] : List Nat).map (fun p => rootF p 3) = [2730485921, 2820302411, 3259730800, 3345764771, 3516065817, 3600352804, 4094571909, 275423344] := by decide +kernel
set_option maxRecDepth 1000000 in
theorem rootsK6 : ([227, 229, 233, 239, 241, 251, 257, 263] : List Nat).map (fun p => rootF p 3) = [430227734, 506948616, 659060556, 883997877, 958139571, 1322822218, 1537002063, 1747873779] := by decide +kernel
set_option maxRecDepth 1000000 in
theorem rootsK7 : ([269, 271, 277, 281, 283, 293, 307, 311] : List Nat).map (fun p => rootF p 3) = [1955562222, 2024104815, 2227730452, 2361852424, 2428436474, 2756734187, 3204031479, 3329325298] := by decide +kernel
theorem roots64 : (firstP ++ restP).map (fun p => rootF p 3) = KK := by
  have e : firstP ++ restP = [2, 3, 5, 7, 11, 13, 17, 19] ++ [23, 29, 31, 37, 41, 43, 47, 53] ++ [59, 61, 67, 71, 73, 79, 83, 89] ++ [97, 101, 103, 107, 109, 113, 127, 131] ++ [137, 139, 149, 151, 157, 163, 167, 173] ++ [179, 181, 191, 193, 197, 199, 211, 223] ++ [227, 229, 233, 239, 241, 251, 257, 263] ++ [269, 271, 277, 281, 283, 293, 307, 311] := rfl
  rw [e]
  simp only [List.map_append, rootsK0, rootsK1, rootsK2, rootsK3, rootsK4, rootsK5, rootsK6, rootsK7]
  rfl
set_option maxRecDepth 1000000 in
theorem roots8 : firstP.map (fun p => rootF p 2) = HH := by decide +kernel
end Go.Proofs.YtmmpnkcfekhkhaaDoor
