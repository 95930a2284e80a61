/- Rows of texts, from the front. -/
import Derived.Test.YtflmfbcjmjlkbaaDoorTxs
import Derived.Test.YtflmfbcjmjlkbaaDoorDigRows
import Derived.Test.YtflmfbcjmjlkbaaDoorDigText
namespace Dg
theorem texts_snoc (l : List (List UInt8)) (t : List UInt8) : texts (l ++ [t]) = texts l ++ text t := by
  induction l with
  | nil => simp [texts]
  | cons x l ih => simp [texts, ih]
theorem texts_take (l : List (List UInt8)) (k : Nat) (h : k < l.length) : texts (l.take (k + 1)) = texts (l.take k) ++ text l[k] := by
  rw [List.take_succ_eq_append_getElem h, texts_snoc]
theorem texts_take_len (l : List (List UInt8)) (k : Nat) : (texts (l.take k)).length ≤ (texts l).length := by
  induction l generalizing k with
  | nil => simp
  | cons x l ih =>
    cases k with
    | zero => simp [texts]
    | succ k => simp only [List.take_succ_cons, texts, List.length_append]; have := ih k; omega
theorem text_len (l : List (List UInt8)) (k : Nat) (h : k < l.length) : l[k].length ≤ (texts l).length := by
  have h1 := texts_take_len l (k + 1)
  rw [texts_take l k h, text] at h1
  simp only [List.length_append] at h1
  omega
end Dg
namespace Go.Proofs.YtflmfbcjmjlkbaaDoor
open Go.RowKit

theorem info_byte : (Tryd.prog.info? 5).map (fun i => (i.zero, i.size, i.bytes)) = some (some (.int .u8 0), 1, 1) := by kernel_rfl
end Go.Proofs.YtflmfbcjmjlkbaaDoor
