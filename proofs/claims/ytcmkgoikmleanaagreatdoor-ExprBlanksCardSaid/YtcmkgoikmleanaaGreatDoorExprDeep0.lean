/-
  Texts put together, as lists.
-/
import Derived.Test.YtcmkgoikmleanaaGreatDoorMEd
namespace Go.Proofs.YtcmkgoikmleanaaGreatDoor
set_option maxRecDepth 20000
theorem app_list {A B : ByteArray} {l m : List UInt8} (h : A.data.toList = l) (h' : B.data.toList = m) : (A ++ B).data.toList = l ++ m := by
  subst h; subst h'
  simp [ByteArray.data_append]
theorem size_list {A : ByteArray} {l : List UInt8} (h : A.data.toList = l) : A.size = l.length := by rw [← h, data_size]
end Go.Proofs.YtcmkgoikmleanaaGreatDoor
