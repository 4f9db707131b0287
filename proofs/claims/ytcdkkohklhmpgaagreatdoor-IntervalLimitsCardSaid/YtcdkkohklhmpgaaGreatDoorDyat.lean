/- The words of a number. -/
import Derived.Test.YtcdkkohklhmpgaaGreatDoorMdyf
import Derived.Test.YtcdkkohklhmpgaaGreatDoorDym
namespace Go.Proofs.YtcdkkohklhmpgaaGreatDoor
open Go Go.RowKit

theorem Dy.at_ {w : World} {d : DV} {A : Option Addr} {c b : Nat} (h : On w b A (len d.m) c (dg d.m)) (wf : d.ok) (hl : len d.m ≤ 16777216) : ∀ w', Ext w w' → Dy w' d.neg A (len d.m) c d.den d A c := fun _ e => Dy.of_on h wf hl e

end Go.Proofs.YtcdkkohklhmpgaaGreatDoor
