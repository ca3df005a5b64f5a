import Derived.Test.YtofafbmpbkjhnaaGreatDoorJ02
namespace Go.Proofs.YtofafbmpbkjhnaaGreatDoor
set_option maxRecDepth 100000
def S (r : Nat) : Nat := if r % 2 = 1 then r / 2 ^^^ 2197175160 else r / 2
def Sn : Nat → Nat → Nat
 | 0, r => r
 | k + 1, r => Sn k (S r)
def cr (r : Nat) (l : List Nat) : Nat := l.foldl (fun r c => Sn 8 (r ^^^ c)) r
end Go.Proofs.YtofafbmpbkjhnaaGreatDoor
