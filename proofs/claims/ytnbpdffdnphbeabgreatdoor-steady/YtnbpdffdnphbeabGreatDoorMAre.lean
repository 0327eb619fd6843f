import Derived.Test.YtnbpdffdnphbeabGreatDoorMRowF
namespace Go.Proofs.YtnbpdffdnphbeabGreatDoor
open Go.RowKit
structure HK where
 hb:Nat
 b:Nat
 o:Nat
 ia:Option Addr
 ic:Nat
 inp:List Int
 R:Nat
 C:Nat
 gH:Nat
 cH:Nat
 gV:Nat
 cV:Nat
 gA:Nat
 cA:Nat
 gD:Nat
 cD:Nat
 gN:Nat
 cN:Nat
 ei:Nat->Bs
 iy:Nat->Bs
structure zO1(K:HK):Prop where
 a1:K.hb≠K.gH
 a2:K.hb≠K.gV
 a3:K.hb≠K.gA
 a4:K.hb≠K.gD
 a5:K.hb≠K.gN
 b1:K.gH≠K.gV
 b2:K.gH≠K.gA
 b3:K.gH≠K.gD
 b4:K.gH≠K.gN
 c1:K.gV≠K.gA
 c2:K.gV≠K.gD
 c3:K.gV≠K.gN
 d1:K.gA≠K.gD
 d2:K.gA≠K.gN
 e1:K.gD≠K.gN
theorem CI(n i:Nat)(h:i<n):(List.range n).getD i 0=i:=by simp[List.getD,h]
end Go.Proofs.YtnbpdffdnphbeabGreatDoor
