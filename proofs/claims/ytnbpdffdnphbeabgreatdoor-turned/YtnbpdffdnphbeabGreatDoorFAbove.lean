import Derived.Test.YtnbpdffdnphbeabGreatDoorFView
namespace Go.Proofs.YtnbpdffdnphbeabGreatDoor
open Go.RowKit
def apB(M:yB)(G:List Bool)(i j:Nat):Bool:=decide (i≠j)&&(decide ((M.rules.getD i aV).head=(M.rules.getD j aV).head)&&(!gA G i j && !gA G j i))
def zHQ(M:yB):Prop:=∃i j,i<j/\j<M.rules.length/\apB M (zW (dO M)) i j=true/\∃v,lV M v/\oA v (M.rules.getD i aV)=true/\oA v (M.rules.getD j aV)=true
def zLC(M:yB)(w w':World)(e:Ending):Prop:=Below w.heap.size w w'/\((∃b:Nat,e=.returned (.tuple #[.pointer (some ⟨b,0,none⟩),.int .i64 0])/\¬zHQ M)\/(e=.returned (.tuple #[.pointer none,.int .i64 8])/\zHQ M))
end Go.Proofs.YtnbpdffdnphbeabGreatDoor
