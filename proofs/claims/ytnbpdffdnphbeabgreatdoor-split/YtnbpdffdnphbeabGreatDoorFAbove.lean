import Derived.Test.YtnbpdffdnphbeabGreatDoorFView
namespace Go.Proofs.YtnbpdffdnphbeabGreatDoor
open Go.RowKit
def apB(M:yC)(G:List Bool)(i j:Nat):Bool:=decide (i≠j)&&(decide ((M.rules.getD i oW).head=(M.rules.getD j oW).head)&&(!gA G i j && !gA G j i))
structure zKW(w:World)(gv gr i:Nat)(b:Bool)(hd:Int)(wh:Bool)(pa qa:Option Addr)(pn pc qn qc:Nat):Prop where
 c0:w.cell? ⟨gr,i*4,none⟩=some (.int .i64 hd)
 c1:w.cell? ⟨gr,i*4+1,none⟩=some (.bool wh)
 c2:w.cell? ⟨gr,i*4+2,none⟩=some (.slice pa pn pc)
 c3:w.cell? ⟨gr,i*4+3,none⟩=some (.slice qa qn qc)
 app:Calls Tryz.prog 34 #[.agg #[.int .i64 hd,.bool wh,.slice pa pn pc,.slice qa qn qc],.pointer (some ⟨gv,0,none⟩)] w fun e w'=>e=.returned (.bool b)/\Below w.heap.size w w'
theorem zKK{w:World}{g gv:Nat}{M:yC}{v:FV}(hM:gM w g M)(hO:yI M)(hV:wW w gv v){i:Nat}(hi:i<M.rules.length):∃gr rc hd wh pa qa pn pc qn qc,w.cell? ⟨g,6,none⟩=some (.slice (some ⟨gr,0,none⟩) M.rules.length rc)/\zKW w gv gr i (bJ v (M.rules.getD i oW)) hd wh pa qa pn pc qn qc:=by
 obtain⟨gr,rc,pa,pc,qa,qc,c6,⟨c0,c1,c2,c3⟩,hp,hq⟩:=hM.rule hi;exact⟨gr,rc,_,_,pa,qa,_,pc,_,qc,c6,c0,c1,c2,c3,Ct w gv v _ M.heads pa qa pc qc hV (hO.rules _ (tY oW hi)) hp hq⟩
def zJS(M:yC):Prop:=∃i j,i<j/\j<M.rules.length/\apB M (yB (nX M)) i j=true/\∃v,lW M v/\bJ v (M.rules.getD i oW)=true/\bJ v (M.rules.getD j oW)=true
end Go.Proofs.YtnbpdffdnphbeabGreatDoor
