import Derived.Test.YtnbpdffdnphbeaaGreatDoorPut
import Derived.Test.YtnbpdffdnphbeaaGreatDoorItoa
import Derived.WalkSmall
namespace Go.Proofs.YtnbpdffdnphbeaaGreatDoor
open Go.RowKit
variable{N:List zX}{W gN:Nat}{w:World}
def Tab(w:World):Prop:=Lib.TabIs Tryz.prog w "internal/strconv.uint64pow10" .u64 Lib.pow10Tab
abbrev fP:=Bs × Bool
structure zHL(w:World)(W:Nat)(st:fP):Prop where
 wr:Wr w W st.1 st.2
 tab:Tab w
 gl:∃g,Tryz.prog.globalNamed "internal/strconv.uint64pow10" = some g/\g<W
theorem Tab.below{w':World}(h:Tab w)(hg:∃g,Tryz.prog.globalNamed "internal/strconv.uint64pow10" = some g/\g<W)(hb:Below W w w'):Tab w':=by
 obtain⟨g,h1,h2⟩:=hg;exact var?_below hb h1 h2 h
theorem zHL.step{w':World}{st st':fP}(h:zHL w W st)(hw:Wr w' W st'.1 st'.2)(hk:KT W w w'):zHL w' W st':=⟨hw,h.tab.below h.gl hk.below,h.gl⟩
theorem Wr.new{out:Bs}{il:Bool}(h:Wr w W out il)(o:Obj):Wr (w.alloc o) W out il:=by
 obtain⟨ov,h1,h2⟩:=h;exact⟨ov,yJ h1,h2.alloc _⟩
theorem zHL.new{st:fP}(h:zHL w W st)(o:Obj):zHL (w.alloc o) W st :=
 h.step (h.wr.new o) ((KT.refl W w).new (p8 h.wr.lt) o)
def yU(t:Bs)(st:fP):fP:=(zHW st.1 st.2 t,true)
def eK(n:Int)(st:fP):fP:=yU (Lib.itoa n) st
def zGX:Nat:=5000000
def KZ(x:zX)(st:fP):fP :=
 if x.kind=4 then yU [97,108,119,97,121,115] st
 else if x.kind=5 then yU x.name (yU [104,97,115] st)
 else if x.kind=6 then yU x.name st
 else if x.other.isEmpty=true then eK x.num (yU x.mark (yU x.name st))
 else yU x.other (yU x.mark (yU x.name st))
def nz:zX:=⟨0,0,0,[],[],[],0⟩
def qZ(N:List zX)(a:Nat):zX:=N.getD a nz
def Dp(N:List zX)(f:Nat->fP->fP)(a:Nat)(st:fP):fP:=if (qZ N a).kind=1 then yU xT (f a (yU yP st)) else f a st
def zG6(N:List zX)(f:Nat->fP->fP)(a:Nat)(st:fP):fP:=if (qZ N a).kind=1\/(qZ N a).kind=2 then yU xT (f a (yU yP st)) else f a st
def gU(N:List zX):Nat->Nat->fP->fP
 | 0,_,st=>st
 | n+1,a,st =>
   if (qZ N a).kind=1 then gU N n (qZ N a).right.toNat (yU xX (gU N n (qZ N a).left.toNat st))
   else if (qZ N a).kind=2 then Dp N (gU N n) (qZ N a).right.toNat (yU yE (Dp N (gU N n) (qZ N a).left.toNat st))
   else if (qZ N a).kind=3 then zG6 N (gU N n) (qZ N a).left.toNat (yU yW st)
   else KZ (qZ N a) st
def cQ(N:List zX):Prop:=∀a,a<N.length ->
 ((qZ N a).kind=1->0<=(qZ N a).left/\(qZ N a).left<a/\0<=(qZ N a).right/\(qZ N a).right<a) /\
 ((qZ N a).kind=2->0<=(qZ N a).left/\(qZ N a).left<a/\0<=(qZ N a).right/\(qZ N a).right<a) /\
 ((qZ N a).kind=3->0<=(qZ N a).left/\(qZ N a).left<a) /\
 (¬(qZ N a).kind=1->¬(qZ N a).kind=2->¬(qZ N a).kind=3->(4<=(qZ N a).kind/\(qZ N a).kind<=7)/\0<=(qZ N a).num/\(qZ N a).num<=9999)
structure YH(w:World)(gN:Nat)(yV:Array Value)(N:List zX):Prop where
 blk:w.heap[gN]? = some (.cells yV 304 (0,0))
 row:yV.toList.take (N.length*7)=fW N
theorem YH.new{yV:Array Value}(h:YH w gN yV N)(o:Obj):YH (w.alloc o) gN yV N:=⟨yJ h.blk,h.row⟩
theorem GN(N:List zX):∀i,i<N.length->∀j,j<7->(fW N)[i*7+j]? = (X3 (qZ N i))[j]? := by
 induction N with
 | nil=>intro i h;simp at h
 | cons t r ih =>
   intro i h j hj;have e:fW (t::r)=X3 t++fW r:=by simp[fW]
   have hl:(X3 t).length=7:=rfl
   cases i with
   | zero=>rw[e,m6 (by rw[hl];omega)];simp[qZ]
   | succ i =>
     rw[e,pf (by rw[hl];omega),hl,show (i+1)*7+j-7=i*7+j by omega,ih i (by simpa using h) j hj];simp[qZ]
theorem YH.cells{yV:Array Value}(h:YH w gN yV N){a:Nat}(ha:a<N.length) :
 w.cell? ⟨gN,a*7,none⟩=some (.int .i64 (qZ N a).kind)/\w.cell? ⟨gN,a*7+1,none⟩=some (.int .i64 (qZ N a).left)/\w.cell? ⟨gN,a*7+2,none⟩=some (.int .i64 (qZ N a).right)/\w.cell? ⟨gN,a*7+3,none⟩=some (.string ⟨(qZ N a).name.toArray⟩)/\w.cell? ⟨gN,a*7+4,none⟩=some (.string ⟨(qZ N a).mark.toArray⟩)/\w.cell? ⟨gN,a*7+5,none⟩=some (.string ⟨(qZ N a).other.toArray⟩)/\w.cell? ⟨gN,a*7+6,none⟩=some (.int .i64 (qZ N a).num):=by
 have hg:=fun j (hj:j<7)=>GN N a ha j hj;refine⟨xC h.blk h.row (hg 0 (by omega)),xC h.blk h.row (hg 1 (by omega)),xC h.blk h.row (hg 2 (by omega)),xC h.blk h.row (hg 3 (by omega)),xC h.blk h.row (hg 4 (by omega)),xC h.blk h.row (hg 5 (by omega)),xC h.blk h.row (hg 6 (by omega))⟩
theorem YH.lt{yV:Array Value}(h:YH w gN yV N):gN<w.heap.size:=by
 rcases po gN w.heap.size with h1|h1
 ·exact h1
 ·have h2:=h.blk;rw[pj h1]at h2;cases h2
end Go.Proofs.YtnbpdffdnphbeaaGreatDoor
