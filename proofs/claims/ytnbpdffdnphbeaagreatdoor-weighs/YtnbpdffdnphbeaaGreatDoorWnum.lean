import Derived.Test.YtnbpdffdnphbeaaGreatDoorPut
import Derived.Test.YtnbpdffdnphbeaaGreatDoorItoa
import Derived.WalkSmall
namespace Go.Proofs.YtnbpdffdnphbeaaGreatDoor
open Go.RowKit
def Tab(w:World):Prop:=Lib.TabIs Tryz.prog w "internal/strconv.uint64pow10" .u64 Lib.pow10Tab
abbrev fW:=Bs × Bool
structure zFB(w:World)(W:Nat)(st:fW):Prop where
 wr:Wr w W st.1 st.2
 tab:Tab w
 gl:∃g,Tryz.prog.globalNamed "internal/strconv.uint64pow10" = some g/\g<W
theorem Tab.below{w w':World}{W:Nat}(h:Tab w)(hg:∃g,Tryz.prog.globalNamed "internal/strconv.uint64pow10" = some g/\g<W)(hb:Below W w w'):Tab w':=by
 obtain⟨g,h1,h2⟩:=hg;exact var?_below hb h1 h2 h
theorem zFB.step{w w':World}{W:Nat}{st st':fW}(h:zFB w W st)(hw:Wr w' W st'.1 st'.2)(hk:KT W w w'):zFB w' W st':=⟨hw,h.tab.below h.gl hk.below,h.gl⟩
theorem Wr.new{w:World}{W:Nat}{out:Bs}{il:Bool}(h:Wr w W out il)(o:Obj):Wr (w.alloc o) W out il:=by
 obtain⟨ov,h1,h2⟩:=h;exact⟨ov,zQ h1,h2.alloc _⟩
theorem zFB.new{w:World}{W:Nat}{st:fW}(h:zFB w W st)(o:Obj):zFB (w.alloc o) W st :=
 h.step (h.wr.new o) ((KT.refl W w).new (Nat.le_of_lt h.wr.lt) o)
def xC(t:Bs)(st:fW):fW:=(zFK st.1 st.2 t,true)
def eT(n:Int)(st:fW):fW:=xC (Lib.itoa n) st
def zEN:Nat:=5000000
def Kp(x:yB)(st:fW):fW :=
 if x.kind=4 then xC [97,108,119,97,121,115] st
 else if x.kind=5 then xC x.name (xC [104,97,115] st)
 else if x.kind=6 then xC x.name st
 else if x.other.isEmpty=true then eT x.num (xC x.mark (xC x.name st))
 else xC x.other (xC x.mark (xC x.name st))
def nz:yB:=⟨0,0,0,[],[],[],0⟩
def qX(N:List yB)(a:Nat):yB:=N.getD a nz
def C3(N:List yB)(f:Nat->fW->fW)(a:Nat)(st:fW):fW:=if (qX N a).kind=1 then xC vD (f a (xC yU st)) else f a st
def zDR(N:List yB)(f:Nat->fW->fW)(a:Nat)(st:fW):fW:=if (qX N a).kind=1\/(qX N a).kind=2 then xC vD (f a (xC yU st)) else f a st
def nL(N:List yB):Nat->Nat->fW->fW
 | 0,_,st=>st
 | n+1,a,st =>
   if (qX N a).kind=1 then nL N n (qX N a).right.toNat (xC vK (nL N n (qX N a).left.toNat st))
   else if (qX N a).kind=2 then C3 N (nL N n) (qX N a).right.toNat (xC yL (C3 N (nL N n) (qX N a).left.toNat st))
   else if (qX N a).kind=3 then zDR N (nL N n) (qX N a).left.toNat (xC xF st)
   else Kp (qX N a) st
def dG(N:List yB):Prop:=∀a,a<N.length ->
 ((qX N a).kind=1->0<=(qX N a).left/\(qX N a).left<a/\0<=(qX N a).right/\(qX N a).right<a) /\
 ((qX N a).kind=2->0<=(qX N a).left/\(qX N a).left<a/\0<=(qX N a).right/\(qX N a).right<a) /\
 ((qX N a).kind=3->0<=(qX N a).left/\(qX N a).left<a) /\
 (¬(qX N a).kind=1->¬(qX N a).kind=2->¬(qX N a).kind=3->(4<=(qX N a).kind/\(qX N a).kind<=7)/\0<=(qX N a).num/\(qX N a).num<=9999)
structure Y2(w:World)(gN:Nat)(yP:Array Value)(N:List yB):Prop where
 blk:w.heap[gN]? = some (.cells yP 304 (0,0))
 row:yP.toList.take (N.length*7)=gM N
theorem Y2.new{w:World}{gN:Nat}{yP:Array Value}{N:List yB}(h:Y2 w gN yP N)(o:Obj):Y2 (w.alloc o) gN yP N:=⟨zQ h.blk,h.row⟩
theorem FK(N:List yB):∀i,i<N.length->∀j,j<7->(gM N)[i*7+j]? = (Xn (qX N i))[j]? := by
 induction N with
 | nil=>intro i h;simp at h
 | cons t r ih =>
   intro i h j hj;have e:gM (t::r)=Xn t++gM r:=by simp[gM]
   have hl:(Xn t).length=7:=rfl
   cases i with
   | zero=>rw[e,List.getElem?_append_left (by rw[hl];omega)];simp[qX]
   | succ i =>
     rw[e,List.getElem?_append_right (by rw[hl];omega),hl,show (i+1)*7+j-7=i*7+j by omega,ih i (by simpa using h) j hj];simp[qX]
theorem Y2.cells{w:World}{gN:Nat}{yP:Array Value}{N:List yB}(h:Y2 w gN yP N){a:Nat}(ha:a<N.length) :
 w.cell? ⟨gN,a*7,none⟩=some (.int .i64 (qX N a).kind)/\w.cell? ⟨gN,a*7+1,none⟩=some (.int .i64 (qX N a).left)/\w.cell? ⟨gN,a*7+2,none⟩=some (.int .i64 (qX N a).right)/\w.cell? ⟨gN,a*7+3,none⟩=some (.string ⟨(qX N a).name.toArray⟩)/\w.cell? ⟨gN,a*7+4,none⟩=some (.string ⟨(qX N a).mark.toArray⟩)/\w.cell? ⟨gN,a*7+5,none⟩=some (.string ⟨(qX N a).other.toArray⟩)/\w.cell? ⟨gN,a*7+6,none⟩=some (.int .i64 (qX N a).num):=by
 have hg:=fun j (hj:j<7)=>FK N a ha j hj;refine⟨xQ h.blk h.row (hg 0 (by omega)),xQ h.blk h.row (hg 1 (by omega)),xQ h.blk h.row (hg 2 (by omega)),xQ h.blk h.row (hg 3 (by omega)),xQ h.blk h.row (hg 4 (by omega)),xQ h.blk h.row (hg 5 (by omega)),xQ h.blk h.row (hg 6 (by omega))⟩
theorem Y2.lt{w:World}{gN:Nat}{yP:Array Value}{N:List yB}(h:Y2 w gN yP N):gN<w.heap.size:=by
 rcases Nat.lt_or_ge gN w.heap.size with h1|h1
 ·exact h1
 ·have h2:=h.blk;rw[Array.getElem?_eq_none h1]at h2;cases h2
end Go.Proofs.YtnbpdffdnphbeaaGreatDoor
