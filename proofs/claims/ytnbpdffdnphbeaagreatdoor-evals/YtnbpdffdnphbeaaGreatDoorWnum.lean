import Derived.Test.YtnbpdffdnphbeaaGreatDoorPut
import Derived.Test.YtnbpdffdnphbeaaGreatDoorItoa
import Derived.WalkSmall
namespace Go.Proofs.YtnbpdffdnphbeaaGreatDoor
open Go.RowKit
def Tab(w:World):Prop:=Lib.TabIs Tryz.prog w "internal/strconv.uint64pow10" .u64 Lib.pow10Tab
abbrev fW:=Bs × Bool
structure zFA(w:World)(W:Nat)(st:fW):Prop where
 wr:Wr w W st.1 st.2
 tab:Tab w
 gl:∃g,Tryz.prog.globalNamed "internal/strconv.uint64pow10" = some g/\g<W
theorem Tab.below{w w':World}{W:Nat}(h:Tab w)(hg:∃g,Tryz.prog.globalNamed "internal/strconv.uint64pow10" = some g/\g<W)(hb:Below W w w'):Tab w':=by
 obtain⟨g,h1,h2⟩:=hg;exact var?_below hb h1 h2 h
theorem zFA.step{w w':World}{W:Nat}{st st':fW}(h:zFA w W st)(hw:Wr w' W st'.1 st'.2)(hk:KT W w w'):zFA w' W st':=⟨hw,h.tab.below h.gl hk.below,h.gl⟩
theorem Wr.new{w:World}{W:Nat}{out:Bs}{il:Bool}(h:Wr w W out il)(o:Obj):Wr (w.alloc o) W out il:=by
 obtain⟨ov,h1,h2⟩:=h;exact⟨ov,zQ h1,h2.alloc _⟩
theorem zFA.new{w:World}{W:Nat}{st:fW}(h:zFA w W st)(o:Obj):zFA (w.alloc o) W st :=
 h.step (h.wr.new o) ((KT.refl W w).new (Nat.le_of_lt h.wr.lt) o)
def xD(t:Bs)(st:fW):fW:=(zFJ st.1 st.2 t,true)
def eV(n:Int)(st:fW):fW:=xD (Lib.itoa n) st
def zEM:Nat:=5000000
def Ko(x:yB)(st:fW):fW :=
 if x.kind=4 then xD [97,108,119,97,121,115] st
 else if x.kind=5 then xD x.name (xD [104,97,115] st)
 else if x.kind=6 then xD x.name st
 else if x.other.isEmpty=true then eV x.num (xD x.mark (xD x.name st))
 else xD x.other (xD x.mark (xD x.name st))
def nz:yB:=⟨0,0,0,[],[],[],0⟩
def qX(N:List yB)(a:Nat):yB:=N.getD a nz
def C2(N:List yB)(f:Nat->fW->fW)(a:Nat)(st:fW):fW:=if (qX N a).kind=1 then xD vD (f a (xD yW st)) else f a st
def zDR(N:List yB)(f:Nat->fW->fW)(a:Nat)(st:fW):fW:=if (qX N a).kind=1\/(qX N a).kind=2 then xD vD (f a (xD yW st)) else f a st
def nM(N:List yB):Nat->Nat->fW->fW
 | 0,_,st=>st
 | n+1,a,st =>
   if (qX N a).kind=1 then nM N n (qX N a).right.toNat (xD vK (nM N n (qX N a).left.toNat st))
   else if (qX N a).kind=2 then C2 N (nM N n) (qX N a).right.toNat (xD yL (C2 N (nM N n) (qX N a).left.toNat st))
   else if (qX N a).kind=3 then zDR N (nM N n) (qX N a).left.toNat (xD xG st)
   else Ko (qX N a) st
def dF(N:List yB):Prop:=∀a,a<N.length ->
 ((qX N a).kind=1->0<=(qX N a).left/\(qX N a).left<a/\0<=(qX N a).right/\(qX N a).right<a) /\
 ((qX N a).kind=2->0<=(qX N a).left/\(qX N a).left<a/\0<=(qX N a).right/\(qX N a).right<a) /\
 ((qX N a).kind=3->0<=(qX N a).left/\(qX N a).left<a) /\
 (¬(qX N a).kind=1->¬(qX N a).kind=2->¬(qX N a).kind=3->(4<=(qX N a).kind/\(qX N a).kind<=7)/\0<=(qX N a).num/\(qX N a).num<=9999)
structure Y1(w:World)(gN:Nat)(yO:Array Value)(N:List yB):Prop where
 blk:w.heap[gN]? = some (.cells yO 304 (0,0))
 row:yO.toList.take (N.length*7)=gO N
theorem Y1.new{w:World}{gN:Nat}{yO:Array Value}{N:List yB}(h:Y1 w gN yO N)(o:Obj):Y1 (w.alloc o) gN yO N:=⟨zQ h.blk,h.row⟩
theorem FH(N:List yB):∀i,i<N.length->∀j,j<7->(gO N)[i*7+j]? = (Xm (qX N i))[j]? := by
 induction N with
 | nil=>intro i h;simp at h
 | cons t r ih =>
   intro i h j hj;have e:gO (t::r)=Xm t++gO r:=by simp[gO]
   have hl:(Xm t).length=7:=rfl
   cases i with
   | zero=>rw[e,List.getElem?_append_left (by rw[hl];omega)];simp[qX]
   | succ i =>
     rw[e,List.getElem?_append_right (by rw[hl];omega),hl,show (i+1)*7+j-7=i*7+j by omega,ih i (by simpa using h) j hj];simp[qX]
theorem Y1.cells{w:World}{gN:Nat}{yO:Array Value}{N:List yB}(h:Y1 w gN yO N){a:Nat}(ha:a<N.length) :
 w.cell? ⟨gN,a*7,none⟩=some (.int .i64 (qX N a).kind)/\w.cell? ⟨gN,a*7+1,none⟩=some (.int .i64 (qX N a).left)/\w.cell? ⟨gN,a*7+2,none⟩=some (.int .i64 (qX N a).right)/\w.cell? ⟨gN,a*7+3,none⟩=some (.string ⟨(qX N a).name.toArray⟩)/\w.cell? ⟨gN,a*7+4,none⟩=some (.string ⟨(qX N a).mark.toArray⟩)/\w.cell? ⟨gN,a*7+5,none⟩=some (.string ⟨(qX N a).other.toArray⟩)/\w.cell? ⟨gN,a*7+6,none⟩=some (.int .i64 (qX N a).num):=by
 have hg:=fun j (hj:j<7)=>FH N a ha j hj;refine⟨xQ h.blk h.row (hg 0 (by omega)),xQ h.blk h.row (hg 1 (by omega)),xQ h.blk h.row (hg 2 (by omega)),xQ h.blk h.row (hg 3 (by omega)),xQ h.blk h.row (hg 4 (by omega)),xQ h.blk h.row (hg 5 (by omega)),xQ h.blk h.row (hg 6 (by omega))⟩
theorem Y1.lt{w:World}{gN:Nat}{yO:Array Value}{N:List yB}(h:Y1 w gN yO N):gN<w.heap.size:=by
 rcases Nat.lt_or_ge gN w.heap.size with h1|h1
 ·exact h1
 ·have h2:=h.blk;rw[Array.getElem?_eq_none h1]at h2;cases h2
end Go.Proofs.YtnbpdffdnphbeaaGreatDoor
