import Derived.Test.YtnbpdffdnphbeaaGreatDoorPut
import Derived.Test.YtnbpdffdnphbeaaGreatDoorItoa
import Derived.WalkSmall
namespace Go.Proofs.YtnbpdffdnphbeaaGreatDoor
open Go.RowKit
variable{N:List zX}{W gN:Nat}{w:World}
def Tab(w:World):Prop:=Lib.TabIs Tryz.prog w "internal/strconv.uint64pow10" .u64 Lib.pow10Tab
abbrev fT:=Bs × Bool
structure zHE(w:World)(W:Nat)(st:fT):Prop where
 wr:Wr w W st.1 st.2
 tab:Tab w
 gl:∃g,Tryz.prog.globalNamed "internal/strconv.uint64pow10" = some g/\g<W
theorem Tab.below{w':World}(h:Tab w)(hg:∃g,Tryz.prog.globalNamed "internal/strconv.uint64pow10" = some g/\g<W)(hb:Below W w w'):Tab w':=by
 obtain⟨g,h1,h2⟩:=hg;exact var?_below hb h1 h2 h
theorem zHE.step{w':World}{st st':fT}(h:zHE w W st)(hw:Wr w' W st'.1 st'.2)(hk:KT W w w'):zHE w' W st':=⟨hw,h.tab.below h.gl hk.below,h.gl⟩
theorem Wr.new{out:Bs}{il:Bool}(h:Wr w W out il)(o:Obj):Wr (w.alloc o) W out il:=by
 obtain⟨ov,h1,h2⟩:=h;exact⟨ov,yJ h1,h2.alloc _⟩
theorem zHE.new{st:fT}(h:zHE w W st)(o:Obj):zHE (w.alloc o) W st :=
 h.step (h.wr.new o) ((KT.refl W w).new (p8 h.wr.lt) o)
def yV(t:Bs)(st:fT):fT:=(zHQ st.1 st.2 t,true)
def eK(n:Int)(st:fT):fT:=yV (Lib.itoa n) st
def zGT:Nat:=5000000
def Vf(x:zX)(st:fT):fT :=
 if x.kind=4 then yV [97,108,119,97,121,115] st
 else if x.kind=5 then yV x.name (yV [104,97,115] st)
 else if x.kind=6 then yV x.name st
 else if x.other.isEmpty=true then eK x.num (yV x.mark (yV x.name st))
 else yV x.other (yV x.mark (yV x.name st))
def nz:zX:=⟨0,0,0,[],[],[],0⟩
def kE(N:List zX)(a:Nat):zX:=N.getD a nz
def Dw(N:List zX)(f:Nat->fT->fT)(a:Nat)(st:fT):fT:=if (kE N a).kind=1 then yV xS (f a (yV yQ st)) else f a st
def zG0(N:List zX)(f:Nat->fT->fT)(a:Nat)(st:fT):fT:=if (kE N a).kind=1\/(kE N a).kind=2 then yV xS (f a (yV yQ st)) else f a st
def gX(N:List zX):Nat->Nat->fT->fT
 | 0,_,st=>st
 | n+1,a,st =>
   if (kE N a).kind=1 then gX N n (kE N a).right.toNat (yV xW (gX N n (kE N a).left.toNat st))
   else if (kE N a).kind=2 then Dw N (gX N n) (kE N a).right.toNat (yV yE (Dw N (gX N n) (kE N a).left.toNat st))
   else if (kE N a).kind=3 then zG0 N (gX N n) (kE N a).left.toNat (yV yY st)
   else Vf (kE N a) st
def cT(N:List zX):Prop:=∀a,a<N.length ->
 ((kE N a).kind=1->0<=(kE N a).left/\(kE N a).left<a/\0<=(kE N a).right/\(kE N a).right<a) /\
 ((kE N a).kind=2->0<=(kE N a).left/\(kE N a).left<a/\0<=(kE N a).right/\(kE N a).right<a) /\
 ((kE N a).kind=3->0<=(kE N a).left/\(kE N a).left<a) /\
 (¬(kE N a).kind=1->¬(kE N a).kind=2->¬(kE N a).kind=3->(4<=(kE N a).kind/\(kE N a).kind<=7)/\0<=(kE N a).num/\(kE N a).num<=9999)
structure YL(w:World)(gN:Nat)(yW:Array Value)(N:List zX):Prop where
 blk:w.heap[gN]? = some (.cells yW 304 (0,0))
 row:yW.toList.take (N.length*7)=fZ N
theorem YL.new{yW:Array Value}(h:YL w gN yW N)(o:Obj):YL (w.alloc o) gN yW N:=⟨yJ h.blk,h.row⟩
theorem GR(N:List zX):∀i,i<N.length->∀j,j<7->(fZ N)[i*7+j]? = (XA (kE N i))[j]? := by
 induction N with
 | nil=>intro i h;simp at h
 | cons t r ih =>
   intro i h j hj;have e:fZ (t::r)=XA t++fZ r:=by simp[fZ]
   have hl:(XA t).length=7:=rfl
   cases i with
   | zero=>rw[e,pw (by rw[hl];omega)];simp[kE]
   | succ i =>
     rw[e,pf (by rw[hl];omega),hl,show (i+1)*7+j-7=i*7+j by omega,ih i (by simpa using h) j hj];simp[kE]
theorem YL.cells{yW:Array Value}(h:YL w gN yW N){a:Nat}(ha:a<N.length) :
 w.cell? ⟨gN,a*7,none⟩=some (.int .i64 (kE N a).kind)/\w.cell? ⟨gN,a*7+1,none⟩=some (.int .i64 (kE N a).left)/\w.cell? ⟨gN,a*7+2,none⟩=some (.int .i64 (kE N a).right)/\w.cell? ⟨gN,a*7+3,none⟩=some (.string ⟨(kE N a).name.toArray⟩)/\w.cell? ⟨gN,a*7+4,none⟩=some (.string ⟨(kE N a).mark.toArray⟩)/\w.cell? ⟨gN,a*7+5,none⟩=some (.string ⟨(kE N a).other.toArray⟩)/\w.cell? ⟨gN,a*7+6,none⟩=some (.int .i64 (kE N a).num):=by
 have hg:=fun j (hj:j<7)=>GR N a ha j hj;refine⟨xB h.blk h.row (hg 0 (by omega)),xB h.blk h.row (hg 1 (by omega)),xB h.blk h.row (hg 2 (by omega)),xB h.blk h.row (hg 3 (by omega)),xB h.blk h.row (hg 4 (by omega)),xB h.blk h.row (hg 5 (by omega)),xB h.blk h.row (hg 6 (by omega))⟩
theorem YL.lt{yW:Array Value}(h:YL w gN yW N):gN<w.heap.size:=by
 rcases po gN w.heap.size with h1|h1
 ·exact h1
 ·have h2:=h.blk;rw[pj h1]at h2;cases h2
end Go.Proofs.YtnbpdffdnphbeaaGreatDoor
