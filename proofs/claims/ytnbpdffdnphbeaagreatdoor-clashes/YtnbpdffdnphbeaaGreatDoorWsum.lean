import Derived.Test.YtnbpdffdnphbeaaGreatDoorWnum
namespace Go.Proofs.YtnbpdffdnphbeaaGreatDoor
open Go.RowKit
variable{ls:List LX}{S:List yZ}{gS:Nat}{w:World}
def Dm(x:yZ)(st:fT):fT :=
 match x.starred with
 | true=>yV x.name (yV [42] (eK x.num st))
 | false=>match x.name.isEmpty with
   | true=>eK x.num st
   | false=>yV x.name st
def Dl(m:Bool)(i:Nat)(st:fT):fT:=match m with|true=>yV [45] st|false=>if 0<i then yV [43] st else st
def Yk:List yZ->Nat->fT->fT
 | [],_,st=>st
 | x::r,i,st=>Yk r (i+1) (Dm x (Dl x.minus i st))
def xz:yZ:=⟨false,false,0,[]⟩
def YB(S:List yZ)(i:Nat):yZ:=S.getD i xz
structure YJ(w:World)(gS:Nat)(yW:Array Value)(S:List yZ):Prop where
 blk:w.heap[gS]? = some (.cells yW 301 (0,0))
 row:yW.toList.take (S.length*4)=cO S
theorem GO(S:List yZ):∀i,i<S.length->∀j,j<4->(cO S)[i*4+j]? = (Yt (YB S i))[j]? := by
 induction S with
 | nil=>intro i h;simp at h
 | cons t r ih =>
   intro i h j hj;have e:cO (t::r)=Yt t++cO r:=by simp[cO]
   have hl:(Yt t).length=4:=rfl
   cases i with
   | zero=>rw[e,pw (by rw[hl];omega)];simp[YB]
   | succ i =>
     rw[e,pf (by rw[hl];omega),hl,show (i+1)*4+j-4=i*4+j by omega,ih i (by simpa using h) j hj];simp[YB]
theorem YJ.cells{yW:Array Value}(h:YJ w gS yW S){a:Nat}(ha:a<S.length) :
 w.cell? ⟨gS,a*4,none⟩=some (.bool (YB S a).minus)/\w.cell? ⟨gS,a*4+1,none⟩=some (.bool (YB S a).starred)/\w.cell? ⟨gS,a*4+2,none⟩=some (.int .i64 (YB S a).num)/\w.cell? ⟨gS,a*4+3,none⟩=some (.string ⟨(YB S a).name.toArray⟩):=by
 have hg:=fun j (hj:j<4)=>GO S a ha j hj;exact⟨xB h.blk h.row (hg 0 (by omega)),xB h.blk h.row (hg 1 (by omega)),xB h.blk h.row (hg 2 (by omega)),xB h.blk h.row (hg 3 (by omega))⟩
theorem YJ.lt{yW:Array Value}(h:YJ w gS yW S):gS<w.heap.size:=by
 rcases po gS w.heap.size with h1|h1
 ·exact h1
 ·have h2:=h.blk;rw[pj h1]at h2;cases h2
theorem zHY(S:List yZ)(k:Nat)(h:k<S.length):S.drop k=YB S k::S.drop (k+1):=by
 rw[pb h];simp[YB,List.getD,h]
def eL(st:fT):fT:=(st.1++[59,10],false)
theorem YJ.new{yW:Array Value}(h:YJ w gS yW S)(o:Obj):YJ (w.alloc o) gS yW S:=⟨yJ h.blk,h.row⟩
def QV(x:zF)(st:fT):fT :=
 if x.kind=1 then eL (eK x.high (yV [46,46] (eK x.low (yV x.name (yV [110,117,109] st)))))
 else if x.kind=2 then eL (yV x.name (yV [102,108,97,103] st))
 else if x.kind=3 then eL (gX x.nd x.nd.length x.root.toNat (yV xO (Yk x.sum 0 (yV [61] (yV x.conc (yV [58] (yV x.name (yV zR st))))))))
 else eL (yV x.lower (yV x.name (yV [111,118,101,114] st)))
structure gE(x:zF):Prop where
 kinds:x.kind=1\/x.kind=2\/x.kind=3\/x.kind=4
 lo0:0<=x.low
 lo1:x.low<=9999
 hi0:0<=x.high
 hi1:x.high<=9999
 sums:∀a,a<x.sum.length->0<=(YB x.sum a).num/\(YB x.sum a).num<=9999
 sumN:x.sum.length<=10000
 nodes:cT x.nd
 rule:x.kind=3->0<x.sum.length/\0<=x.root/\x.root<(x.nd.length:Int)
structure Q8(w:World)(x:LX):Prop where
 s1:∃a n c,x.2.1=.slice a n c
 s2:∃a n c,x.2.2=.slice a n c
 sum:0<x.1.sum.length->∃g c yW,x.2.1=.slice (some ⟨g,0,none⟩) x.1.sum.length c/\YJ w g yW x.1.sum
 nod:0<x.1.nd.length->∃g c yW,x.2.2=.slice (some ⟨g,0,none⟩) x.1.nd.length c/\YL w g yW x.1.nd
theorem Q8.of_rows{B:Nat}{x:LX}(h:tL w B x.2.1 x.2.2 x.1):Q8 w x:=by
 refine⟨pM h.1,pM h.2,fun h0=>?_,fun h0=>?_⟩
 ·rcases h.1.2 with ⟨_,h2⟩|⟨g,cap,yW,h1,_,h3,_,_,_,h7⟩
  ·omega
  ·exact⟨g,cap,yW,h1,h3,h7⟩
 ·rcases h.2.2 with ⟨_,h2⟩|⟨g,cap,yW,h1,_,h3,_,_,_,h7⟩
  ·omega
  ·exact⟨g,cap,yW,h1,h3,h7⟩
def lz:LX:=(⟨0,[],0,0,[],[],[],0,0,0,[]⟩,(.slice none 0 0,.slice none 0 0))
def mZ(ls:List LX)(i:Nat):LX:=ls.getD i lz
structure UT(w:World)(gl:Nat)(yW:Array Value)(ls:List LX):Prop where
 blk:w.heap[gl]? = some (.cells yW 234 (0,0))
 row:yW.toList.take (ls.length*11)=bA ls
theorem UT.lt{gl:Nat}{yW:Array Value}(h:UT w gl yW ls):gl<w.heap.size:=by
 rcases po gl w.heap.size with h1|h1
 ·exact h1
 ·have h2:=h.blk;rw[pj h1]at h2;cases h2
theorem GT(ls:List LX):∀i,i<ls.length->∀j,j<11->(bA ls)[i*11+j]? = (eE (mZ ls i))[j]? := by
 induction ls with
 | nil=>intro i h;simp at h
 | cons t r ih =>
   intro i h j hj;have e:bA (t::r)=eE t++bA r:=by simp[bA]
   have hl:(eE t).length=11:=rfl
   cases i with
   | zero=>rw[e,pw (by rw[hl];omega)];simp[mZ]
   | succ i =>
     rw[e,pf (by rw[hl];omega),hl,show (i+1)*11+j-11=i*11+j by omega,ih i (by simpa using h) j hj];simp[mZ]
theorem UT.cell{gl:Nat}{yW:Array Value}(h:UT w gl yW ls){a:Nat}(ha:a<ls.length)(j:Nat)(hj:j<11){u:Value}(hu:(eE (mZ ls a))[j]? = some u):w.cell? ⟨gl,a*11+j,none⟩=some u :=
 xB h.blk h.row ((GT ls a ha j hj).trans hu)
theorem YY{k:Nat}(h:k<ls.length):mZ ls k∈ls:=by simp[mZ,List.getD,h]
def JT:List zF->fT->fT
 | [],st=>st
 | x::r,st=>JT r (QV x st)
structure UO(n:Nat)(l:Bs):Prop where
 fails:(xZ l).2.2=true->0<=tS l
 reads:(xZ l).2.2=false->tS l<0
 good:(xZ l).2.2=false->∀x∈(xZ l).1,gE x
 many:(xZ l).1.length<=10000
 text:(xZ l).2.2=false->(JT (xZ l).1 ([],false)).1=Dp n l
 short:(Dp n l).length<=zGT
 goodR:tS l<0->∀p∈qV (yR l 0),Un n (nZ (yR l 0) p)
end Go.Proofs.YtnbpdffdnphbeaaGreatDoor
