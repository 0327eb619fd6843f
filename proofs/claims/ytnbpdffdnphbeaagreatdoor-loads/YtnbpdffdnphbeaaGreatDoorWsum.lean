import Derived.Test.YtnbpdffdnphbeaaGreatDoorWnum
namespace Go.Proofs.YtnbpdffdnphbeaaGreatDoor
open Go.RowKit
variable{ls:List LX}{S:List yX}{gS:Nat}{w:World}
def Df(x:yX)(st:fP):fP :=
 match x.starred with
 | true=>yU x.name (yU [42] (eK x.num st))
 | false=>match x.name.isEmpty with
   | true=>eK x.num st
   | false=>yU x.name st
def De(m:Bool)(i:Nat)(st:fP):fP:=match m with|true=>yU [45] st|false=>if 0<i then yU [43] st else st
def Yf:List yX->Nat->fP->fP
 | [],_,st=>st
 | x::r,i,st=>Yf r (i+1) (Df x (De x.minus i st))
def xz:yX:=⟨false,false,0,[]⟩
def Y7(S:List yX)(i:Nat):yX:=S.getD i xz
structure YF(w:World)(gS:Nat)(yV:Array Value)(S:List yX):Prop where
 blk:w.heap[gS]? = some (.cells yV 301 (0,0))
 row:yV.toList.take (S.length*4)=cL S
theorem GK(S:List yX):∀i,i<S.length->∀j,j<4->(cL S)[i*4+j]? = (Yo (Y7 S i))[j]? := by
 induction S with
 | nil=>intro i h;simp at h
 | cons t r ih =>
   intro i h j hj;have e:cL (t::r)=Yo t++cL r:=by simp[cL]
   have hl:(Yo t).length=4:=rfl
   cases i with
   | zero=>rw[e,m6 (by rw[hl];omega)];simp[Y7]
   | succ i =>
     rw[e,pf (by rw[hl];omega),hl,show (i+1)*4+j-4=i*4+j by omega,ih i (by simpa using h) j hj];simp[Y7]
theorem YF.cells{yV:Array Value}(h:YF w gS yV S){a:Nat}(ha:a<S.length) :
 w.cell? ⟨gS,a*4,none⟩=some (.bool (Y7 S a).minus)/\w.cell? ⟨gS,a*4+1,none⟩=some (.bool (Y7 S a).starred)/\w.cell? ⟨gS,a*4+2,none⟩=some (.int .i64 (Y7 S a).num)/\w.cell? ⟨gS,a*4+3,none⟩=some (.string ⟨(Y7 S a).name.toArray⟩):=by
 have hg:=fun j (hj:j<4)=>GK S a ha j hj;exact⟨xC h.blk h.row (hg 0 (by omega)),xC h.blk h.row (hg 1 (by omega)),xC h.blk h.row (hg 2 (by omega)),xC h.blk h.row (hg 3 (by omega))⟩
theorem YF.lt{yV:Array Value}(h:YF w gS yV S):gS<w.heap.size:=by
 rcases po gS w.heap.size with h1|h1
 ·exact h1
 ·have h2:=h.blk;rw[pj h1]at h2;cases h2
theorem zI3(S:List yX)(k:Nat)(h:k<S.length):S.drop k=Y7 S k::S.drop (k+1):=by
 rw[pb h];simp[Y7,List.getD,h]
def eL(st:fP):fP:=(st.1++[59,10],false)
theorem YF.new{yV:Array Value}(h:YF w gS yV S)(o:Obj):YF (w.alloc o) gS yV S:=⟨yJ h.blk,h.row⟩
def QN(x:zF)(st:fP):fP :=
 if x.kind=1 then eL (eK x.high (yU [46,46] (eK x.low (yU x.name (yU [110,117,109] st)))))
 else if x.kind=2 then eL (yU x.name (yU [102,108,97,103] st))
 else if x.kind=3 then eL (gU x.nd x.nd.length x.root.toNat (yU xO (Yf x.sum 0 (yU [61] (yU x.conc (yU [58] (yU x.name (yU zQ st))))))))
 else eL (yU x.lower (yU x.name (yU [111,118,101,114] st)))
structure dG(x:zF):Prop where
 kinds:x.kind=1\/x.kind=2\/x.kind=3\/x.kind=4
 lo0:0<=x.low
 lo1:x.low<=9999
 hi0:0<=x.high
 hi1:x.high<=9999
 sums:∀a,a<x.sum.length->0<=(Y7 x.sum a).num/\(Y7 x.sum a).num<=9999
 sumN:x.sum.length<=10000
 nodes:cQ x.nd
 rule:x.kind=3->0<x.sum.length/\0<=x.root/\x.root<(x.nd.length:Int)
structure Q0(w:World)(x:LX):Prop where
 s1:∃a n c,x.2.1=.slice a n c
 s2:∃a n c,x.2.2=.slice a n c
 sum:0<x.1.sum.length->∃g c yV,x.2.1=.slice (some ⟨g,0,none⟩) x.1.sum.length c/\YF w g yV x.1.sum
 nod:0<x.1.nd.length->∃g c yV,x.2.2=.slice (some ⟨g,0,none⟩) x.1.nd.length c/\YH w g yV x.1.nd
theorem Q0.of_rows{B:Nat}{x:LX}(h:tK w B x.2.1 x.2.2 x.1):Q0 w x:=by
 refine⟨pJ h.1,pJ h.2,fun h0=>?_,fun h0=>?_⟩
 ·rcases h.1.2 with ⟨_,h2⟩|⟨g,cap,yV,h1,_,h3,_,_,_,h7⟩
  ·omega
  ·exact⟨g,cap,yV,h1,h3,h7⟩
 ·rcases h.2.2 with ⟨_,h2⟩|⟨g,cap,yV,h1,_,h3,_,_,_,h7⟩
  ·omega
  ·exact⟨g,cap,yV,h1,h3,h7⟩
def lz:LX:=(⟨0,[],0,0,[],[],[],0,0,0,[]⟩,(.slice none 0 0,.slice none 0 0))
def mX(ls:List LX)(i:Nat):LX:=ls.getD i lz
structure UO(w:World)(gl:Nat)(yV:Array Value)(ls:List LX):Prop where
 blk:w.heap[gl]? = some (.cells yV 234 (0,0))
 row:yV.toList.take (ls.length*11)=lW ls
theorem UO.lt{gl:Nat}{yV:Array Value}(h:UO w gl yV ls):gl<w.heap.size:=by
 rcases po gl w.heap.size with h1|h1
 ·exact h1
 ·have h2:=h.blk;rw[pj h1]at h2;cases h2
theorem GO(ls:List LX):∀i,i<ls.length->∀j,j<11->(lW ls)[i*11+j]? = (eD (mX ls i))[j]? := by
 induction ls with
 | nil=>intro i h;simp at h
 | cons t r ih =>
   intro i h j hj;have e:lW (t::r)=eD t++lW r:=by simp[lW]
   have hl:(eD t).length=11:=rfl
   cases i with
   | zero=>rw[e,m6 (by rw[hl];omega)];simp[mX]
   | succ i =>
     rw[e,pf (by rw[hl];omega),hl,show (i+1)*11+j-11=i*11+j by omega,ih i (by simpa using h) j hj];simp[mX]
theorem UO.cell{gl:Nat}{yV:Array Value}(h:UO w gl yV ls){a:Nat}(ha:a<ls.length)(j:Nat)(hj:j<11){u:Value}(hu:(eD (mX ls a))[j]? = some u):w.cell? ⟨gl,a*11+j,none⟩=some u :=
 xC h.blk h.row ((GO ls a ha j hj).trans hu)
theorem YS{k:Nat}(h:k<ls.length):mX ls k∈ls:=by simp[mX,List.getD,h]
def JQ:List zF->fP->fP
 | [],st=>st
 | x::r,st=>JQ r (QN x st)
structure JH(n:Nat)(l:Bs):Prop where
 fails:(yZ l).2.2=true->0<=tQ l
 reads:(yZ l).2.2=false->tQ l<0
 good:(yZ l).2.2=false->∀x∈(yZ l).1,dG x
 many:(yZ l).1.length<=10000
 text:(yZ l).2.2=false->(JQ (yZ l).1 ([],false)).1=Di n l
 short:(Di n l).length<=zGX
 goodR:tQ l<0->∀p∈qR (yR l 0),Ui n (nV (yR l 0) p)
end Go.Proofs.YtnbpdffdnphbeaaGreatDoor
