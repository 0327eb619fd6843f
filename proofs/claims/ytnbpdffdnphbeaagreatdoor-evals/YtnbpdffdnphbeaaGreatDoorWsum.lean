import Derived.Test.YtnbpdffdnphbeaaGreatDoorWnum
namespace Go.Proofs.YtnbpdffdnphbeaaGreatDoor
open Go.RowKit
def Ct(x:xC)(st:fW):fW :=
 match x.starred with
 | true=>xD x.name (xD [42] (eV x.num st))
 | false=>match x.name.isEmpty with
   | true=>eV x.num st
   | false=>xD x.name st
def Cr(m:Bool)(i:Nat)(st:fW):fW:=match m with|true=>xD [45] st|false=>if 0<i then xD [43] st else st
def ZP:List xC->Nat->fW->fW
 | [],_,st=>st
 | x::r,i,st=>ZP r (i+1) (Ct x (Cr x.minus i st))
def xz:xC:=⟨false,false,0,[]⟩
def ZO(S:List xC)(i:Nat):xC:=S.getD i xz
structure Y0(w:World)(gS:Nat)(yO:Array Value)(S:List xC):Prop where
 blk:w.heap[gS]? = some (.cells yO 301 (0,0))
 row:yO.toList.take (S.length*4)=cM S
theorem FF(S:List xC):∀i,i<S.length->∀j,j<4->(cM S)[i*4+j]? = (ZV (ZO S i))[j]? := by
 induction S with
 | nil=>intro i h;simp at h
 | cons t r ih =>
   intro i h j hj;have e:cM (t::r)=ZV t++cM r:=by simp[cM]
   have hl:(ZV t).length=4:=rfl
   cases i with
   | zero=>rw[e,List.getElem?_append_left (by rw[hl];omega)];simp[ZO]
   | succ i =>
     rw[e,List.getElem?_append_right (by rw[hl];omega),hl,show (i+1)*4+j-4=i*4+j by omega,ih i (by simpa using h) j hj];simp[ZO]
theorem Y0.cells{w:World}{gS:Nat}{yO:Array Value}{S:List xC}(h:Y0 w gS yO S){a:Nat}(ha:a<S.length) :
 w.cell? ⟨gS,a*4,none⟩=some (.bool (ZO S a).minus)/\w.cell? ⟨gS,a*4+1,none⟩=some (.bool (ZO S a).starred)/\w.cell? ⟨gS,a*4+2,none⟩=some (.int .i64 (ZO S a).num)/\w.cell? ⟨gS,a*4+3,none⟩=some (.string ⟨(ZO S a).name.toArray⟩):=by
 have hg:=fun j (hj:j<4)=>FF S a ha j hj;exact⟨xQ h.blk h.row (hg 0 (by omega)),xQ h.blk h.row (hg 1 (by omega)),xQ h.blk h.row (hg 2 (by omega)),xQ h.blk h.row (hg 3 (by omega))⟩
theorem Y0.lt{w:World}{gS:Nat}{yO:Array Value}{S:List xC}(h:Y0 w gS yO S):gS<w.heap.size:=by
 rcases Nat.lt_or_ge gS w.heap.size with h1|h1
 ·exact h1
 ·have h2:=h.blk;rw[Array.getElem?_eq_none h1]at h2;cases h2
theorem zFQ(S:List xC)(k:Nat)(h:k<S.length):S.drop k=ZO S k::S.drop (k+1):=by
 rw[List.drop_eq_getElem_cons h];simp[ZO,List.getD,h]
def eW(st:fW):fW:=(st.1++[59,10],false)
theorem Y0.new{w:World}{gS:Nat}{yO:Array Value}{S:List xC}(h:Y0 w gS yO S)(o:Obj):Y0 (w.alloc o) gS yO S:=⟨zQ h.blk,h.row⟩
def Qx(x:zH)(st:fW):fW :=
 if x.kind=1 then eW (eV x.high (xD [46,46] (eV x.low (xD x.name (xD [110,117,109] st)))))
 else if x.kind=2 then eW (xD x.name (xD [102,108,97,103] st))
 else if x.kind=3 then eW (nM x.nd x.nd.length x.root.toNat (xD xY (ZP x.sum 0 (xD [61] (xD x.conc (xD [58] (xD x.name (xD zW st))))))))
 else eW (xD x.lower (xD x.name (xD [111,118,101,114] st)))
structure gW(x:zH):Prop where
 kinds:x.kind=1\/x.kind=2\/x.kind=3\/x.kind=4
 lo0:0<=x.low
 lo1:x.low<=9999
 hi0:0<=x.high
 hi1:x.high<=9999
 sums:∀a,a<x.sum.length->0<=(ZO x.sum a).num/\(ZO x.sum a).num<=9999
 sumN:x.sum.length<=10000
 nodes:dF x.nd
 rule:x.kind=3->0<x.sum.length/\0<=x.root/\x.root<(x.nd.length:Int)
structure Qa(w:World)(x:LX):Prop where
 s1:∃a n c,x.2.1=.slice a n c
 s2:∃a n c,x.2.2=.slice a n c
 sum:0<x.1.sum.length->∃g c yO,x.2.1=.slice (some ⟨g,0,none⟩) x.1.sum.length c/\Y0 w g yO x.1.sum
 nod:0<x.1.nd.length->∃g c yO,x.2.2=.slice (some ⟨g,0,none⟩) x.1.nd.length c/\Y1 w g yO x.1.nd
theorem Qa.of_rows{w:World}{B:Nat}{x:LX}(h:tC w B x.2.1 x.2.2 x.1):Qa w x:=by
 refine⟨pE h.1,pE h.2,fun h0=>?_,fun h0=>?_⟩
 ·rcases h.1.2 with ⟨_,h2⟩|⟨g,cap,yO,h1,_,h3,_,_,_,h7⟩
  ·omega
  ·exact⟨g,cap,yO,h1,h3,h7⟩
 ·rcases h.2.2 with ⟨_,h2⟩|⟨g,cap,yO,h1,_,h3,_,_,_,h7⟩
  ·omega
  ·exact⟨g,cap,yO,h1,h3,h7⟩
def lz:LX:=(⟨0,[],0,0,[],[],[],0,0,0,[]⟩,(.slice none 0 0,.slice none 0 0))
def mW(ls:List LX)(i:Nat):LX:=ls.getD i lz
structure Ud(w:World)(gl:Nat)(yO:Array Value)(ls:List LX):Prop where
 blk:w.heap[gl]? = some (.cells yO 234 (0,0))
 row:yO.toList.take (ls.length*11)=lP ls
theorem Ud.lt{w:World}{gl:Nat}{yO:Array Value}{ls:List LX}(h:Ud w gl yO ls):gl<w.heap.size:=by
 rcases Nat.lt_or_ge gl w.heap.size with h1|h1
 ·exact h1
 ·have h2:=h.blk;rw[Array.getElem?_eq_none h1]at h2;cases h2
theorem FI(ls:List LX):∀i,i<ls.length->∀j,j<11->(lP ls)[i*11+j]? = (eO (mW ls i))[j]? := by
 induction ls with
 | nil=>intro i h;simp at h
 | cons t r ih =>
   intro i h j hj;have e:lP (t::r)=eO t++lP r:=by simp[lP]
   have hl:(eO t).length=11:=rfl
   cases i with
   | zero=>rw[e,List.getElem?_append_left (by rw[hl];omega)];simp[mW]
   | succ i =>
     rw[e,List.getElem?_append_right (by rw[hl];omega),hl,show (i+1)*11+j-11=i*11+j by omega,ih i (by simpa using h) j hj];simp[mW]
theorem Ud.cell{w:World}{gl:Nat}{yO:Array Value}{ls:List LX}(h:Ud w gl yO ls){a:Nat}(ha:a<ls.length)(j:Nat)(hj:j<11){u:Value}(hu:(eO (mW ls a))[j]? = some u):w.cell? ⟨gl,a*11+j,none⟩=some u :=
 xQ h.blk h.row ((FI ls a ha j hj).trans hu)
theorem Y9{ls:List LX}{k:Nat}(h:k<ls.length):mW ls k∈ls:=by simp[mW,List.getD,h]
def Jt:List zH->fW->fW
 | [],st=>st
 | x::r,st=>Jt r (Qx x st)
structure VY(n:Nat)(l:Bs):Prop where
 fails:(xS l).2.2=true->0<=tL l
 reads:(xS l).2.2=false->tL l<0
 good:(xS l).2.2=false->∀x∈(xS l).1,gW x
 many:(xS l).1.length<=10000
 text:(xS l).2.2=false->(Jt (xS l).1 ([],false)).1=Cw n l
 short:(Cw n l).length<=zEM
 goodR:tL l<0->∀p∈qM (zP l 0),Vs n (oH (zP l 0) p)
end Go.Proofs.YtnbpdffdnphbeaaGreatDoor
