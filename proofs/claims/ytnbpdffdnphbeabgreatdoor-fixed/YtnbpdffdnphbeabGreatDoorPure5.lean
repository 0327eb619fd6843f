import Derived.Test.YtnbpdffdnphbeabGreatDoorPWeight
namespace Go.Proofs.YtnbpdffdnphbeabGreatDoor
def zA1(x:yT)(v:vL):Prop :=
 (∃a b c,v=[a,b,c]/\uS a.2=dG/\uS b.2=[42]/\uS c.2=rK/\c.2≠[]/\x.starred=true/\x.num=jT 0 a.2/\x.name=c.2) \/
 (∃a,v=[a]/\uS a.2=dG/\x.starred=false/\x.num=jT 0 a.2/\x.name=[]) \/
 (∃a,v=[a]/\uS a.2=rK/\a.2≠[]/\x.starred=false/\x.num=0/\x.name=a.2)
def zCC:Bool->List yT->vL->Prop
 | _,[],_=>False
 | m,x::r,v=>x.minus=m/\((r=[]/\zA1 x v)\/∃v1 t v2,v=v1++t::v2/\zA1 x v1/\((uS t.2=[45]/\zCC true r v2)\/(uS t.2=[43]/\zCC false r v2)))
def kNum:Bs:=[110,117,109]
def zDI:Bs:=[102,108,97,103]
def Ff:Bs:=[111,118,101,114]
structure jz(x:zE)(u:vL)(w:Nat):Prop where
 whenAt:j5 u 0=some w
 wlo:5<w
 whi:w+1<u.length
 conc:tA u 3=x.conc
 ne:x.conc≠[]
 parts:js (u.take w)+1=x.sum.length
 big:zDR [] (u.take w)=x.sum.any kX
 stars:∀k,k<w->cA u k=[42]->0<k/\cA u (k-1)=dG
 needs:jh ((u.take w).drop 5)=x.sum.flatMap zD5
 needs2:ji uP (u.drop (w+1)) []=zAZ x.nd
 wt:WtIs (u.drop (w+1)) (x.tests,x.dep)
 good:∀n,u.length<n->ZB n (u.drop (w+1))=true
 sums:zCC false x.sum ((u.take w).drop 5)
 gr:∃k y,Gr k (u.drop (w+1)) y x.nd x.root
structure LT(x:zE)(u:vL):Prop where
 two:2<=u.length
 toks:GC u
 name:tA u 1=x.name
 kind:(x.kind=1/\cA u 0=kNum/\5<=u.length/\cA u 2=dG/\cA u 4=dG/\jT 0 (tA u 2)=x.low/\jT 0 (tA u 4)=x.high)\/(x.kind=2/\cA u 0=zDI) \/
  (x.kind=4/\cA u 0=Ff/\3<=u.length/\tA u 2=x.lower)\/(x.kind=3/\cA u 0=Zt/\∃w,jz x u w)
theorem GC.get{ts:vL}(h:GC ts){i:Nat}(hi:i<ts.length):GD (TT ts i).2:=h.at' hi
def bK:List zE->List vL->Prop
 | [],[]=>True
 | x::xs,u::us=>LT x u/\bK xs us
 | _,_=>False
end Go.Proofs.YtnbpdffdnphbeabGreatDoor
