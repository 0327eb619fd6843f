import Derived.Test.YtnbpdffdnphbeabGreatDoorDBase
open Go.Proofs.Tryz
set_option maxHeartbeats 4000000
set_option maxRecDepth 100000
namespace Go.Proofs.YtnbpdffdnphbeabGreatDoor
open Go.RowKit
variable{l:List Bool}
structure nC(w:World)(a:Option Addr)(l:List Bool):Prop where
 ay:kQ w a (Kt l)
 aj:l.length<=10000
theorem nC.below{w w':World}{a:Option Addr}(h:nC w a l)(hb:Below w.heap.size w w'):nC w' a l:=⟨h.ay.below hb,h.aj⟩
theorem Ks(l:List Bool)(i:Nat)(h:i<l.length):(Kt l)[i]? = some (.bool (l.getD i false)):=by simp[Kt,List.getD,h]
theorem nC.at{w:World}{a:Option Addr}(h:nC w a l){i:Nat}(hi:i<l.length):∃g,a=some ⟨g,0,none⟩/\w.cell? ⟨g,i,none⟩=some (.bool (l.getD i false)):=h.ay.at (Ks l i hi)
def tQ(l:List Int)(a:Int):Int:=if 0<=a/\a<l.length then l.getD a.toNat 0 else 0
theorem sM(w:World)(la:Option Addr)(lc:Nat)(l:List Bool)(a:Int)(h:nC w la l) :
 Calls prog 168 #[.slice la l.length lc,.int .i64 a] w λe w'=>e=.returned (.bool (jO l a))/\w'=w:=by
 have hf:=h.aj;by_cases h0:0<=a
 ·obtain⟨n,rfl⟩:∃n:Nat,a=(n:Int):=⟨a.toNat,by omega⟩
  by_cases h1:n<l.length
  ·obtain⟨g,rfl,c⟩:=h.at h1
   have HR:Hid (jO l (n:Int)=l.getD n false):=(by unfold Hid jO;rw[tz h0,tz (by omega:(n:Int)<l.length)];rfl);generalize l.getD n false=x at *;have i1:(n:Int)<(l.length:Int):=(by omega);clear h
   go_enter func168,ntmps168
   go_wp2_with fail
   go_ret
   exact⟨zG HR.out.symm,rfl⟩
  ·have HR:Hid (jO l (n:Int)=false):=by unfold Hid jO;rw[tz h0,ty (by omega:¬(n:Int)<l.length)];rfl
   have i1:¬(n:Int)<(l.length:Int):=(by omega);clear h
   go_enter func168,ntmps168
   go_wp2_with fail
   go_ret
   exact⟨zG HR.out.symm,rfl⟩
 ·have HR:Hid (jO l a=false):=by unfold Hid jO;rw[ty h0];rfl
  clear h
  go_enter func168,ntmps168
  go_wp2_with fail
  go_ret
  exact⟨zG HR.out.symm,rfl⟩
theorem Ir(w:World)(la:Option Addr)(lc:Nat)(l:List Int)(a:Int)(h:gJ w la l) :
 Calls prog 170 #[.slice la l.length lc,.int .i64 a] w λe w'=>e=.returned (.int .i64 (tQ l a))/\w'=w:=by
 have hf:=h.aj;by_cases h0:0<=a
 ·obtain⟨n,rfl⟩:∃n:Nat,a=(n:Int):=⟨a.toNat,by omega⟩
  by_cases h1:n<l.length
  ·obtain⟨g,rfl,c⟩:=h.at h1
   have HR:Hid (tQ l (n:Int)=l.getD n 0):=(by unfold Hid tQ;rw[tr ⟨h0,by omega⟩];rfl);generalize l.getD n 0=x at *;have i1:(n:Int)<(l.length:Int):=(by omega);clear h
   go_enter func170,ntmps170
   go_wp2_with fail
   go_ret
   exact⟨yY HR.out.symm,rfl⟩
  ·have HR:Hid (tQ l (n:Int)=0):=by unfold Hid tQ;rw[i6]
   have i1:¬(n:Int)<(l.length:Int):=(by omega);clear h
   go_enter func170,ntmps170
   go_wp2_with fail
   go_ret
   exact⟨yY HR.out.symm,rfl⟩
 ·have HR:Hid (tQ l a=0):=by unfold Hid tQ;rw[i6]
  clear h
  go_enter func170,ntmps170
  go_wp2_with fail
  go_ret
  exact⟨yY HR.out.symm,rfl⟩
structure vH where
 inputs:List Int
 has:List Bool
 values:List Int
structure wR(w:World)(ia ha va:Option Addr)(s:vH):Prop where
 inputs:gJ w ia s.inputs
 has:nC w ha s.has
 values:gJ w va s.values
theorem wR.below{w w':World}{ia ha va:Option Addr}{s:vH}(h:wR w ia ha va s)(hb:Below w.heap.size w w'):wR w' ia ha va s:=⟨h.inputs.below hb,h.has.below hb,h.values.below hb⟩
def ru(ia ha va:Option Addr)(ic hc vc:Nat)(s:vH):Value:=.agg #[.slice ia s.inputs.length ic,.slice ha s.has.length hc,.slice va s.values.length vc]
def J1(x:kP)(s:vH):Bool :=
 if tQ s.inputs x.place<(if x.two then tQ s.inputs x.other else x.num) then x.less else if (if x.two then tQ s.inputs x.other else x.num)<tQ s.inputs x.place then x.more else x.equal
def VK(x:kP)(s:vH)(hs:List Bool):Bool :=
 if x.kind=1 then jO hs x.left || jO hs x.right else if x.kind=2 then jO hs x.left&&jO hs x.right else if x.kind=3 then !jO hs x.left
 else if x.kind=4 then true else if x.kind=5 then jO s.has x.place else if x.kind=6 then decide (tQ s.inputs x.place=1) else if x.kind=7 then J1 x s else false
theorem Fa(w:World)(ia ha va:Option Addr)(ic hc vc:Nat)(s:vH)(x:kP)(h:wR w ia ha va s) :
 Calls prog 187 #[oM x,ru ia ha va ic hc vc s] w λe w'=>e=.returned (.bool (J1 x s))/\Below w.heap.size w w':=by
 have HN:=zA (λw' (hb:Below w.heap.size w w') a=>Ir w' ia ic s.inputs a (h.inputs.below hb));have HC:Hid (J1 x s=if tQ s.inputs x.place<(if x.two then tQ s.inputs x.other else x.num) then x.less else if (if x.two then tQ s.inputs x.other else x.num)<tQ s.inputs x.place then x.more else x.equal):=rfl;obtain⟨kd,aR,aQ,pl,two,ot,nu,le,eq,mo⟩:=x;simp only[oM,ru]at *;have aH:=zA (λw' hb=>HN.out w' hb pl);have aS:=zA (λw' hb=>HN.out w' hb ot);clear HN h;generalize tQ s.inputs pl=p1 at *;generalize tQ s.inputs ot=p2 at *;generalize J1 ⟨kd,aR,aQ,pl,two,ot,nu,le,eq,mo⟩ s=aD at *;have hb0:∀o1 o2,Below w.heap.size w ((w.alloc o1).alloc o2):=λo1 o2=>(fk (tg _) _).alloc (by simp) _;have aA:=zA hb0;clear hb0;cases two
 ·simp only[Bool.false_eq_true,if_false]at HC
  by_cases k1:p1<nu
  ·rw[tr k1]at HC
   go_enter func187,ntmps187
   go_wp2_with fail
   refine(aH.out _ (aA.out _ _)).mono ?_;rintro e w' ⟨rfl,hw⟩;obtain rfl:=hw.symm;go_wp2_with fail
   go_ret
   exact⟨zG HC.out.symm,aA.out _ _⟩
  ·rw[tj k1]at HC
   by_cases k2:nu<p1
   ·rw[tr k2]at HC
    go_enter func187,ntmps187
    go_wp2_with fail
    refine(aH.out _ (aA.out _ _)).mono ?_;rintro e w' ⟨rfl,hw⟩;obtain rfl:=hw.symm;go_wp2_with fail
    go_ret
    exact⟨zG HC.out.symm,aA.out _ _⟩
   ·rw[tj k2]at HC
    go_enter func187,ntmps187
    go_wp2_with fail
    refine(aH.out _ (aA.out _ _)).mono ?_;rintro e w' ⟨rfl,hw⟩;obtain rfl:=hw.symm;go_wp2_with fail
    go_ret
    exact⟨zG HC.out.symm,aA.out _ _⟩
 ·simp only[dj]at HC
  by_cases k1:p1<p2
  ·rw[tr k1]at HC
   go_enter func187,ntmps187
   go_wp2_with fail
   refine(aH.out _ (aA.out _ _)).mono ?_;rintro e w' ⟨rfl,hw⟩;obtain rfl:=hw.symm;go_wp2_with fail
   refine(aS.out _ (aA.out _ _)).mono ?_;rintro e w' ⟨rfl,hw⟩;obtain rfl:=hw.symm;go_wp2_with fail
   go_ret
   exact⟨zG HC.out.symm,aA.out _ _⟩
  ·rw[tj k1]at HC
   by_cases k2:p2<p1
   ·rw[tr k2]at HC
    go_enter func187,ntmps187
    go_wp2_with fail
    refine(aH.out _ (aA.out _ _)).mono ?_;rintro e w' ⟨rfl,hw⟩;obtain rfl:=hw.symm;go_wp2_with fail
    refine(aS.out _ (aA.out _ _)).mono ?_;rintro e w' ⟨rfl,hw⟩;obtain rfl:=hw.symm;go_wp2_with fail
    go_ret
    exact⟨zG HC.out.symm,aA.out _ _⟩
   ·rw[tj k2]at HC
    go_enter func187,ntmps187
    go_wp2_with fail
    refine(aH.out _ (aA.out _ _)).mono ?_;rintro e w' ⟨rfl,hw⟩;obtain rfl:=hw.symm;go_wp2_with fail
    refine(aS.out _ (aA.out _ _)).mono ?_;rintro e w' ⟨rfl,hw⟩;obtain rfl:=hw.symm;go_wp2_with fail
    go_ret
    exact⟨zG HC.out.symm,aA.out _ _⟩
theorem R6(w:World)(ia ha va ea:Option Addr)(ic hc vc ec:Nat)(s:vH)(hs:List Bool)(x:kP)(h:wR w ia ha va s)(he:nC w ea hs) :
 Calls prog 169 #[oM x,ru ia ha va ic hc vc s,.slice ea hs.length ec] w λe w'=>e=.returned (.bool (VK x s hs))/\Below w.heap.size w w':=by
 have HL:=zA (λw' (hb:Below w.heap.size w w')=>sM w' ea ec hs x.left (he.below hb));have HR:=zA (λw' (hb:Below w.heap.size w w')=>sM w' ea ec hs x.right (he.below hb));have HH:=zA (λw' (hb:Below w.heap.size w w')=>sM w' ha hc s.has x.place (h.has.below hb));have HN:=zA (λw' (hb:Below w.heap.size w w')=>Ir w' ia ic s.inputs x.place (h.inputs.below hb));have HC:=zA (λw' (hb:Below w.heap.size w w')=>Fa w' ia ha va ic hc vc s x (h.below hb))
 have HA:Hid (VK x s hs=if x.kind=1 then jO hs x.left || jO hs x.right else if x.kind=2 then jO hs x.left&&jO hs x.right else if x.kind=3 then !jO hs x.left
  else if x.kind=4 then true else if x.kind=5 then jO s.has x.place else if x.kind=6 then decide (tQ s.inputs x.place=1) else if x.kind=7 then J1 x s else false):=rfl
 have aA:=zA (show ∀o1 o2,Below w.heap.size w ((w.alloc o1).alloc o2) from λo1 o2=>(fk (tg _) _).alloc (by simp) _);generalize VK x s hs=aD at *;generalize J1 x s=cm at *;obtain⟨kd,aR,aQ,pl,two,ot,nu,le,eq,mo⟩:=x;simp only[oM,ru]at *;clear h he;generalize jO hs aR=pL at *;generalize jO hs aQ=pR at *;generalize jO s.has pl=pH at *;generalize tQ s.inputs pl=pN at *;by_cases k1:kd=1
 ·subst k1
  rw[tr rfl]at HA;cases pL
  ·simp only[bt]at HA
   go_enter func169,ntmps169
   go_wp2_with fail
   refine(HL.out _ (aA.out _ _)).mono ?_;rintro e w' ⟨rfl,hw⟩;obtain rfl:=hw.symm;go_wp2_with fail
   refine(HR.out _ (aA.out _ _)).mono ?_;rintro e w' ⟨rfl,hw⟩;obtain rfl:=hw.symm;go_wp2_with fail
   go_ret
   exact⟨zG HA.out.symm,aA.out _ _⟩
  ·simp only[Bool.true_or]at HA
   go_enter func169,ntmps169
   go_wp2_with fail
   refine(HL.out _ (aA.out _ _)).mono ?_;rintro e w' ⟨rfl,hw⟩;obtain rfl:=hw.symm;go_wp2_with fail
   go_ret
   exact⟨zG HA.out.symm,aA.out _ _⟩
 by_cases k2:kd=2
 ·subst k2
  rw[i6,tr rfl]at HA;cases pL
  ·simp only[Bool.false_and]at HA
   go_enter func169,ntmps169
   go_wp2_with fail
   refine(HL.out _ (aA.out _ _)).mono ?_;rintro e w' ⟨rfl,hw⟩;obtain rfl:=hw.symm;go_wp2_with fail
   go_ret
   exact⟨zG HA.out.symm,aA.out _ _⟩
  ·simp only[bm]at HA
   go_enter func169,ntmps169
   go_wp2_with fail
   refine(HL.out _ (aA.out _ _)).mono ?_;rintro e w' ⟨rfl,hw⟩;obtain rfl:=hw.symm;go_wp2_with fail
   refine(HR.out _ (aA.out _ _)).mono ?_;rintro e w' ⟨rfl,hw⟩;obtain rfl:=hw.symm;go_wp2_with fail
   go_ret
   exact⟨zG HA.out.symm,aA.out _ _⟩
 by_cases k3:kd=3
 ·subst k3
  rw[i6,i6,tr rfl]at HA
  go_enter func169,ntmps169
  go_wp2_with fail
  refine(HL.out _ (aA.out _ _)).mono ?_;rintro e w' ⟨rfl,hw⟩;obtain rfl:=hw.symm;go_wp2_with fail
  go_ret
  exact⟨zG HA.out.symm,aA.out _ _⟩
 by_cases k4:kd=4
 ·subst k4
  rw[i6,i6,i6,tr rfl]at HA
  go_enter func169,ntmps169
  go_wp2_with fail
  go_ret
  exact⟨zG HA.out.symm,aA.out _ _⟩
 by_cases k5:kd=5
 ·subst k5
  rw[i6,i6,i6,i6,tr rfl]at HA
  go_enter func169,ntmps169
  go_wp2_with fail
  refine(HH.out _ (aA.out _ _)).mono ?_;rintro e w' ⟨rfl,hw⟩;obtain rfl:=hw.symm;go_wp2_with fail
  go_ret
  exact⟨zG HA.out.symm,aA.out _ _⟩
 by_cases k6:kd=6
 ·subst k6
  rw[i6,i6,i6,i6,i6,tr rfl]at HA;have hd:decide (pN=1)=(pN==1):=by rw[Bool.eq_iff_iff];simp
  rw[hd]at HA;clear hd
  go_enter func169,ntmps169
  go_wp2_with fail
  refine(HN.out _ (aA.out _ _)).mono ?_;rintro e w' ⟨rfl,hw⟩;obtain rfl:=hw.symm;go_wp2_with fail
  go_ret
  exact⟨zG HA.out.symm,aA.out _ _⟩
 by_cases k7:kd=7
 ·subst k7
  rw[i6,i6,i6,i6,i6,i6,tr rfl]at HA
  go_enter func169,ntmps169
  go_wp2_with fail
  refine(HC.out _ (aA.out _ _)).mono ?_;rintro e w2 ⟨rfl,aa⟩;have bI:Hid (Below w.heap.size w w2):=(aA.out _ _).trans (aa.mono (aA.out _ _).size);clear aa;go_wp2_with fail
  go_ret
  exact⟨zG HA.out.symm,bI.out⟩
 ·rw[tj k1,tj k2,tj k3,tj k4,tj k5,tj k6,tj k7]at HA
  have b1:(kd==1)=false:=by simpa using k1
  have b2:(kd==2)=false:=by simpa using k2
  have b3:(kd==3)=false:=by simpa using k3
  have b4:(kd==4)=false:=by simpa using k4
  have b5:(kd==5)=false:=by simpa using k5
  have b6:(kd==6)=false:=by simpa using k6
  have b7:(kd==7)=false:=by simpa using k7
  clear k1 k2 k3 k4 k5 k6 k7
  go_enter func169,ntmps169
  go_wp2_with fail
  go_ret
  exact⟨zG HA.out.symm,aA.out _ _⟩
theorem Pe{α:Type}(p:α->Bool)(d:α)(l:List α)(i:Nat)(h:i<l.length):(l.drop i).all p=(p (l.getD i d)&&(l.drop (i+1)).all p):=by
 rw[ph h,ff];simp[List.getD,h]
theorem RR{α:Type}{l:List α}{i:Nat}(d:α)(h:i<l.length):l.getD i d∈l:=by simp[List.getD,h]
def fD(s:vH):List kP->List Bool->List Bool
 | [],hs=>hs
 | x::r,hs=>fD s r (hs++[VK x s hs])
def tF(s:vH)(l:List iD):Bool:=l.all λp => !(decide (p.kind=3) && !jO s.has p.place)
def kY(r:xN)(s:vH):Bool:=tF s r.sum&&jO (fD s r.guard []) r.root
theorem ui(s:vH)(l:List kP)(i:Nat)(hs:List Bool)(h:i<l.length):fD s (l.drop i) hs=fD s (l.drop (i+1)) (hs++[VK (l.getD i sG) s hs]):=by
 rw[ph h,fD];simp[List.getD,h]
theorem Vn(hs:List Bool)(n:Nat)(a:Int):jO (hs++List.replicate n false) a=jO hs a:=by
 unfold jO;by_cases h0:0<=a
 ·by_cases h1:a<hs.length
  ·rw[tz h1,tz (show a<((hs++List.replicate n false).length:Int) by simp;omega)]
   simp[List.getD,mj (show a.toNat<hs.length by omega)]
  ·rw[ty h1]
   have:(hs++List.replicate n false).getD a.toNat false=false:=by
    rw[List.getD,l8 (by omega),cy];split <;> rfl
   rw[this];simp
 ·rw[ty h0];rfl
theorem OJ(x:kP)(s:vH)(hs:List Bool)(n:Nat):VK x s (hs++List.replicate n false)=VK x s hs:=by
 unfold VK;rw[Vn,Vn]
theorem lQ.EE{w:World}{g:Nat}(h:lQ w g l)(hf:l.length<=10000):nC w (some ⟨g,0,none⟩) l :=
 ⟨.inr ⟨g,rfl,λj hj=>by rw[kj]at hj;rw[h.cell hj,Ks l j hj]⟩,hf⟩
theorem OV(hs:List Bool)(i n:Nat)(z:Bool)(h:hs.length=i)(hn:i<n):(hs++List.replicate (n-i) false).set i z=(hs++[z])++List.replicate (n-(i+1)) false:=by
 rw[List.set_append_right _ _ (by omega),show i-hs.length=0 by omega,show n-i=(n-(i+1))+1 by omega,List.replicate_succ,List.set_cons_zero];simp
theorem Dr(w:World)(ia ha va:Option Addr)(ic hc vc:Nat)(s:vH)(x:MX)(hx:kE w x)(h:wR w ia ha va s) :
 Calls prog 132 #[qS x,ru ia ha va ic hc vc s] w λe w'=>e=.returned (.bool (kY x.1 s))/\Below w.heap.size w w':=by
 obtain⟨pa,pc,e1,hp⟩:=hx.sum;obtain⟨ga,gc,e2,hg⟩:=hx.guard;have a6:=hx.ek;have aZ:=hx.ef;have HP:=zA hp.ay;have HG:=zA hg.ay;have HS:=zA h;have HA:Hid (kY x.1 s=(tF s x.1.sum&&jO (fD s x.1.guard []) x.1.root)):=rfl;obtain⟨⟨ei,cc,ps,gd,root⟩,pv,gv⟩:=x;simp only at e1 e2 HP HG a6 aZ HA;subst e1 e2;simp only[qS,ru];clear hx hp hg h;generalize kY ⟨ei,cc,ps,gd,root⟩ s=aD at *
 go_enter func132,ntmps132
 go_wp2_with fail
 generalize af:Obj.cells #[.string ⟨ei.toArray⟩,.int .i64 cc,.slice pa ps.length pc,.slice ga gd.length gc,.int .i64 root] 162=O1 at *;generalize ae:Obj.cells #[.slice ia s.inputs.length ic,.slice ha s.has.length hc,.slice va s.values.length vc] 168=O2 at *;have y0:((w.alloc O1).alloc O2).heap[w.heap.size]? = some O1:=yD (zF _ _)
 have y1:((w.alloc O1).alloc O2).heap[w.heap.size+1]? = some O2:=by
  have h9:=zF (w.alloc O1) O2;rw[show (w.alloc O1).heap.size=w.heap.size+1 by simp]at h9;exact h9
 have hb0:Below w.heap.size w ((w.alloc O1).alloc O2):=(fk (tg _) _).alloc (by simp) _;have hs0:((w.alloc O1).alloc O2).heap.size=w.heap.size+2:=by simp
 have bD:=zA af;have bC:=zA ae;clear af ae;generalize (w.alloc O1).alloc O2=w0 at *;have a8:=zA y0;have a7:=zA y1;have aA:=zA hb0;clear y0 y1 hb0
 go_loopw [14] (λiv wr=>∃(i:Nat),i<=ps.length/\iv=.int .i64 i/\Hid (Below w0.heap.size w0 wr)/\Hid ((tF s (ps.drop i)&&jO (fD s gd []) root)=aD)) (λiv _=>ps.length-(intOf iv).toNat)
 case atStart=>exact⟨0,p8,rfl,zA (tl _ _),zA HA.out.symm⟩
 case round =>
  obtain⟨i,hi,rfl,HB,HE⟩:=hrel;have aX:=HB.out.size;have aI:Hid (Below w.heap.size w wr):=aA.out.trans (HB.out.mono (by omega));have x1:wr.heap[w.heap.size+1]? = some O2:=by rw[HB.out.block _ (by omega)];exact a7.out
  rw[<-bC.out]at x1;have x0:wr.heap[w.heap.size]? = some O1:=by rw[HB.out.block _ (by omega)];exact a8.out
  rw[<-bD.out]at x0;by_cases aK:i<ps.length
  ·have aB:=HP.out.below aI.out
   obtain⟨gp,rfl,q0⟩:=aB.at ((zV cI 3 (λ_=>rfl) si ps i 0 aK (by decide)).trans rfl);have q1:=(aB.at ((zV cI 3 (λ_=>rfl) si ps i 1 aK (by decide)).trans rfl)).elim λg' h=>(show gp=g' by simpa using h.1) ▸ h.2;have q2:=(aB.at ((zV cI 3 (λ_=>rfl) si ps i 2 aK (by decide)).trans rfl)).elim λg' h=>(show gp=g' by simpa using h.1) ▸ h.2;rw[lh]at q0;have c1:=zC x1 1;simp only[cb,dn,dt]at c1;have hE:=HE.out;unfold tF at hE;rw[Pe _ si _ i aK]at hE;have aM:=zA hE;have aw:=yJ q0;have av:wr.heap.size≠gp:=by omega
   have m1:wr.heap.size≠w.heap.size+1:=(by omega);have m2:w.heap.size+1<wr.heap.size:=(by omega);have HI:=zA (λw' (hb:Below w.heap.size w w') a=>sM w' ha hc s.has a (HS.out.has.below hb));clear HE hE aB x0 x1;generalize ps.getD i si=p at *;obtain⟨pk,pn,pl⟩:=p;simp only at q0 q1 q2 aM;by_cases k1:pk=3
   ·subst k1
    have ai:=zA (λw' hb=>HI.out w' hb pl);clear HI;generalize jO s.has pl=tv at *;cases tv
    ·have aG:Hid (aD=false):=by have:=aM.out;simpa[Hid] using this.symm
     go_wp2_with fail
     refine(ai.out _ (aI.out.alloc (by omega) _)).mono ?_;rintro e w' ⟨rfl,hw⟩;obtain rfl:=hw.symm;go_wp2_with fail
     go_ret
     exact⟨zG aG.out.symm,aI.out.alloc (by omega) _⟩
    ·have aG:Hid ((tF s (ps.drop (i+1))&&jO (fD s gd []) root)=aD):=by have:=aM.out;simpa[tF,Hid] using this
     go_wp2_with fail
     refine(ai.out _ (aI.out.alloc (by omega) _)).mono ?_;rintro e w' ⟨rfl,hw⟩;obtain rfl:=hw.symm;go_wp2_with fail
     go_roundw
     case rel=>exact⟨i+1,by omega,by go_num,zA (HB.out.alloc aX _),aG⟩
     case measure=>simp[intOf];omega
   ·have aG:Hid ((tF s (ps.drop (i+1))&&jO (fD s gd []) root)=aD):=by have:=aM.out;simpa[tF,Hid,k1] using this
    have b1:(pk==3)=false:=(by simpa using k1);clear k1;go_wp2_with fail
    go_roundw
    case rel=>exact⟨i+1,by omega,by go_num,zA (HB.out.alloc aX _),aG⟩
    case measure=>simp[intOf];omega
  ·have aG:Hid (jO (fD s gd []) root=aD):=by have:=HE.out;rw[pf (by omega)]at this;simpa[tF,Hid] using this
   have c3:=zC x0 3;have c4:=zC x0 4;simp only[cb,dn,dt]at c3 c4;have m2:w.heap.size<wr.heap.size:=(by omega);have m3:wr.heap.size≠w.heap.size:=(by omega);clear HE;have aq:=aI;have bJ:w.heap.size+2<=wr.heap.size:=(by omega);have bB:=zA x0;have bA:=zA x1;have aY:=run_make_row' (P:=prog) 166 4 (.bool false) 1 underlying166 UT rfl .i64 .i64 gd.length (by omega) (by omega);rw[Qk]at aY;clear x0 x1;go_wp2_with fail
   have bE:Hid (lQ (wr.alloc (.cells (gC (List.replicate gd.length false)) 4)) wr.heap.size ([]++List.replicate (gd.length-0) false)):=zF _ _;clear c3 c4 m2 m3 aY;generalize ax:wr=wq at *;clear ax
   go_loopw [37] (λiv wr=>∃(i:Nat) (hs:List Bool),i<=gd.length/\Hid (hs.length=i)/\iv=.int .i64 i/\Hid (lQ wr wq.heap.size (hs++List.replicate (gd.length-i) false))/\Hid (Below wq.heap.size wq wr)/\wq.heap.size<wr.heap.size/\Hid (fD s (gd.drop i) hs=fD s gd [])) (λiv _=>gd.length-(intOf iv).toNat)
   case atStart=>exact⟨0,[],p8,zA rfl,rfl,bE,zA (fk (tg _) _),by simp,zA rfl⟩
   case round =>
    obtain⟨i,hs,hi,aU,rfl,HM,aN,aJ,aV⟩:=hrel;have aW:Hid (Below w.heap.size w wr):=aq.out.trans (aN.out.mono (by omega));have x0:wr.heap[w.heap.size]? = _:=(aN.out.block _ (by omega)).trans bB.out;have x1:wr.heap[w.heap.size+1]? = _:=(aN.out.block _ (by omega)).trans bA.out;have aP:(hs++List.replicate (gd.length-i) false).length=gd.length:=by have:=aU.out;simp;omega
    have aF:=zA aP;have ao:Hid (nC wr (some ⟨wq.heap.size,0,none⟩) (hs++List.replicate (gd.length-i) false)):=HM.out.EE (by rw[aP];exact aZ);clear aP;by_cases aC:i<gd.length
    ·have aB:=HG.out.below aW.out
     obtain⟨gp,rfl,q0⟩:=aB.at ((zV kK 10 (λ_=>rfl) sG gd i 0 aC (by decide)).trans rfl);have q1:=(aB.at ((zV kK 10 (λ_=>rfl) sG gd i 1 aC (by decide)).trans rfl)).elim λg' h=>(show gp=g' by simpa using h.1) ▸ h.2;have q2:=(aB.at ((zV kK 10 (λ_=>rfl) sG gd i 2 aC (by decide)).trans rfl)).elim λg' h=>(show gp=g' by simpa using h.1) ▸ h.2;have q3:=(aB.at ((zV kK 10 (λ_=>rfl) sG gd i 3 aC (by decide)).trans rfl)).elim λg' h=>(show gp=g' by simpa using h.1) ▸ h.2;have q4:=(aB.at ((zV kK 10 (λ_=>rfl) sG gd i 4 aC (by decide)).trans rfl)).elim λg' h=>(show gp=g' by simpa using h.1) ▸ h.2;have q5:=(aB.at ((zV kK 10 (λ_=>rfl) sG gd i 5 aC (by decide)).trans rfl)).elim λg' h=>(show gp=g' by simpa using h.1) ▸ h.2;have q6:=(aB.at ((zV kK 10 (λ_=>rfl) sG gd i 6 aC (by decide)).trans rfl)).elim λg' h=>(show gp=g' by simpa using h.1) ▸ h.2;have q7:=(aB.at ((zV kK 10 (λ_=>rfl) sG gd i 7 aC (by decide)).trans rfl)).elim λg' h=>(show gp=g' by simpa using h.1) ▸ h.2;have q8:=(aB.at ((zV kK 10 (λ_=>rfl) sG gd i 8 aC (by decide)).trans rfl)).elim λg' h=>(show gp=g' by simpa using h.1) ▸ h.2;have q9:=(aB.at ((zV kK 10 (λ_=>rfl) sG gd i 9 aC (by decide)).trans rfl)).elim λg' h=>(show gp=g' by simpa using h.1) ▸ h.2;rw[lh]at q0;have d0:=zC x1 0;have d1:=zC x1 1;have d2:=zC x1 2;simp only[cb,dn,dt]at d0 d1 d2;have hE:=aV.out;rw[ui s gd i hs aC]at hE;have bG:=zA hE;have aw:=yJ q0;have av:wr.heap.size≠gp:=by omega
     have m1:wr.heap.size≠w.heap.size+1:=(by omega);have m2:w.heap.size+1<wr.heap.size:=by omega
     have aT:Hid (∀o,Calls prog 169 #[oM (gd.getD i sG),ru ia ha va ic hc vc s,.slice (some ⟨wq.heap.size,0,none⟩) gd.length gd.length] (wr.alloc o) λe w'=>e=.returned (.bool (VK (gd.getD i sG) s hs))/\Below (wr.alloc o).heap.size (wr.alloc o) w'):=λo=>by
      have h9:=R6 (wr.alloc o) ia ha va (some ⟨wq.heap.size,0,none⟩) ic hc vc gd.length s (hs++List.replicate (gd.length-i) false) (gd.getD i sG) (HS.out.below (aW.out.alloc (by omega) o)) (ao.out.below (fk (tg _) o));rw[OJ,aF.out]at h9;exact h9
     have ar:Hid (∀z,(hs++List.replicate (gd.length-i) false).set i z=(hs++[z])++List.replicate (gd.length-(i+1)) false):=λz=>OV hs i gd.length z aU.out aC
     have ak:Hid (∀w5,Below wr.heap.size wr w5->∃v,w5.cell? ⟨wq.heap.size,i,none⟩=some (.bool v)):=λw5 aL=>by
      exact⟨_,(aL.cell (p:=⟨wq.heap.size,i,none⟩) aJ).trans (HM.out.cell (by rw[aF.out];exact aC))⟩
     clear hE aB x0 x1 aV;generalize gd.getD i sG=nd at *;generalize VK nd s hs=z at *;obtain⟨n0,n1,n2,n3,n4,n5,n6,n7,n8,n9⟩:=nd;simp only[oM,ru]at aT;simp only at q0 q1 q2 q3 q4 q5 q6 q7 q8 q9;go_wp2_with fail
     refine(aT.out _).mono ?_;rintro e w5 ⟨rfl,aL⟩;have aO:Hid (Below wr.heap.size wr w5):=(fk (tg _) _).trans (aL.mono (by simp));have ah:=zA (HM.out.below aO.out);have bK:=aO.out.size;obtain⟨au,bM⟩:=ak.out w5 aO.out;have bL:=ah.out.free i;have ag:Hid (lQ (w5.setCell ⟨wq.heap.size,i,none⟩ (.bool z)) wq.heap.size ((hs++[z])++List.replicate (gd.length-(i+1)) false)):=by unfold Hid;rw[<-ar.out z];exact ah.out.set i z
     have bH:Hid (Below wq.heap.size wq (w5.setCell ⟨wq.heap.size,i,none⟩ (.bool z))):=(aN.out.trans (aO.out.mono (p7 aJ))).setCell (p:=⟨wq.heap.size,i,none⟩) (tg _) _;have az:wq.heap.size<(w5.setCell ⟨wq.heap.size,i,none⟩ (.bool z)).heap.size:=(by have:=ag.out.lt;exact this);clear aL aT ak;go_wp2_with fail
     go_roundw
     case rel=>exact⟨i+1,hs++[z],by omega,zA (by have:=aU.out;simp;omega),by go_num,ag,bH,az,bG⟩
     case measure=>simp[intOf];omega
    ·have bF:Hid (jO hs root=aD):=by have:=aV.out;rw[pf (by omega)]at this;have h9:=aG.out;rw[<-this]at h9;exact h9
     have d4:=zC x0 4;simp only[cb,dn,dt]at d4
     have HI:Hid (Calls prog 168 #[.slice (some ⟨wq.heap.size,0,none⟩) gd.length gd.length,.int .i64 root] wr λe w'=>e=.returned (.bool aD)/\w'=wr):=by
      have h9:=sM wr (some ⟨wq.heap.size,0,none⟩) gd.length (hs++List.replicate (gd.length-i) false) root ao.out;rw[Vn,bF.out,aF.out]at h9;exact h9
     clear x0 x1;go_wp2_with fail
     refine HI.out.mono ?_;rintro e w' ⟨rfl,hw⟩;obtain rfl:=hw.symm;go_wp2_with fail
     go_ret
     exact⟨rfl,aW.out⟩
def FF(s:vH)(p:iD):Int:=if p.kind=1 then p.num else if p.kind=2 then p.num*tQ s.inputs p.place else if p.kind=3 then p.num*tQ s.values p.place else 0
def JK(s:vH):List iD->Int->Int
 | [],n=>n
 | p::r,n=>JK s r (n+FF s p)
def Eh(s:vH)(l:List iD):Int:=JK s l 0
def iC(l:List Int):Array Value:=(cQ l).toArray
theorem MN{l:List Int}{k:Nat}(hk:k<l.length):(iC l)[k]? = some (.int .i64 (l.getD k 0)):=by
 unfold iC;rw[cb];exact JZ l k hk
theorem vp(n:Nat):madeCells #[Value.int .i64 0] n=iC (List.replicate n 0):=by
 apply Array.ext
 ·simp[madeCells,iC,cQ]
 ·intro i h1 h2
  simp[madeCells,iC,cQ,Nat.mod_one]
theorem Kb:(prog.info? 3).map (λi=>(i.zero,i.size,i.bytes))=some (some (.int .i64 0),1,8):=by kernel_rfl
theorem KP{v:Value}{a b:Int}(h:a=b):Ending.returned (.tuple #[v,.int .i64 a])=.returned (.tuple #[v,.int .i64 b]):=by rw[h]
theorem ub(a b:List Int):cQ (a++b)=cQ a++cQ b:=by simp[cQ]
end Go.Proofs.YtnbpdffdnphbeabGreatDoor
