import Derived.Test.YtnbpdffdnphbeabGreatDoorDBase
set_option maxHeartbeats 4000000
set_option maxRecDepth 100000
namespace Go.Proofs.YtnbpdffdnphbeabGreatDoor
open Go.RowKit
variable{l:List Int}{g:Nat}{a:Option Addr}{w' w:World}
structure dP(w:World)(a:Option Addr)(l:List Bool):Prop where
 cel:jQ w a (QQ l)
 few:l.length<=10000
theorem dP.below{l:List Bool}(h:dP w a l)(hb:Below w.heap.size w w'):dP w' a l:=⟨h.cel.below hb,h.few⟩
theorem QP(l:List Bool)(i:Nat)(h:i<l.length):(QQ l)[i]? = some (.bool (l.getD i false)):=by simp[QQ,List.getD,h]
theorem dP.at{l:List Bool}(h:dP w a l){i:Nat}(hi:i<l.length):∃g,a=some ⟨g,0,none⟩/\w.cell? ⟨g,i,none⟩=some (.bool (l.getD i false)):=h.cel.at (QP l i hi)
def tK(l:List Int)(a:Int):Int:=if 0<=a/\a<l.length then l.getD a.toNat 0 else 0
theorem oD(w:World)(la:Option Addr)(lc:Nat)(l:List Bool)(a:Int)(h:dP w la l) :
 Calls Tryz.prog 168 #[.slice la l.length lc,.int .i64 a] w fun e w'=>e=.returned (.bool (kV l a))/\w'=w:=by
 have hf:=h.few;by_cases h0:0<=a
 ·obtain⟨n,rfl⟩:∃n:Nat,a=(n:Int):=⟨a.toNat,by omega⟩
  by_cases h1:n<l.length
  ·obtain⟨g,rfl,c⟩:=h.at h1
   have HR:Hid (kV l (n:Int)=l.getD n false):=by unfold Hid kV;rw[ty h0,ty (by omega:(n:Int)<l.length)];rfl
   generalize l.getD n false=x at *;have i1:(n:Int)<(l.length:Int):=by omega
   clear h
   go_enter Tryz.func168,Tryz.ntmps168
   go_wp2_with fail
   go_ret
   exact⟨zF HR.out.symm,rfl⟩
  ·have HR:Hid (kV l (n:Int)=false):=by unfold Hid kV;rw[ty h0,tu (by omega:¬(n:Int)<l.length)];rfl
   have i1:¬(n:Int)<(l.length:Int):=by omega
   clear h
   go_enter Tryz.func168,Tryz.ntmps168
   go_wp2_with fail
   go_ret
   exact⟨zF HR.out.symm,rfl⟩
 ·have HR:Hid (kV l a=false):=by unfold Hid kV;rw[tu h0];rfl
  clear h
  go_enter Tryz.func168,Tryz.ntmps168
  go_wp2_with fail
  go_ret
  exact⟨zF HR.out.symm,rfl⟩
theorem uj(w:World)(la:Option Addr)(lc:Nat)(l:List Int)(a:Int)(h:lR w la l) :
 Calls Tryz.prog 170 #[.slice la l.length lc,.int .i64 a] w fun e w'=>e=.returned (.int .i64 (tK l a))/\w'=w:=by
 have hf:=h.few;by_cases h0:0<=a
 ·obtain⟨n,rfl⟩:∃n:Nat,a=(n:Int):=⟨a.toNat,by omega⟩
  by_cases h1:n<l.length
  ·obtain⟨g,rfl,c⟩:=h.at h1
   have HR:Hid (tK l (n:Int)=l.getD n 0):=by unfold Hid tK;rw[tr ⟨h0,by omega⟩];rfl
   generalize l.getD n 0=x at *;have i1:(n:Int)<(l.length:Int):=by omega
   clear h
   go_enter Tryz.func170,Tryz.ntmps170
   go_wp2_with fail
   go_ret
   exact⟨yR HR.out.symm,rfl⟩
  ·have HR:Hid (tK l (n:Int)=0):=by unfold Hid tK;rw[tj (by omega)]
   have i1:¬(n:Int)<(l.length:Int):=by omega
   clear h
   go_enter Tryz.func170,Tryz.ntmps170
   go_wp2_with fail
   go_ret
   exact⟨yR HR.out.symm,rfl⟩
 ·have HR:Hid (tK l a=0):=by unfold Hid tK;rw[tj (by omega)]
  clear h
  go_enter Tryz.func170,Tryz.ntmps170
  go_wp2_with fail
  go_ret
  exact⟨yR HR.out.symm,rfl⟩
structure xQ where
 inputs:List Int
 has:List Bool
 values:List Int
structure aR(w:World)(ia ha va:Option Addr)(s:xQ):Prop where
 inputs:lR w ia s.inputs
 has:dP w ha s.has
 values:lR w va s.values
theorem aR.below{ia ha va:Option Addr}{s:xQ}(h:aR w ia ha va s)(hb:Below w.heap.size w w'):aR w' ia ha va s:=⟨h.inputs.below hb,h.has.below hb,h.values.below hb⟩
def zBQ(ia ha va:Option Addr)(ic hc vc:Nat)(s:xQ):Value:=.agg #[.slice ia s.inputs.length ic,.slice ha s.has.length hc,.slice va s.values.length vc]
def XT(x:kH)(s:xQ):Bool :=
 if tK s.inputs x.place<(if x.two then tK s.inputs x.other else x.num) then x.less else if (if x.two then tK s.inputs x.other else x.num)<tK s.inputs x.place then x.more else x.equal
def Bj(x:kH)(s:xQ)(hs:List Bool):Bool :=
 if x.kind=1 then kV hs x.left || kV hs x.right else if x.kind=2 then kV hs x.left&&kV hs x.right else if x.kind=3 then !kV hs x.left
 else if x.kind=4 then true else if x.kind=5 then kV s.has x.place else if x.kind=6 then decide (tK s.inputs x.place=1) else if x.kind=7 then XT x s else false
theorem BZ(w:World)(ia ha va:Option Addr)(ic hc vc:Nat)(s:xQ)(x:kH)(h:aR w ia ha va s) :
 Calls Tryz.prog 187 #[fY x,zBQ ia ha va ic hc vc s] w fun e w'=>e=.returned (.bool (XT x s))/\Below w.heap.size w w':=by
 have HN:=zA (fun w' (hb:Below w.heap.size w w') a=>uj w' ia ic s.inputs a (h.inputs.below hb));have HC:Hid (XT x s=if tK s.inputs x.place<(if x.two then tK s.inputs x.other else x.num) then x.less else if (if x.two then tK s.inputs x.other else x.num)<tK s.inputs x.place then x.more else x.equal):=rfl;obtain⟨kd,lf',rg',pl,two,ot,nu,le,eq,mo⟩:=x;simp only[fY,zBQ]at *;have HN1:=zA (fun w' hb=>HN.out w' hb pl);have HN2:=zA (fun w' hb=>HN.out w' hb ot);clear HN h;generalize tK s.inputs pl=p1 at *;generalize tK s.inputs ot=p2 at *;generalize XT ⟨kd,lf',rg',pl,two,ot,nu,le,eq,mo⟩ s=ans at *;have hb0:∀o1 o2,Below w.heap.size w ((w.alloc o1).alloc o2):=fun o1 o2=>(fe (tg _) _).alloc (by simp) _;have HB0:=zA hb0;clear hb0;cases two
 ·simp only[Bool.false_eq_true,if_false]at HC
  by_cases k1:p1<nu
  ·rw[tr k1]at HC
   go_enter Tryz.func187,Tryz.ntmps187
   go_wp2_with fail
   refine(HN1.out _ (HB0.out _ _)).mono ?_;rintro e w' ⟨rfl,hw⟩;obtain rfl:=hw.symm;go_wp2_with fail
   go_ret
   exact⟨zF HC.out.symm,HB0.out _ _⟩
  ·rw[tj k1]at HC
   by_cases k2:nu<p1
   ·rw[tr k2]at HC
    go_enter Tryz.func187,Tryz.ntmps187
    go_wp2_with fail
    refine(HN1.out _ (HB0.out _ _)).mono ?_;rintro e w' ⟨rfl,hw⟩;obtain rfl:=hw.symm;go_wp2_with fail
    go_ret
    exact⟨zF HC.out.symm,HB0.out _ _⟩
   ·rw[tj k2]at HC
    go_enter Tryz.func187,Tryz.ntmps187
    go_wp2_with fail
    refine(HN1.out _ (HB0.out _ _)).mono ?_;rintro e w' ⟨rfl,hw⟩;obtain rfl:=hw.symm;go_wp2_with fail
    go_ret
    exact⟨zF HC.out.symm,HB0.out _ _⟩
 ·simp only[if_true]at HC
  by_cases k1:p1<p2
  ·rw[tr k1]at HC
   go_enter Tryz.func187,Tryz.ntmps187
   go_wp2_with fail
   refine(HN1.out _ (HB0.out _ _)).mono ?_;rintro e w' ⟨rfl,hw⟩;obtain rfl:=hw.symm;go_wp2_with fail
   refine(HN2.out _ (HB0.out _ _)).mono ?_;rintro e w' ⟨rfl,hw⟩;obtain rfl:=hw.symm;go_wp2_with fail
   go_ret
   exact⟨zF HC.out.symm,HB0.out _ _⟩
  ·rw[tj k1]at HC
   by_cases k2:p2<p1
   ·rw[tr k2]at HC
    go_enter Tryz.func187,Tryz.ntmps187
    go_wp2_with fail
    refine(HN1.out _ (HB0.out _ _)).mono ?_;rintro e w' ⟨rfl,hw⟩;obtain rfl:=hw.symm;go_wp2_with fail
    refine(HN2.out _ (HB0.out _ _)).mono ?_;rintro e w' ⟨rfl,hw⟩;obtain rfl:=hw.symm;go_wp2_with fail
    go_ret
    exact⟨zF HC.out.symm,HB0.out _ _⟩
   ·rw[tj k2]at HC
    go_enter Tryz.func187,Tryz.ntmps187
    go_wp2_with fail
    refine(HN1.out _ (HB0.out _ _)).mono ?_;rintro e w' ⟨rfl,hw⟩;obtain rfl:=hw.symm;go_wp2_with fail
    refine(HN2.out _ (HB0.out _ _)).mono ?_;rintro e w' ⟨rfl,hw⟩;obtain rfl:=hw.symm;go_wp2_with fail
    go_ret
    exact⟨zF HC.out.symm,HB0.out _ _⟩
theorem uo(w:World)(ia ha va ea:Option Addr)(ic hc vc ec:Nat)(s:xQ)(hs:List Bool)(x:kH)(h:aR w ia ha va s)(he:dP w ea hs) :
 Calls Tryz.prog 169 #[fY x,zBQ ia ha va ic hc vc s,.slice ea hs.length ec] w fun e w'=>e=.returned (.bool (Bj x s hs))/\Below w.heap.size w w':=by
 have HL:=zA (fun w' (hb:Below w.heap.size w w')=>oD w' ea ec hs x.left (he.below hb));have HR:=zA (fun w' (hb:Below w.heap.size w w')=>oD w' ea ec hs x.right (he.below hb));have HH:=zA (fun w' (hb:Below w.heap.size w w')=>oD w' ha hc s.has x.place (h.has.below hb));have HN:=zA (fun w' (hb:Below w.heap.size w w')=>uj w' ia ic s.inputs x.place (h.inputs.below hb));have HC:=zA (fun w' (hb:Below w.heap.size w w')=>BZ w' ia ha va ic hc vc s x (h.below hb))
 have HA:Hid (Bj x s hs=if x.kind=1 then kV hs x.left || kV hs x.right else if x.kind=2 then kV hs x.left&&kV hs x.right else if x.kind=3 then !kV hs x.left
  else if x.kind=4 then true else if x.kind=5 then kV s.has x.place else if x.kind=6 then decide (tK s.inputs x.place=1) else if x.kind=7 then XT x s else false):=rfl
 have HB0:=zA (show ∀o1 o2,Below w.heap.size w ((w.alloc o1).alloc o2) from fun o1 o2=>(fe (tg _) _).alloc (by simp) _);generalize Bj x s hs=ans at *;generalize XT x s=cm at *;obtain⟨kd,lf',rg',pl,two,ot,nu,le,eq,mo⟩:=x;simp only[fY,zBQ]at *;clear h he;generalize kV hs lf'=pL at *;generalize kV hs rg'=pR at *;generalize kV s.has pl=pH at *;generalize tK s.inputs pl=pN at *;by_cases k1:kd=1
 ·subst k1
  rw[tr rfl]at HA;cases pL
  ·simp only[ce]at HA
   go_enter Tryz.func169,Tryz.ntmps169
   go_wp2_with fail
   refine(HL.out _ (HB0.out _ _)).mono ?_;rintro e w' ⟨rfl,hw⟩;obtain rfl:=hw.symm;go_wp2_with fail
   refine(HR.out _ (HB0.out _ _)).mono ?_;rintro e w' ⟨rfl,hw⟩;obtain rfl:=hw.symm;go_wp2_with fail
   go_ret
   exact⟨zF HA.out.symm,HB0.out _ _⟩
  ·simp only[Bool.true_or]at HA
   go_enter Tryz.func169,Tryz.ntmps169
   go_wp2_with fail
   refine(HL.out _ (HB0.out _ _)).mono ?_;rintro e w' ⟨rfl,hw⟩;obtain rfl:=hw.symm;go_wp2_with fail
   go_ret
   exact⟨zF HA.out.symm,HB0.out _ _⟩
 by_cases k2:kd=2
 ·subst k2
  rw[tj (by decide),tr rfl]at HA;cases pL
  ·simp only[Bool.false_and]at HA
   go_enter Tryz.func169,Tryz.ntmps169
   go_wp2_with fail
   refine(HL.out _ (HB0.out _ _)).mono ?_;rintro e w' ⟨rfl,hw⟩;obtain rfl:=hw.symm;go_wp2_with fail
   go_ret
   exact⟨zF HA.out.symm,HB0.out _ _⟩
  ·simp only[ld]at HA
   go_enter Tryz.func169,Tryz.ntmps169
   go_wp2_with fail
   refine(HL.out _ (HB0.out _ _)).mono ?_;rintro e w' ⟨rfl,hw⟩;obtain rfl:=hw.symm;go_wp2_with fail
   refine(HR.out _ (HB0.out _ _)).mono ?_;rintro e w' ⟨rfl,hw⟩;obtain rfl:=hw.symm;go_wp2_with fail
   go_ret
   exact⟨zF HA.out.symm,HB0.out _ _⟩
 by_cases k3:kd=3
 ·subst k3
  rw[tj (by decide),tj (by decide),tr rfl]at HA
  go_enter Tryz.func169,Tryz.ntmps169
  go_wp2_with fail
  refine(HL.out _ (HB0.out _ _)).mono ?_;rintro e w' ⟨rfl,hw⟩;obtain rfl:=hw.symm;go_wp2_with fail
  go_ret
  exact⟨zF HA.out.symm,HB0.out _ _⟩
 by_cases k4:kd=4
 ·subst k4
  rw[tj (by decide),tj (by decide),tj (by decide),tr rfl]at HA
  go_enter Tryz.func169,Tryz.ntmps169
  go_wp2_with fail
  go_ret
  exact⟨zF HA.out.symm,HB0.out _ _⟩
 by_cases k5:kd=5
 ·subst k5
  rw[tj (by decide),tj (by decide),tj (by decide),tj (by decide),tr rfl]at HA
  go_enter Tryz.func169,Tryz.ntmps169
  go_wp2_with fail
  refine(HH.out _ (HB0.out _ _)).mono ?_;rintro e w' ⟨rfl,hw⟩;obtain rfl:=hw.symm;go_wp2_with fail
  go_ret
  exact⟨zF HA.out.symm,HB0.out _ _⟩
 by_cases k6:kd=6
 ·subst k6
  rw[tj (by decide),tj (by decide),tj (by decide),tj (by decide),tj (by decide),tr rfl]at HA;have hd:decide (pN=1)=(pN==1):=by rw[Bool.eq_iff_iff];simp
  rw[hd]at HA;clear hd
  go_enter Tryz.func169,Tryz.ntmps169
  go_wp2_with fail
  refine(HN.out _ (HB0.out _ _)).mono ?_;rintro e w' ⟨rfl,hw⟩;obtain rfl:=hw.symm;go_wp2_with fail
  go_ret
  exact⟨zF HA.out.symm,HB0.out _ _⟩
 by_cases k7:kd=7
 ·subst k7
  rw[tj (by decide),tj (by decide),tj (by decide),tj (by decide),tj (by decide),tj (by decide),tr rfl]at HA
  go_enter Tryz.func169,Tryz.ntmps169
  go_wp2_with fail
  refine(HC.out _ (HB0.out _ _)).mono ?_;rintro e w2 ⟨rfl,hb2⟩;have HB2:Hid (Below w.heap.size w w2):=(HB0.out _ _).trans (hb2.mono (HB0.out _ _).size);clear hb2;go_wp2_with fail
  go_ret
  exact⟨zF HA.out.symm,HB2.out⟩
 ·rw[tj k1,tj k2,tj k3,tj k4,tj k5,tj k6,tj k7]at HA
  have b1:(kd==1)=false:=by simpa using k1
  have b2:(kd==2)=false:=by simpa using k2
  have b3:(kd==3)=false:=by simpa using k3
  have b4:(kd==4)=false:=by simpa using k4
  have b5:(kd==5)=false:=by simpa using k5
  have b6:(kd==6)=false:=by simpa using k6
  have b7:(kd==7)=false:=by simpa using k7
  clear k1 k2 k3 k4 k5 k6 k7
  go_enter Tryz.func169,Tryz.ntmps169
  go_wp2_with fail
  go_ret
  exact⟨zF HA.out.symm,HB0.out _ _⟩
theorem zAX{α:Type}(p:α->Bool)(d:α)(l:List α)(i:Nat)(h:i<l.length):(l.drop i).all p=(p (l.getD i d)&&(l.drop (i+1)).all p):=by
 rw[pi h,fa];simp[List.getD,h]
theorem jc{α:Type}{l:List α}{i:Nat}(d:α)(h:i<l.length):l.getD i d∈l:=by simp[List.getD,h]
def gF(s:xQ):List kH->List Bool->List Bool
 | [],hs=>hs
 | x::r,hs=>gF s r (hs++[Bj x s hs])
def pG(s:xQ)(l:List QY):Bool:=l.all fun p => !(decide (p.kind=3) && !kV s.has p.place)
def jN(r:xU)(s:xQ):Bool:=pG s r.sum&&kV (gF s r.guard []) r.root
theorem FO(s:xQ)(l:List kH)(i:Nat)(hs:List Bool)(h:i<l.length):gF s (l.drop i) hs=gF s (l.drop (i+1)) (hs++[Bj (l.getD i nX) s hs]):=by
 rw[pi h,gF];simp[List.getD,h]
theorem JD(hs:List Bool)(n:Nat)(a:Int):kV (hs++List.replicate n false) a=kV hs a:=by
 unfold kV;by_cases h0:0<=a
 ·by_cases h1:a<hs.length
  ·rw[ty h1,ty (show a<((hs++List.replicate n false).length:Int) by simp;omega)]
   simp[List.getD,po (show a.toNat<hs.length by omega)]
  ·rw[tu h1]
   have:(hs++List.replicate n false).getD a.toNat false=false:=by
    rw[List.getD,mq (by omega),dj];split <;> rfl
   rw[this];simp
 ·rw[tu h0];rfl
theorem zDI(x:kH)(s:xQ)(hs:List Bool)(n:Nat):Bj x s (hs++List.replicate n false)=Bj x s hs:=by
 unfold Bj;rw[JD,JD]
theorem kX.bools{l:List Bool}(h:kX w g l)(hf:l.length<=10000):dP w (some ⟨g,0,none⟩) l :=
 ⟨.inr ⟨g,rfl,fun j hj=>by rw[Gz]at hj;rw[h.cell hj,QP l j hj]⟩,hf⟩
theorem zD8(hs:List Bool)(i n:Nat)(z:Bool)(h:hs.length=i)(hn:i<n):(hs++List.replicate (n-i) false).set i z=(hs++[z])++List.replicate (n-(i+1)) false:=by
 rw[List.set_append_right _ _ (by omega),show i-hs.length=0 by omega,show n-i=(n-(i+1))+1 by omega,List.replicate_succ,List.set_cons_zero];simp
theorem Br(w:World)(ia ha va:Option Addr)(ic hc vc:Nat)(s:xQ)(x:MX)(hx:qK w x)(h:aR w ia ha va s) :
 Calls Tryz.prog 132 #[qB x,zBQ ia ha va ic hc vc s] w fun e w'=>e=.returned (.bool (jN x.1 s))/\Below w.heap.size w w':=by
 obtain⟨pa,pc,e1,hp⟩:=hx.sum;obtain⟨ga,gc,e2,hg⟩:=hx.guard;have hfp:=hx.few1;have hfg:=hx.few2;have HP:=zA hp.cel;have HG:=zA hg.cel;have HS:=zA h;have HA:Hid (jN x.1 s=(pG s x.1.sum&&kV (gF s x.1.guard []) x.1.root)):=rfl;obtain⟨⟨lab,cc,ps,gd,root⟩,pv,gv⟩:=x;simp only at e1 e2 HP HG hfp hfg HA;subst e1 e2;simp only[qB,zBQ];clear hx hp hg h;generalize jN ⟨lab,cc,ps,gd,root⟩ s=ans at *
 go_enter Tryz.func132,Tryz.ntmps132
 go_wp2_with fail
 generalize hO1:Obj.cells #[.string ⟨lab.toArray⟩,.int .i64 cc,.slice pa ps.length pc,.slice ga gd.length gc,.int .i64 root] 162=O1 at *;generalize hO2:Obj.cells #[.slice ia s.inputs.length ic,.slice ha s.has.length hc,.slice va s.values.length vc] 168=O2 at *;have y0:((w.alloc O1).alloc O2).heap[w.heap.size]? = some O1:=yD (zH _ _)
 have y1:((w.alloc O1).alloc O2).heap[w.heap.size+1]? = some O2:=by
  have h9:=zH (w.alloc O1) O2;rw[show (w.alloc O1).heap.size=w.heap.size+1 by simp]at h9;exact h9
 have hb0:Below w.heap.size w ((w.alloc O1).alloc O2):=(fe (tg _) _).alloc (by simp) _;have hs0:((w.alloc O1).alloc O2).heap.size=w.heap.size+2:=by simp
 have HO1:=zA hO1;have HO2:=zA hO2;clear hO1 hO2;generalize (w.alloc O1).alloc O2=w0 at *;have HY0:=zA y0;have HY1:=zA y1;have HB0:=zA hb0;clear y0 y1 hb0
 go_loopw [14] (fun iv wr=>∃(i:Nat),i<=ps.length/\iv=.int .i64 i/\Hid (Below w0.heap.size w0 wr)/\Hid ((pG s (ps.drop i)&&kV (gF s gd []) root)=ans)) (fun iv _=>ps.length-(intOf iv).toNat)
 case atStart=>exact⟨0,p7 _,rfl,zA (tl _ _),zA HA.out.symm⟩
 case round =>
  obtain⟨i,hi,rfl,HB,HE⟩:=hrel;have zK6:=HB.out.size;have zKE:Hid (Below w.heap.size w wr):=HB0.out.trans (HB.out.mono (by omega));have x1:wr.heap[w.heap.size+1]? = some O2:=by rw[HB.out.block _ (by omega)];exact HY1.out
  rw[<-HO2.out]at x1;have x0:wr.heap[w.heap.size]? = some O1:=by rw[HB.out.block _ (by omega)];exact HY0.out
  rw[<-HO1.out]at x0;by_cases zJS:i<ps.length
  ·have hpr:=HP.out.below zKE.out
   obtain⟨gp,rfl,q0⟩:=hpr.at ((zR bA 3 (fun _=>rfl) zDQ ps i 0 zJS (by decide)).trans rfl);have q1:=(hpr.at ((zR bA 3 (fun _=>rfl) zDQ ps i 1 zJS (by decide)).trans rfl)).elim fun g' h=>(show gp=g' by simpa using h.1) ▸ h.2;have q2:=(hpr.at ((zR bA 3 (fun _=>rfl) zDQ ps i 2 zJS (by decide)).trans rfl)).elim fun g' h=>(show gp=g' by simpa using h.1) ▸ h.2;rw[mz]at q0;have c1:=zC x1 1;simp only[bp,dl,da]at c1;have hE:=HE.out;unfold pG at hE;rw[zAX _ zDQ _ i zJS]at hE;have HE2:=zA hE;have lgp:=zY q0;have mgp:wr.heap.size≠gp:=by omega
   have m1:wr.heap.size≠w.heap.size+1:=by omega
   have m2:w.heap.size+1<wr.heap.size:=by omega
   have HI:=zA (fun w' (hb:Below w.heap.size w w') a=>oD w' ha hc s.has a (HS.out.has.below hb));clear HE hE hpr x0 x1;generalize ps.getD i zDQ=p at *;obtain⟨pk,pn,pl⟩:=p;simp only at q0 q1 q2 HE2;by_cases k1:pk=3
   ·subst k1
    have HI1:=zA (fun w' hb=>HI.out w' hb pl);clear HI;generalize kV s.has pl=tv at *;cases tv
    ·have HE3:Hid (ans=false):=by have:=HE2.out;simpa[Hid] using this.symm
     go_wp2_with fail
     refine(HI1.out _ (zKE.out.alloc (by omega) _)).mono ?_;rintro e w' ⟨rfl,hw⟩;obtain rfl:=hw.symm;go_wp2_with fail
     go_ret
     exact⟨zF HE3.out.symm,zKE.out.alloc (by omega) _⟩
    ·have HE3:Hid ((pG s (ps.drop (i+1))&&kV (gF s gd []) root)=ans):=by have:=HE2.out;simpa[pG,Hid] using this
     go_wp2_with fail
     refine(HI1.out _ (zKE.out.alloc (by omega) _)).mono ?_;rintro e w' ⟨rfl,hw⟩;obtain rfl:=hw.symm;go_wp2_with fail
     go_roundw
     case rel=>exact⟨i+1,by omega,by go_num,zA (HB.out.alloc zK6 _),HE3⟩
     case measure=>simp[intOf];omega
   ·have HE3:Hid ((pG s (ps.drop (i+1))&&kV (gF s gd []) root)=ans):=by have:=HE2.out;simpa[pG,Hid,k1] using this
    have b1:(pk==3)=false:=by simpa using k1
    clear k1;go_wp2_with fail
    go_roundw
    case rel=>exact⟨i+1,by omega,by go_num,zA (HB.out.alloc zK6 _),HE3⟩
    case measure=>simp[intOf];omega
  ·have HE3:Hid (kV (gF s gd []) root=ans):=by have:=HE.out;rw[pe (by omega)]at this;simpa[pG,Hid] using this
   have c3:=zC x0 3;have c4:=zC x0 4;simp only[bp,dl,da]at c3 c4;have m2:w.heap.size<wr.heap.size:=by omega
   have m3:wr.heap.size≠w.heap.size:=by omega
   clear HE;have HBr:=zKE;have hsw:w.heap.size+2<=wr.heap.size:=by omega
   have HX0:=zA x0;have HX1:=zA x1;have hmk:=run_make_row' (P:=Tryz.prog) 166 4 (.bool false) 1 Tryz.underlying166 Vn rfl .i64 .i64 gd.length (by omega) (by omega);rw[YS]at hmk;clear x0 x1;go_wp2_with fail
   have HM0:Hid (kX (wr.alloc (.cells (gC (List.replicate gd.length false)) 4)) wr.heap.size ([]++List.replicate (gd.length-0) false)):=zH _ _;clear c3 c4 m2 m3 hmk;generalize hwq:wr=wq at *;clear hwq
   go_loopw [37] (fun iv wr=>∃(i:Nat) (hs:List Bool),i<=gd.length/\Hid (hs.length=i)/\iv=.int .i64 i/\Hid (kX wr wq.heap.size (hs++List.replicate (gd.length-i) false))/\Hid (Below wq.heap.size wq wr)/\wq.heap.size<wr.heap.size/\Hid (gF s (gd.drop i) hs=gF s gd [])) (fun iv _=>gd.length-(intOf iv).toNat)
   case atStart=>exact⟨0,[],p7 _,zA rfl,rfl,HM0,zA (fe (tg _) _),by simp,zA rfl⟩
   case round =>
    obtain⟨i,hs,hi,HHl,rfl,HM,HBz,hszz,HEz⟩:=hrel;have HBy:Hid (Below w.heap.size w wr):=HBr.out.trans (HBz.out.mono (by omega));have x0:wr.heap[w.heap.size]? = _:=(HBz.out.block _ (by omega)).trans HX0.out;have x1:wr.heap[w.heap.size+1]? = _:=(HBz.out.block _ (by omega)).trans HX1.out;have zJV:(hs++List.replicate (gd.length-i) false).length=gd.length:=by have:=HHl.out;simp;omega
    have HLen:=zA zJV;have HBo:Hid (dP wr (some ⟨wq.heap.size,0,none⟩) (hs++List.replicate (gd.length-i) false)):=HM.out.bools (by rw[zJV];exact hfg);clear zJV;by_cases zK7:i<gd.length
    ·have hpr:=HG.out.below HBy.out
     obtain⟨gp,rfl,q0⟩:=hpr.at ((zR qQ 10 (fun _=>rfl) nX gd i 0 zK7 (by decide)).trans rfl);have q1:=(hpr.at ((zR qQ 10 (fun _=>rfl) nX gd i 1 zK7 (by decide)).trans rfl)).elim fun g' h=>(show gp=g' by simpa using h.1) ▸ h.2;have q2:=(hpr.at ((zR qQ 10 (fun _=>rfl) nX gd i 2 zK7 (by decide)).trans rfl)).elim fun g' h=>(show gp=g' by simpa using h.1) ▸ h.2;have q3:=(hpr.at ((zR qQ 10 (fun _=>rfl) nX gd i 3 zK7 (by decide)).trans rfl)).elim fun g' h=>(show gp=g' by simpa using h.1) ▸ h.2;have q4:=(hpr.at ((zR qQ 10 (fun _=>rfl) nX gd i 4 zK7 (by decide)).trans rfl)).elim fun g' h=>(show gp=g' by simpa using h.1) ▸ h.2;have q5:=(hpr.at ((zR qQ 10 (fun _=>rfl) nX gd i 5 zK7 (by decide)).trans rfl)).elim fun g' h=>(show gp=g' by simpa using h.1) ▸ h.2;have q6:=(hpr.at ((zR qQ 10 (fun _=>rfl) nX gd i 6 zK7 (by decide)).trans rfl)).elim fun g' h=>(show gp=g' by simpa using h.1) ▸ h.2;have q7:=(hpr.at ((zR qQ 10 (fun _=>rfl) nX gd i 7 zK7 (by decide)).trans rfl)).elim fun g' h=>(show gp=g' by simpa using h.1) ▸ h.2;have q8:=(hpr.at ((zR qQ 10 (fun _=>rfl) nX gd i 8 zK7 (by decide)).trans rfl)).elim fun g' h=>(show gp=g' by simpa using h.1) ▸ h.2;have q9:=(hpr.at ((zR qQ 10 (fun _=>rfl) nX gd i 9 zK7 (by decide)).trans rfl)).elim fun g' h=>(show gp=g' by simpa using h.1) ▸ h.2;rw[mz]at q0;have d0:=zC x1 0;have d1:=zC x1 1;have d2:=zC x1 2;simp only[bp,dl,da]at d0 d1 d2;have hE:=HEz.out;rw[FO s gd i hs zK7]at hE;have HE4:=zA hE;have lgp:=zY q0;have mgp:wr.heap.size≠gp:=by omega
     have m1:wr.heap.size≠w.heap.size+1:=by omega
     have m2:w.heap.size+1<wr.heap.size:=by omega
     have HHo:Hid (∀o,Calls Tryz.prog 169 #[fY (gd.getD i nX),zBQ ia ha va ic hc vc s,.slice (some ⟨wq.heap.size,0,none⟩) gd.length gd.length] (wr.alloc o) fun e w'=>e=.returned (.bool (Bj (gd.getD i nX) s hs))/\Below (wr.alloc o).heap.size (wr.alloc o) w'):=fun o=>by
      have h9:=uo (wr.alloc o) ia ha va (some ⟨wq.heap.size,0,none⟩) ic hc vc gd.length s (hs++List.replicate (gd.length-i) false) (gd.getD i nX) (HS.out.below (HBy.out.alloc (by omega) o)) (HBo.out.below (fe (tg _) o));rw[zDI,HLen.out]at h9;exact h9
     have zKA:Hid (∀z,(hs++List.replicate (gd.length-i) false).set i z=(hs++[z])++List.replicate (gd.length-(i+1)) false):=fun z=>zD8 hs i gd.length z HHl.out zK7
     have HCl:Hid (∀w5,Below wr.heap.size wr w5->∃v,w5.cell? ⟨wq.heap.size,i,none⟩=some (.bool v)):=fun w5 hb5=>by
      exact⟨_,(hb5.cell (p:=⟨wq.heap.size,i,none⟩) hszz).trans (HM.out.cell (by rw[HLen.out];exact zK7))⟩
     clear hE hpr x0 x1 HEz;generalize gd.getD i nX=nd at *;generalize Bj nd s hs=z at *;obtain⟨n0,n1,n2,n3,n4,n5,n6,n7,n8,n9⟩:=nd;simp only[fY,zBQ]at HHo;simp only at q0 q1 q2 q3 q4 q5 q6 q7 q8 q9;go_wp2_with fail
     refine(HHo.out _).mono ?_;rintro e w5 ⟨rfl,hb5⟩;have HB5:Hid (Below wr.heap.size wr w5):=(fe (tg _) _).trans (hb5.mono (by simp));have HM5:=zA (HM.out.below HB5.out);have hs5:=HB5.out.size;obtain⟨oldz,hcz⟩:=HCl.out w5 HB5.out;have hfz:=HM5.out.free i;have HM6:Hid (kX (w5.setCell ⟨wq.heap.size,i,none⟩ (.bool z)) wq.heap.size ((hs++[z])++List.replicate (gd.length-(i+1)) false)):=by unfold Hid;rw[<-zKA.out z];exact HM5.out.set i z
     have HB6:Hid (Below wq.heap.size wq (w5.setCell ⟨wq.heap.size,i,none⟩ (.bool z))):=(HBz.out.trans (HB5.out.mono (pb hszz))).setCell (p:=⟨wq.heap.size,i,none⟩) (tg _) _;have hs6:wq.heap.size<(w5.setCell ⟨wq.heap.size,i,none⟩ (.bool z)).heap.size:=by have:=HM6.out.lt;exact this
     clear hb5 HHo HCl;go_wp2_with fail
     go_roundw
     case rel=>exact⟨i+1,hs++[z],by omega,zA (by have:=HHl.out;simp;omega),by go_num,HM6,HB6,hs6,HE4⟩
     case measure=>simp[intOf];omega
    ·have HE5:Hid (kV hs root=ans):=by have:=HEz.out;rw[pe (by omega)]at this;have h9:=HE3.out;rw[<-this]at h9;exact h9
     have d4:=zC x0 4;simp only[bp,dl,da]at d4
     have HI:Hid (Calls Tryz.prog 168 #[.slice (some ⟨wq.heap.size,0,none⟩) gd.length gd.length,.int .i64 root] wr fun e w'=>e=.returned (.bool ans)/\w'=wr):=by
      have h9:=oD wr (some ⟨wq.heap.size,0,none⟩) gd.length (hs++List.replicate (gd.length-i) false) root HBo.out;rw[JD,HE5.out,HLen.out]at h9;exact h9
     clear x0 x1;go_wp2_with fail
     refine HI.out.mono ?_;rintro e w' ⟨rfl,hw⟩;obtain rfl:=hw.symm;go_wp2_with fail
     go_ret
     exact⟨rfl,HBy.out⟩
def iC(l:List Int):Array Value:=(pU l).toArray
theorem ky{k:Nat}(hk:k<l.length):(iC l)[k]? = some (.int .i64 (l.getD k 0)):=by
 unfold iC;rw[bp];exact Q7 l k hk
def nH(w:World)(g:Nat)(l:List Int):Prop:=w.heap[g]? = some (.cells (iC l) 3 (0,0))
theorem nH.cell(h:nH w g l){k:Nat}(hk:k<l.length):w.cell? ⟨g,k,none⟩=some (.int .i64 (l.getD k 0)):=(zC h k).trans (ky hk)
theorem nH.free(h:nH w g l)(k:Nat):w.frozen? ⟨g,k,none⟩=false:=by simp[World.frozen?,show w.heap[g]? = _ from h]
theorem nH.lt(h:nH w g l):g<w.heap.size:=zQ h
theorem nH.set(h:nH w g l)(k:Nat)(b:Int):nH (w.setCell ⟨g,k,none⟩ (.int .i64 b)) g (l.set k b):=by
 unfold nH at h ⊢;rw[setCell_eq_setRow w g k _ _ _ _ h,bf w g (iC l) _ _ _ h];congr 2
 unfold iC pU;simp[List.map_set]
theorem nH.below(h:nH w g l)(hb:Below w.heap.size w w'):nH w' g l:=by
 have hl:=h.lt;unfold nH at h ⊢;rw[hb.block g hl];exact h
theorem nH.other(h:nH w g l){p:Addr}(hp:g≠p.block)(u:Value):nH (w.setCell p u) g l:=by
 unfold nH at h ⊢;rw[l9 _ _ _ _ hp];exact h
theorem F7(n:Nat):madeCells #[Value.int .i64 0] n=iC (List.replicate n 0):=by
 apply Array.ext
 ·simp[madeCells,iC,pU]
 ·intro i h1 h2
  simp[madeCells,iC,pU,Nat.mod_one]
theorem Q9:(Tryz.prog.info? 3).map (fun i=>(i.zero,i.size,i.bytes))=some (some (.int .i64 0),1,8):=by kernel_rfl
structure zFY where
 rules:List Int
 kinds:List Int
 vals:List Int
structure zAZ(w:World)(ra ka va:Option Addr)(W:zFY):Prop where
 rules:lR w ra W.rules
 kinds:lR w ka W.kinds
 vals:lR w va W.vals
theorem zAZ.below{ra ka va:Option Addr}{W:zFY}(h:zAZ w ra ka va W)(hb:Below w.heap.size w w'):zAZ w' ra ka va W:=⟨h.rules.below hb,h.kinds.below hb,h.vals.below hb⟩
def zB4(w:World)(a:Option Addr)(ts:zT):Prop:=ts=[]\/∃g,a=some ⟨g,0,none⟩/\oQ w g 0 ts
theorem zB4.below{ts:zT}(h:zB4 w a ts)(hb:Below w.heap.size w w'):zB4 w' a ts:=by
 rcases h with h|⟨g,h1,h2⟩
 ·exact .inl h
 ·exact .inr ⟨g,h1,h2.below' hb⟩
theorem zB4.tok{ts:zT}(h:zB4 w a ts){i:Nat}(hi:i<ts.length):∃g,a=some ⟨g,0,none⟩/\∀j,j<ts.length->w.cell? ⟨g,j*3,none⟩=some (.string ⟨(tA ts j).toArray⟩)/\w.cell? ⟨g,j*3+2,none⟩=some (.string ⟨(cA ts j).toArray⟩):=by
 rcases h with h|⟨g,h1,h2⟩
 ·rw[h]at hi;simp at hi
 ·refine⟨g,h1,fun j hj=>?_⟩
  have:=h2.tok hj;rw[db]at this;exact this
theorem FI(a b:List Int):pU (a++b)=pU a++pU b:=by simp[pU]
end Go.Proofs.YtnbpdffdnphbeabGreatDoor
