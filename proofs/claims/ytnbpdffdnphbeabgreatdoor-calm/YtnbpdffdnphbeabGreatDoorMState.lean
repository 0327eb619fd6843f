import Derived.Test.YtnbpdffdnphbeabGreatDoorDBase
set_option maxHeartbeats 4000000
set_option maxRecDepth 100000
namespace Go.Proofs.YtnbpdffdnphbeabGreatDoor
open Go.RowKit
variable{l:List Int}{g:Nat}{w w':World}
structure dB(w:World)(a:Option Addr)(l:List Bool):Prop where
 cel:kS w a (iU l)
 few:l.length<=10000
theorem dB.below{a:Option Addr}{l:List Bool}(h:dB w a l)(hb:Below w.heap.size w w'):dB w' a l:=⟨h.cel.below hb,h.few⟩
theorem Jc(l:List Bool)(i:Nat)(h:i<l.length):(iU l)[i]? = some (.bool (l.getD i false)):=by simp[iU,List.getD,h]
theorem dB.at{a:Option Addr}{l:List Bool}(h:dB w a l){i:Nat}(hi:i<l.length):∃g,a=some ⟨g,0,none⟩/\w.cell? ⟨g,i,none⟩=some (.bool (l.getD i false)):=h.cel.at (Jc l i hi)
def kF(l:List Int)(a:Int):Int:=if 0<=a/\a<l.length then l.getD a.toNat 0 else 0
theorem oS(w:World)(la:Option Addr)(lc:Nat)(l:List Bool)(a:Int)(h:dB w la l) :
 Calls Tryz.prog 168 #[.slice la l.length lc,.int .i64 a] w fun e w'=>e=.returned (.bool (kP l a))/\w'=w:=by
 have hf:=h.few;by_cases h0:0<=a
 ·obtain⟨n,rfl⟩:∃n:Nat,a=(n:Int):=⟨a.toNat,by omega⟩
  by_cases h1:n<l.length
  ·obtain⟨g,rfl,c⟩:=h.at h1
   have HR:Hid (kP l (n:Int)=l.getD n false):=by unfold Hid kP;rw[tu h0,tu (by omega:(n:Int)<l.length)];rfl
   generalize l.getD n false=x at *;have i1:(n:Int)<(l.length:Int):=by omega
   clear h
   go_enter Tryz.func168,Tryz.ntmps168
   go_wp2_with fail
   go_ret
   exact⟨zF HR.out.symm,rfl⟩
  ·have HR:Hid (kP l (n:Int)=false):=by unfold Hid kP;rw[tu h0,tq (by omega:¬(n:Int)<l.length)];rfl
   have i1:¬(n:Int)<(l.length:Int):=by omega
   clear h
   go_enter Tryz.func168,Tryz.ntmps168
   go_wp2_with fail
   go_ret
   exact⟨zF HR.out.symm,rfl⟩
 ·have HR:Hid (kP l a=false):=by unfold Hid kP;rw[tq h0];rfl
  clear h
  go_enter Tryz.func168,Tryz.ntmps168
  go_wp2_with fail
  go_ret
  exact⟨zF HR.out.symm,rfl⟩
theorem J7(w:World)(la:Option Addr)(lc:Nat)(l:List Int)(a:Int)(h:jV w la l) :
 Calls Tryz.prog 170 #[.slice la l.length lc,.int .i64 a] w fun e w'=>e=.returned (.int .i64 (kF l a))/\w'=w:=by
 have hf:=h.few;by_cases h0:0<=a
 ·obtain⟨n,rfl⟩:∃n:Nat,a=(n:Int):=⟨a.toNat,by omega⟩
  by_cases h1:n<l.length
  ·obtain⟨g,rfl,c⟩:=h.at h1
   have HR:Hid (kF l (n:Int)=l.getD n 0):=by unfold Hid kF;rw[tm ⟨h0,by omega⟩];rfl
   generalize l.getD n 0=x at *;have i1:(n:Int)<(l.length:Int):=by omega
   clear h
   go_enter Tryz.func170,Tryz.ntmps170
   go_wp2_with fail
   go_ret
   exact⟨yQ HR.out.symm,rfl⟩
  ·have HR:Hid (kF l (n:Int)=0):=by unfold Hid kF;rw[tb (by omega)]
   have i1:¬(n:Int)<(l.length:Int):=by omega
   clear h
   go_enter Tryz.func170,Tryz.ntmps170
   go_wp2_with fail
   go_ret
   exact⟨yQ HR.out.symm,rfl⟩
 ·have HR:Hid (kF l a=0):=by unfold Hid kF;rw[tb (by omega)]
  clear h
  go_enter Tryz.func170,Tryz.ntmps170
  go_wp2_with fail
  go_ret
  exact⟨yQ HR.out.symm,rfl⟩
structure xA where
 inputs:List Int
 has:List Bool
 values:List Int
structure nH(w:World)(ia ha va:Option Addr)(s:xA):Prop where
 inputs:jV w ia s.inputs
 has:dB w ha s.has
 values:jV w va s.values
theorem nH.below{ia ha va:Option Addr}{s:xA}(h:nH w ia ha va s)(hb:Below w.heap.size w w'):nH w' ia ha va s:=⟨h.inputs.below hb,h.has.below hb,h.values.below hb⟩
def CG(ia ha va:Option Addr)(ic hc vc:Nat)(s:xA):Value:=.agg #[.slice ia s.inputs.length ic,.slice ha s.has.length hc,.slice va s.values.length vc]
def Qh(x:qV)(s:xA):Bool :=
 if kF s.inputs x.place<(if x.two then kF s.inputs x.other else x.num) then x.less else if (if x.two then kF s.inputs x.other else x.num)<kF s.inputs x.place then x.more else x.equal
def Kt(x:qV)(s:xA)(hs:List Bool):Bool :=
 if x.kind=1 then kP hs x.left || kP hs x.right else if x.kind=2 then kP hs x.left&&kP hs x.right else if x.kind=3 then !kP hs x.left
 else if x.kind=4 then true else if x.kind=5 then kP s.has x.place else if x.kind=6 then decide (kF s.inputs x.place=1) else if x.kind=7 then Qh x s else false
theorem Ce(w:World)(ia ha va:Option Addr)(ic hc vc:Nat)(s:xA)(x:qV)(h:nH w ia ha va s) :
 Calls Tryz.prog 187 #[gP x,CG ia ha va ic hc vc s] w fun e w'=>e=.returned (.bool (Qh x s))/\Below w.heap.size w w':=by
 have HN:=zA (fun w' (hb:Below w.heap.size w w') a=>J7 w' ia ic s.inputs a (h.inputs.below hb));have HC:Hid (Qh x s=if kF s.inputs x.place<(if x.two then kF s.inputs x.other else x.num) then x.less else if (if x.two then kF s.inputs x.other else x.num)<kF s.inputs x.place then x.more else x.equal):=rfl;obtain⟨kd,lf',rg',pl,two,ot,nu,le,eq,mo⟩:=x;simp only[gP,CG]at *;have HN1:=zA (fun w' hb=>HN.out w' hb pl);have HN2:=zA (fun w' hb=>HN.out w' hb ot);clear HN h;generalize kF s.inputs pl=p1 at *;generalize kF s.inputs ot=p2 at *;generalize Qh ⟨kd,lf',rg',pl,two,ot,nu,le,eq,mo⟩ s=ans at *;have hb0:∀o1 o2,Below w.heap.size w ((w.alloc o1).alloc o2):=fun o1 o2=>(fj (j1 _) _).alloc (by simp) _;have HB0:=zA hb0;clear hb0;cases two
 ·simp only[Bool.false_eq_true,if_false]at HC
  by_cases k1:p1<nu
  ·rw[tm k1]at HC
   go_enter Tryz.func187,Tryz.ntmps187
   go_wp2_with fail
   refine(HN1.out _ (HB0.out _ _)).mono ?_;rintro e w' ⟨rfl,hw⟩;obtain rfl:=hw.symm;go_wp2_with fail
   go_ret
   exact⟨zF HC.out.symm,HB0.out _ _⟩
  ·rw[tb k1]at HC
   by_cases k2:nu<p1
   ·rw[tm k2]at HC
    go_enter Tryz.func187,Tryz.ntmps187
    go_wp2_with fail
    refine(HN1.out _ (HB0.out _ _)).mono ?_;rintro e w' ⟨rfl,hw⟩;obtain rfl:=hw.symm;go_wp2_with fail
    go_ret
    exact⟨zF HC.out.symm,HB0.out _ _⟩
   ·rw[tb k2]at HC
    go_enter Tryz.func187,Tryz.ntmps187
    go_wp2_with fail
    refine(HN1.out _ (HB0.out _ _)).mono ?_;rintro e w' ⟨rfl,hw⟩;obtain rfl:=hw.symm;go_wp2_with fail
    go_ret
    exact⟨zF HC.out.symm,HB0.out _ _⟩
 ·simp only[f9]at HC
  by_cases k1:p1<p2
  ·rw[tm k1]at HC
   go_enter Tryz.func187,Tryz.ntmps187
   go_wp2_with fail
   refine(HN1.out _ (HB0.out _ _)).mono ?_;rintro e w' ⟨rfl,hw⟩;obtain rfl:=hw.symm;go_wp2_with fail
   refine(HN2.out _ (HB0.out _ _)).mono ?_;rintro e w' ⟨rfl,hw⟩;obtain rfl:=hw.symm;go_wp2_with fail
   go_ret
   exact⟨zF HC.out.symm,HB0.out _ _⟩
  ·rw[tb k1]at HC
   by_cases k2:p2<p1
   ·rw[tm k2]at HC
    go_enter Tryz.func187,Tryz.ntmps187
    go_wp2_with fail
    refine(HN1.out _ (HB0.out _ _)).mono ?_;rintro e w' ⟨rfl,hw⟩;obtain rfl:=hw.symm;go_wp2_with fail
    refine(HN2.out _ (HB0.out _ _)).mono ?_;rintro e w' ⟨rfl,hw⟩;obtain rfl:=hw.symm;go_wp2_with fail
    go_ret
    exact⟨zF HC.out.symm,HB0.out _ _⟩
   ·rw[tb k2]at HC
    go_enter Tryz.func187,Tryz.ntmps187
    go_wp2_with fail
    refine(HN1.out _ (HB0.out _ _)).mono ?_;rintro e w' ⟨rfl,hw⟩;obtain rfl:=hw.symm;go_wp2_with fail
    refine(HN2.out _ (HB0.out _ _)).mono ?_;rintro e w' ⟨rfl,hw⟩;obtain rfl:=hw.symm;go_wp2_with fail
    go_ret
    exact⟨zF HC.out.symm,HB0.out _ _⟩
theorem ui(w:World)(ia ha va ea:Option Addr)(ic hc vc ec:Nat)(s:xA)(hs:List Bool)(x:qV)(h:nH w ia ha va s)(he:dB w ea hs) :
 Calls Tryz.prog 169 #[gP x,CG ia ha va ic hc vc s,.slice ea hs.length ec] w fun e w'=>e=.returned (.bool (Kt x s hs))/\Below w.heap.size w w':=by
 have HL:=zA (fun w' (hb:Below w.heap.size w w')=>oS w' ea ec hs x.left (he.below hb));have HR:=zA (fun w' (hb:Below w.heap.size w w')=>oS w' ea ec hs x.right (he.below hb));have HH:=zA (fun w' (hb:Below w.heap.size w w')=>oS w' ha hc s.has x.place (h.has.below hb));have HN:=zA (fun w' (hb:Below w.heap.size w w')=>J7 w' ia ic s.inputs x.place (h.inputs.below hb));have HC:=zA (fun w' (hb:Below w.heap.size w w')=>Ce w' ia ha va ic hc vc s x (h.below hb))
 have HA:Hid (Kt x s hs=if x.kind=1 then kP hs x.left || kP hs x.right else if x.kind=2 then kP hs x.left&&kP hs x.right else if x.kind=3 then !kP hs x.left
  else if x.kind=4 then true else if x.kind=5 then kP s.has x.place else if x.kind=6 then decide (kF s.inputs x.place=1) else if x.kind=7 then Qh x s else false):=rfl
 have HB0:=zA (show ∀o1 o2,Below w.heap.size w ((w.alloc o1).alloc o2) from fun o1 o2=>(fj (j1 _) _).alloc (by simp) _);generalize Kt x s hs=ans at *;generalize Qh x s=cm at *;obtain⟨kd,lf',rg',pl,two,ot,nu,le,eq,mo⟩:=x;simp only[gP,CG]at *;clear h he;generalize kP hs lf'=pL at *;generalize kP hs rg'=pR at *;generalize kP s.has pl=pH at *;generalize kF s.inputs pl=pN at *;by_cases k1:kd=1
 ·subst k1
  rw[tm rfl]at HA;cases pL
  ·simp only[lu]at HA
   go_enter Tryz.func169,Tryz.ntmps169
   go_wp2_with fail
   refine(HL.out _ (HB0.out _ _)).mono ?_;rintro e w' ⟨rfl,hw⟩;obtain rfl:=hw.symm;go_wp2_with fail
   refine(HR.out _ (HB0.out _ _)).mono ?_;rintro e w' ⟨rfl,hw⟩;obtain rfl:=hw.symm;go_wp2_with fail
   go_ret
   exact⟨zF HA.out.symm,HB0.out _ _⟩
  ·simp only[fg]at HA
   go_enter Tryz.func169,Tryz.ntmps169
   go_wp2_with fail
   refine(HL.out _ (HB0.out _ _)).mono ?_;rintro e w' ⟨rfl,hw⟩;obtain rfl:=hw.symm;go_wp2_with fail
   go_ret
   exact⟨zF HA.out.symm,HB0.out _ _⟩
 by_cases k2:kd=2
 ·subst k2
  rw[tb (by decide),tm rfl]at HA;cases pL
  ·simp only[ce]at HA
   go_enter Tryz.func169,Tryz.ntmps169
   go_wp2_with fail
   refine(HL.out _ (HB0.out _ _)).mono ?_;rintro e w' ⟨rfl,hw⟩;obtain rfl:=hw.symm;go_wp2_with fail
   go_ret
   exact⟨zF HA.out.symm,HB0.out _ _⟩
  ·simp only[mu]at HA
   go_enter Tryz.func169,Tryz.ntmps169
   go_wp2_with fail
   refine(HL.out _ (HB0.out _ _)).mono ?_;rintro e w' ⟨rfl,hw⟩;obtain rfl:=hw.symm;go_wp2_with fail
   refine(HR.out _ (HB0.out _ _)).mono ?_;rintro e w' ⟨rfl,hw⟩;obtain rfl:=hw.symm;go_wp2_with fail
   go_ret
   exact⟨zF HA.out.symm,HB0.out _ _⟩
 by_cases k3:kd=3
 ·subst k3
  rw[tb (by decide),tb (by decide),tm rfl]at HA
  go_enter Tryz.func169,Tryz.ntmps169
  go_wp2_with fail
  refine(HL.out _ (HB0.out _ _)).mono ?_;rintro e w' ⟨rfl,hw⟩;obtain rfl:=hw.symm;go_wp2_with fail
  go_ret
  exact⟨zF HA.out.symm,HB0.out _ _⟩
 by_cases k4:kd=4
 ·subst k4
  rw[tb (by decide),tb (by decide),tb (by decide),tm rfl]at HA
  go_enter Tryz.func169,Tryz.ntmps169
  go_wp2_with fail
  go_ret
  exact⟨zF HA.out.symm,HB0.out _ _⟩
 by_cases k5:kd=5
 ·subst k5
  rw[tb (by decide),tb (by decide),tb (by decide),tb (by decide),tm rfl]at HA
  go_enter Tryz.func169,Tryz.ntmps169
  go_wp2_with fail
  refine(HH.out _ (HB0.out _ _)).mono ?_;rintro e w' ⟨rfl,hw⟩;obtain rfl:=hw.symm;go_wp2_with fail
  go_ret
  exact⟨zF HA.out.symm,HB0.out _ _⟩
 by_cases k6:kd=6
 ·subst k6
  rw[tb (by decide),tb (by decide),tb (by decide),tb (by decide),tb (by decide),tm rfl]at HA;have hd:decide (pN=1)=(pN==1):=by rw[dg];simp
  rw[hd]at HA;clear hd
  go_enter Tryz.func169,Tryz.ntmps169
  go_wp2_with fail
  refine(HN.out _ (HB0.out _ _)).mono ?_;rintro e w' ⟨rfl,hw⟩;obtain rfl:=hw.symm;go_wp2_with fail
  go_ret
  exact⟨zF HA.out.symm,HB0.out _ _⟩
 by_cases k7:kd=7
 ·subst k7
  rw[tb (by decide),tb (by decide),tb (by decide),tb (by decide),tb (by decide),tb (by decide),tm rfl]at HA
  go_enter Tryz.func169,Tryz.ntmps169
  go_wp2_with fail
  refine(HC.out _ (HB0.out _ _)).mono ?_;rintro e w2 ⟨rfl,hb2⟩;have HB2:Hid (Below w.heap.size w w2):=(HB0.out _ _).trans (hb2.mono (HB0.out _ _).size);clear hb2;go_wp2_with fail
  go_ret
  exact⟨zF HA.out.symm,HB2.out⟩
 ·rw[tb k1,tb k2,tb k3,tb k4,tb k5,tb k6,tb k7]at HA
  have b1:(kd==1)=false:=by simpa using k1
  have b2:(kd==2)=false:=by simpa using k2
  have b3:(kd==3)=false:=by simpa using k3
  have b4:(kd==4)=false:=by simpa using k4
  have b5:(kd==5)=false:=by simpa using k5
  have b6:(kd==6)=false:=by simpa using k6
  have b7:(kd==7)=false:=by simpa using k7
  clear k1 k2 k3 k4 k5 k6 k7
  go_enter Tryz.func169,Tryz.ntmps169
  go_wp2_with fail
  go_ret
  exact⟨zF HA.out.symm,HB0.out _ _⟩
theorem zAP{α:Type}(p:α->Bool)(d:α)(l:List α)(i:Nat)(h:i<l.length):(l.drop i).all p=(p (l.getD i d)&&(l.drop (i+1)).all p):=by
 rw[pm h,fd];simp[List.getD,h]
theorem VB{α:Type}{l:List α}{i:Nat}(d:α)(h:i<l.length):l.getD i d∈l:=by simp[List.getD,h]
def fA:Int:=1152921504606846976
def cU(s:xA):List qV->List Bool->List Bool
 | [],hs=>hs
 | x::r,hs=>cU s r (hs++[Kt x s hs])
def jD(s:xA)(l:List lX):Bool:=l.all fun p => !(decide (p.kind=3) && !kP s.has p.place)
def qU(r:xO)(s:xA):Bool:=jD s r.sum&&kP (cU s r.guard []) r.root
theorem FT(s:xA)(l:List qV)(i:Nat)(hs:List Bool)(h:i<l.length):cU s (l.drop i) hs=cU s (l.drop (i+1)) (hs++[Kt (l.getD i oN) s hs]):=by
 rw[pm h,cU];simp[List.getD,h]
theorem JE(hs:List Bool)(n:Nat)(a:Int):kP (hs++List.replicate n false) a=kP hs a:=by
 unfold kP;by_cases h0:0<=a
 ·by_cases h1:a<hs.length
  ·rw[tu h1,tu (show a<((hs++List.replicate n false).length:Int) by simp;omega)]
   simp[List.getD,mt (show a.toNat<hs.length by omega)]
  ·rw[tq h1]
   have:(hs++List.replicate n false).getD a.toNat false=false:=by
    rw[List.getD,ld (by omega),cf];split <;> rfl
   rw[this];simp
 ·rw[tq h0];rfl
theorem zCZ(x:qV)(s:xA)(hs:List Bool)(n:Nat):Kt x s (hs++List.replicate n false)=Kt x s hs:=by
 unfold Kt;rw[JE,JE]
theorem jW.bools{l:List Bool}(h:jW w g l)(hf:l.length<=10000):dB w (some ⟨g,0,none⟩) l :=
 ⟨.inr ⟨g,rfl,fun j hj=>by rw[G0]at hj;rw[h.cell hj,Jc l j hj]⟩,hf⟩
theorem zCQ(hs:List Bool)(i n:Nat)(z:Bool)(h:hs.length=i)(hn:i<n):(hs++List.replicate (n-i) false).set i z=(hs++[z])++List.replicate (n-(i+1)) false:=by
 rw[List.set_append_right _ _ (by omega),show i-hs.length=0 by omega,show n-i=(n-(i+1))+1 by omega,List.replicate_succ,List.set_cons_zero];simp
theorem Xa(w:World)(ia ha va:Option Addr)(ic hc vc:Nat)(s:xA)(x:MX)(hx:uL w x)(h:nH w ia ha va s) :
 Calls Tryz.prog 132 #[uE x,CG ia ha va ic hc vc s] w fun e w'=>e=.returned (.bool (qU x.1 s))/\Below w.heap.size w w':=by
 obtain⟨pa,pc,e1,hp⟩:=hx.sum;obtain⟨ga,gc,e2,hg⟩:=hx.guard;have hfp:=hx.few1;have hfg:=hx.few2;have HP:=zA hp.cel;have HG:=zA hg.cel;have HS:=zA h;have HA:Hid (qU x.1 s=(jD s x.1.sum&&kP (cU s x.1.guard []) x.1.root)):=rfl;obtain⟨⟨lab,cc,ps,gd,root⟩,pv,gv⟩:=x;simp only at e1 e2 HP HG hfp hfg HA;subst e1 e2;simp only[uE,CG];clear hx hp hg h;generalize qU ⟨lab,cc,ps,gd,root⟩ s=ans at *
 go_enter Tryz.func132,Tryz.ntmps132
 go_wp2_with fail
 generalize hO1:Obj.cells #[.string ⟨lab.toArray⟩,.int .i64 cc,.slice pa ps.length pc,.slice ga gd.length gc,.int .i64 root] 162=O1 at *;generalize hO2:Obj.cells #[.slice ia s.inputs.length ic,.slice ha s.has.length hc,.slice va s.values.length vc] 168=O2 at *;have y0:((w.alloc O1).alloc O2).heap[w.heap.size]? = some O1:=zU (zG _ _)
 have y1:((w.alloc O1).alloc O2).heap[w.heap.size+1]? = some O2:=by
  have h9:=zG (w.alloc O1) O2;rw[show (w.alloc O1).heap.size=w.heap.size+1 by simp]at h9;exact h9
 have hb0:Below w.heap.size w ((w.alloc O1).alloc O2):=(fj (j1 _) _).alloc (by simp) _;have hs0:((w.alloc O1).alloc O2).heap.size=w.heap.size+2:=by simp
 have HO1:=zA hO1;have HO2:=zA hO2;clear hO1 hO2;generalize (w.alloc O1).alloc O2=w0 at *;have HY0:=zA y0;have HY1:=zA y1;have HB0:=zA hb0;clear y0 y1 hb0
 go_loopw [14] (fun iv wr=>∃(i:Nat),i<=ps.length/\iv=.int .i64 i/\Hid (Below w0.heap.size w0 wr)/\Hid ((jD s (ps.drop i)&&kP (cU s gd []) root)=ans)) (fun iv _=>ps.length-(intOf iv).toNat)
 case atStart=>exact⟨0,ty _,rfl,zA (tg _ _),zA HA.out.symm⟩
 case round =>
  obtain⟨i,hi,rfl,HB,HE⟩:=hrel;have zKH:=HB.out.size;have zKO:Hid (Below w.heap.size w wr):=HB0.out.trans (HB.out.mono (by omega));have x1:wr.heap[w.heap.size+1]? = some O2:=by rw[HB.out.block _ (by omega)];exact HY1.out
  rw[<-HO2.out]at x1;have x0:wr.heap[w.heap.size]? = some O1:=by rw[HB.out.block _ (by omega)];exact HY0.out
  rw[<-HO1.out]at x0;by_cases zK4:i<ps.length
  ·have hpr:=HP.out.below zKO.out
   obtain⟨gp,rfl,q0⟩:=hpr.at ((zN tY 3 (fun _=>rfl) Bq ps i 0 zK4 (by decide)).trans rfl);have q1:=(hpr.at ((zN tY 3 (fun _=>rfl) Bq ps i 1 zK4 (by decide)).trans rfl)).elim fun g' h=>(show gp=g' by simpa using h.1) ▸ h.2;have q2:=(hpr.at ((zN tY 3 (fun _=>rfl) Bq ps i 2 zK4 (by decide)).trans rfl)).elim fun g' h=>(show gp=g' by simpa using h.1) ▸ h.2;rw[l6]at q0;have c1:=zB x1 1;simp only[bm,df,co]at c1;have hE:=HE.out;unfold jD at hE;rw[zAP _ Bq _ i zK4]at hE;have HE2:=zA hE;have lgp:=yF q0;have mgp:wr.heap.size≠gp:=by omega
   have m1:wr.heap.size≠w.heap.size+1:=by omega
   have m2:w.heap.size+1<wr.heap.size:=by omega
   have HI:=zA (fun w' (hb:Below w.heap.size w w') a=>oS w' ha hc s.has a (HS.out.has.below hb));clear HE hE hpr x0 x1;generalize ps.getD i Bq=p at *;obtain⟨pk,pn,pl⟩:=p;simp only at q0 q1 q2 HE2;by_cases k1:pk=3
   ·subst k1
    have HI1:=zA (fun w' hb=>HI.out w' hb pl);clear HI;generalize kP s.has pl=tv at *;cases tv
    ·have HE3:Hid (ans=false):=by have:=HE2.out;simpa[Hid] using this.symm
     go_wp2_with fail
     refine(HI1.out _ (zKO.out.alloc (by omega) _)).mono ?_;rintro e w' ⟨rfl,hw⟩;obtain rfl:=hw.symm;go_wp2_with fail
     go_ret
     exact⟨zF HE3.out.symm,zKO.out.alloc (by omega) _⟩
    ·have HE3:Hid ((jD s (ps.drop (i+1))&&kP (cU s gd []) root)=ans):=by have:=HE2.out;simpa[jD,Hid] using this
     go_wp2_with fail
     refine(HI1.out _ (zKO.out.alloc (by omega) _)).mono ?_;rintro e w' ⟨rfl,hw⟩;obtain rfl:=hw.symm;go_wp2_with fail
     go_roundw
     case rel=>exact⟨i+1,by omega,by go_num,zA (HB.out.alloc zKH _),HE3⟩
     case measure=>simp[intOf];omega
   ·have HE3:Hid ((jD s (ps.drop (i+1))&&kP (cU s gd []) root)=ans):=by have:=HE2.out;simpa[jD,Hid,k1] using this
    have b1:(pk==3)=false:=by simpa using k1
    clear k1;go_wp2_with fail
    go_roundw
    case rel=>exact⟨i+1,by omega,by go_num,zA (HB.out.alloc zKH _),HE3⟩
    case measure=>simp[intOf];omega
  ·have HE3:Hid (kP (cU s gd []) root=ans):=by have:=HE.out;rw[pf (by omega)]at this;simpa[jD,Hid] using this
   have c3:=zB x0 3;have c4:=zB x0 4;simp only[bm,df,co]at c3 c4;have m2:w.heap.size<wr.heap.size:=by omega
   have m3:wr.heap.size≠w.heap.size:=by omega
   clear HE;have zKM:=zKO;have hsw:w.heap.size+2<=wr.heap.size:=by omega
   have HX0:=zA x0;have HX1:=zA x1;have hmk:=run_make_row' (P:=Tryz.prog) 166 4 (.bool false) 1 Tryz.underlying166 cT rfl .i64 .i64 gd.length (by omega) (by omega);rw[cO]at hmk;clear x0 x1;go_wp2_with fail
   have HM0:Hid (jW (wr.alloc (.cells (gC (List.replicate gd.length false)) 4)) wr.heap.size ([]++List.replicate (gd.length-0) false)):=zG _ _;clear c3 c4 m2 m3 hmk;generalize hwq:wr=wq at *;clear hwq
   go_loopw [37] (fun iv wr=>∃(i:Nat) (hs:List Bool),i<=gd.length/\Hid (hs.length=i)/\iv=.int .i64 i/\Hid (jW wr wq.heap.size (hs++List.replicate (gd.length-i) false))/\Hid (Below wq.heap.size wq wr)/\wq.heap.size<wr.heap.size/\Hid (cU s (gd.drop i) hs=cU s gd [])) (fun iv _=>gd.length-(intOf iv).toNat)
   case atStart=>exact⟨0,[],ty _,zA rfl,rfl,HM0,zA (fj (j1 _) _),by simp,zA rfl⟩
   case round =>
    obtain⟨i,hs,hi,HHl,rfl,HM,HBz,hszz,HEz⟩:=hrel;have HBy:Hid (Below w.heap.size w wr):=zKM.out.trans (HBz.out.mono (by omega));have x0:wr.heap[w.heap.size]? = _:=(HBz.out.block _ (by omega)).trans HX0.out;have x1:wr.heap[w.heap.size+1]? = _:=(HBz.out.block _ (by omega)).trans HX1.out;have zKA:(hs++List.replicate (gd.length-i) false).length=gd.length:=by have:=HHl.out;simp;omega
    have HLen:=zA zKA;have HBo:Hid (dB wr (some ⟨wq.heap.size,0,none⟩) (hs++List.replicate (gd.length-i) false)):=HM.out.bools (by rw[zKA];exact hfg);clear zKA;by_cases zKJ:i<gd.length
    ·have hpr:=HG.out.below HBy.out
     obtain⟨gp,rfl,q0⟩:=hpr.at ((zN qL 10 (fun _=>rfl) oN gd i 0 zKJ (by decide)).trans rfl);have q1:=(hpr.at ((zN qL 10 (fun _=>rfl) oN gd i 1 zKJ (by decide)).trans rfl)).elim fun g' h=>(show gp=g' by simpa using h.1) ▸ h.2;have q2:=(hpr.at ((zN qL 10 (fun _=>rfl) oN gd i 2 zKJ (by decide)).trans rfl)).elim fun g' h=>(show gp=g' by simpa using h.1) ▸ h.2;have q3:=(hpr.at ((zN qL 10 (fun _=>rfl) oN gd i 3 zKJ (by decide)).trans rfl)).elim fun g' h=>(show gp=g' by simpa using h.1) ▸ h.2;have q4:=(hpr.at ((zN qL 10 (fun _=>rfl) oN gd i 4 zKJ (by decide)).trans rfl)).elim fun g' h=>(show gp=g' by simpa using h.1) ▸ h.2;have q5:=(hpr.at ((zN qL 10 (fun _=>rfl) oN gd i 5 zKJ (by decide)).trans rfl)).elim fun g' h=>(show gp=g' by simpa using h.1) ▸ h.2;have q6:=(hpr.at ((zN qL 10 (fun _=>rfl) oN gd i 6 zKJ (by decide)).trans rfl)).elim fun g' h=>(show gp=g' by simpa using h.1) ▸ h.2;have q7:=(hpr.at ((zN qL 10 (fun _=>rfl) oN gd i 7 zKJ (by decide)).trans rfl)).elim fun g' h=>(show gp=g' by simpa using h.1) ▸ h.2;have q8:=(hpr.at ((zN qL 10 (fun _=>rfl) oN gd i 8 zKJ (by decide)).trans rfl)).elim fun g' h=>(show gp=g' by simpa using h.1) ▸ h.2;have q9:=(hpr.at ((zN qL 10 (fun _=>rfl) oN gd i 9 zKJ (by decide)).trans rfl)).elim fun g' h=>(show gp=g' by simpa using h.1) ▸ h.2;rw[l6]at q0;have d0:=zB x1 0;have d1:=zB x1 1;have d2:=zB x1 2;simp only[bm,df,co]at d0 d1 d2;have hE:=HEz.out;rw[FT s gd i hs zKJ]at hE;have HE4:=zA hE;have lgp:=yF q0;have mgp:wr.heap.size≠gp:=by omega
     have m1:wr.heap.size≠w.heap.size+1:=by omega
     have m2:w.heap.size+1<wr.heap.size:=by omega
     have HHo:Hid (∀o,Calls Tryz.prog 169 #[gP (gd.getD i oN),CG ia ha va ic hc vc s,.slice (some ⟨wq.heap.size,0,none⟩) gd.length gd.length] (wr.alloc o) fun e w'=>e=.returned (.bool (Kt (gd.getD i oN) s hs))/\Below (wr.alloc o).heap.size (wr.alloc o) w'):=fun o=>by
      have h9:=ui (wr.alloc o) ia ha va (some ⟨wq.heap.size,0,none⟩) ic hc vc gd.length s (hs++List.replicate (gd.length-i) false) (gd.getD i oN) (HS.out.below (HBy.out.alloc (by omega) o)) (HBo.out.below (fj (j1 _) o));rw[zCZ,HLen.out]at h9;exact h9
     have zKN:Hid (∀z,(hs++List.replicate (gd.length-i) false).set i z=(hs++[z])++List.replicate (gd.length-(i+1)) false):=fun z=>zCQ hs i gd.length z HHl.out zKJ
     have HCl:Hid (∀w5,Below wr.heap.size wr w5->∃v,w5.cell? ⟨wq.heap.size,i,none⟩=some (.bool v)):=fun w5 hb5=>by
      exact⟨_,(hb5.cell (p:=⟨wq.heap.size,i,none⟩) hszz).trans (HM.out.cell (by rw[HLen.out];exact zKJ))⟩
     clear hE hpr x0 x1 HEz;generalize gd.getD i oN=nd at *;generalize Kt nd s hs=z at *;obtain⟨n0,n1,n2,n3,n4,n5,n6,n7,n8,n9⟩:=nd;simp only[gP,CG]at HHo;simp only at q0 q1 q2 q3 q4 q5 q6 q7 q8 q9;go_wp2_with fail
     refine(HHo.out _).mono ?_;rintro e w5 ⟨rfl,hb5⟩;have HB5:Hid (Below wr.heap.size wr w5):=(fj (j1 _) _).trans (hb5.mono (by simp));have HM5:=zA (HM.out.below HB5.out);have hs5:=HB5.out.size;obtain⟨oldz,hcz⟩:=HCl.out w5 HB5.out;have hfz:=HM5.out.free i;have HM6:Hid (jW (w5.setCell ⟨wq.heap.size,i,none⟩ (.bool z)) wq.heap.size ((hs++[z])++List.replicate (gd.length-(i+1)) false)):=by unfold Hid;rw[<-zKN.out z];exact HM5.out.set i z
     have HB6:Hid (Below wq.heap.size wq (w5.setCell ⟨wq.heap.size,i,none⟩ (.bool z))):=(HBz.out.trans (HB5.out.mono (ph hszz))).setCell (p:=⟨wq.heap.size,i,none⟩) (j1 _) _;have hs6:wq.heap.size<(w5.setCell ⟨wq.heap.size,i,none⟩ (.bool z)).heap.size:=by have:=HM6.out.lt;exact this
     clear hb5 HHo HCl;go_wp2_with fail
     go_roundw
     case rel=>exact⟨i+1,hs++[z],by omega,zA (by have:=HHl.out;simp;omega),by go_num,HM6,HB6,hs6,HE4⟩
     case measure=>simp[intOf];omega
    ·have HE5:Hid (kP hs root=ans):=by have:=HEz.out;rw[pf (by omega)]at this;have h9:=HE3.out;rw[<-this]at h9;exact h9
     have d4:=zB x0 4;simp only[bm,df,co]at d4
     have HI:Hid (Calls Tryz.prog 168 #[.slice (some ⟨wq.heap.size,0,none⟩) gd.length gd.length,.int .i64 root] wr fun e w'=>e=.returned (.bool ans)/\w'=wr):=by
      have h9:=oS wr (some ⟨wq.heap.size,0,none⟩) gd.length (hs++List.replicate (gd.length-i) false) root HBo.out;rw[JE,HE5.out,HLen.out]at h9;exact h9
     clear x0 x1;go_wp2_with fail
     refine HI.out.mono ?_;rintro e w' ⟨rfl,hw⟩;obtain rfl:=hw.symm;go_wp2_with fail
     go_ret
     exact⟨rfl,HBy.out⟩
def nL(s:xA)(p:lX):Int:=if p.kind=1 then p.num else if p.kind=2 then p.num*kF s.inputs p.place else if p.kind=3 then p.num*kF s.values p.place else 0
def dI(s:xA):List lX->Int->Int
 | [],n=>n
 | p::r,n=>dI s r (n+nL s p)
def YA(s:xA)(l:List lX):Int:=dI s l 0
theorem U5(s:xA)(l:List lX)(i:Nat)(n:Int)(h:i<l.length):dI s (l.drop i) n=dI s (l.drop (i+1)) (n+nL s (l.getD i Bq)):=by
 rw[pm h,dI];simp[List.getD,h]
def Y8(s:xA)(l:List lX):Prop:=l.length<=4/\∀p∈l,-fA<=nL s p/\nL s p<=fA
theorem zH8(w:World)(ia ha va:Option Addr)(ic hc vc:Nat)(s:xA)(x:MX)(hx:uL w x)(h:nH w ia ha va s)(zKG:Y8 s x.1.sum) :
 Calls Tryz.prog 134 #[uE x,CG ia ha va ic hc vc s] w fun e w'=>e=.returned (.int .i64 (YA s x.1.sum))/\Below w.heap.size w w':=by
 obtain⟨pa,pc,e1,hp⟩:=hx.sum;obtain⟨ga,gc,e2,-⟩:=hx.guard;have HP:=zA hp.cel;have HS:=zA h;have h4:=zKG.1;have HOk:=zA zKG.2;obtain⟨⟨lab,cc,ps,gd,root⟩,pv,gv⟩:=x;simp only at e1 e2 HP HOk h4;subst e1 e2;simp only[uE,CG];clear hx hp h zKG
 go_enter Tryz.func134,Tryz.ntmps134
 go_wp2_with fail
 generalize hO1:Obj.cells #[.string ⟨lab.toArray⟩,.int .i64 cc,.slice pa ps.length pc,.slice ga gd.length gc,.int .i64 root] 162=O1 at *;generalize hO2:Obj.cells #[.slice ia s.inputs.length ic,.slice ha s.has.length hc,.slice va s.values.length vc] 168=O2 at *
 have y1:((w.alloc O1).alloc O2).heap[w.heap.size+1]? = some O2:=by
  have h9:=zG (w.alloc O1) O2;rw[show (w.alloc O1).heap.size=w.heap.size+1 by simp]at h9;exact h9
 have hb0:Below w.heap.size w ((w.alloc O1).alloc O2):=(fj (j1 _) _).alloc (by simp) _;have hs0:((w.alloc O1).alloc O2).heap.size=w.heap.size+2:=by simp
 have HO2:=zA hO2;clear hO1 hO2;generalize (w.alloc O1).alloc O2=w0 at *;have HY1:=zA y1;have HB0:=zA hb0;clear y1 hb0
 go_loopw [5,11] (fun nv iv wr=>∃(i:Nat) (n:Int),i<=ps.length/\nv=.int .i64 n/\iv=.int .i64 i /\ -((i:Int)*fA)<=n/\n<=(i:Int)*fA/\Hid (Below w0.heap.size w0 wr)/\Hid (dI s (ps.drop i) n=YA s ps)) (fun _ iv _=>ps.length-(intOf iv).toNat)
 case atStart=>exact⟨0,0,ty _,rfl,rfl,by simp,by simp,zA (tg _ _),zA rfl⟩
 case round =>
  obtain⟨i,n,hii,rfl,rfl,hn1,hn2,HB,HE⟩:=hrel;have zKH:=HB.out.size;have zKO:Hid (Below w.heap.size w wr):=HB0.out.trans (HB.out.mono (by omega));have x1:wr.heap[w.heap.size+1]? = some O2:=by rw[HB.out.block _ (by omega)];exact HY1.out
  rw[<-HO2.out]at x1;by_cases zK4:i<ps.length
  ·have hpr:=HP.out.below zKO.out
   obtain⟨gp,rfl,q0⟩:=hpr.at ((zN tY 3 (fun _=>rfl) Bq ps i 0 zK4 (by decide)).trans rfl);have q1:=(hpr.at ((zN tY 3 (fun _=>rfl) Bq ps i 1 zK4 (by decide)).trans rfl)).elim fun g' h=>(show gp=g' by simpa using h.1) ▸ h.2;have q2:=(hpr.at ((zN tY 3 (fun _=>rfl) Bq ps i 2 zK4 (by decide)).trans rfl)).elim fun g' h=>(show gp=g' by simpa using h.1) ▸ h.2;rw[l6]at q0;have c0:=zB x1 0;have c2:=zB x1 2;simp only[bm,df,co]at c0 c2;have hE:=HE.out;rw[U5 s ps i n zK4]at hE;obtain⟨p1,p2⟩:=HOk.out _ (VB Bq zK4);have HE2:=zA hE;have lgp:=yF q0;have mgp:wr.heap.size≠gp:=by omega
   have m1:wr.heap.size≠w.heap.size+1:=by omega
   have m2:w.heap.size+1<wr.heap.size:=by omega
   have hm1:(i:Int)*fA+fA=((i+1:Nat):Int)*fA:=by rw[Int.natCast_add,Int.add_mul];simp
   have hm2:(i:Int)*fA<=3*fA:=by have:i=0\/i=1\/i=2\/i=3:=by omega
                                 rcases this with rfl|rfl|rfl|rfl <;> decide
   have HNi:=zA (fun w' (hb:Below w.heap.size w w') a=>J7 w' ia ic s.inputs a (HS.out.inputs.below hb));have HNv:=zA (fun w' (hb:Below w.heap.size w w') a=>J7 w' va vc s.values a (HS.out.values.below hb));clear HE hE hpr x1;generalize ps.getD i Bq=p at *;obtain⟨pk,pn,pl⟩:=p;unfold nL at p1 p2 HE2;simp only at q0 q1 q2 p1 p2 HE2;have HN1:=zA (fun w' hb=>HNi.out w' hb pl);have HN2:=zA (fun w' hb=>HNv.out w' hb pl);clear HNi HNv;generalize kF s.inputs pl=vi at *;generalize kF s.values pl=vv at *;by_cases k1:pk=1
   ·subst k1
    simp only[f9]at p1 p2 HE2;generalize ((i:Int)*fA)=iM at *;unfold fA at *;go_wp2_with fail
    go_roundw
    case rel=>exact⟨i+1,n+pn,by omega,by first|rfl|go_num,by go_num,by omega,by omega,zA (HB.out.alloc zKH _),HE2⟩
    case measure=>simp[intOf];omega
   rw[tb k1]at p1 p2 HE2;by_cases k2:pk=2
   ·subst k2
    simp only[f9]at p1 p2 HE2;obtain⟨q,hq⟩:∃q,q=pn*vi:=⟨_,rfl⟩;rw[<-hq]at p1 p2 HE2;have hwq:wrap64 (pn*vi)=q:=by rw[<-hq];unfold wrap64;unfold fA at p1 p2;omega
    clear hq k1;generalize ((i:Int)*fA)=iM at *;unfold fA at *;go_wp2_with fail
    go_quiet (first|(go_at_call 170;refine Calls.quiet_of_same (HN1.out _ (xI (zKO.out.alloc (by omega) _) _))))
    go_wp2_with fail
    go_roundw
    case rel=>exact⟨i+1,n+q,by omega,by first|rfl|go_num,by go_num,by omega,by omega,zA (xI (HB.out.alloc zKH _) _),HE2⟩
    case measure=>simp[intOf];omega
   rw[tb k2]at p1 p2 HE2;by_cases k3:pk=3
   ·subst k3
    simp only[f9]at p1 p2 HE2;obtain⟨q,hq⟩:∃q,q=pn*vv:=⟨_,rfl⟩;rw[<-hq]at p1 p2 HE2;have hwq:wrap64 (pn*vv)=q:=by rw[<-hq];unfold wrap64;unfold fA at p1 p2;omega
    clear hq k1 k2;generalize ((i:Int)*fA)=iM at *;unfold fA at *;go_wp2_with fail
    go_quiet (first|(go_at_call 170;refine Calls.quiet_of_same (HN2.out _ (xI (zKO.out.alloc (by omega) _) _))))
    go_wp2_with fail
    go_roundw
    case rel=>exact⟨i+1,n+q,by omega,by first|rfl|go_num,by go_num,by omega,by omega,zA (xI (HB.out.alloc zKH _) _),HE2⟩
    case measure=>simp[intOf];omega
   ·rw[tb k3,Int.add_zero]at HE2
    have b1:(pk==1)=false:=by simpa using k1
    have b2:(pk==2)=false:=by simpa using k2
    have b3:(pk==3)=false:=by simpa using k3
    clear k1 k2 k3;generalize ((i:Int)*fA)=iM at *;unfold fA at *;go_wp2_with fail
    go_roundw
    case rel=>exact⟨i+1,n,by omega,rfl,by go_num,by omega,by omega,zA (HB.out.alloc zKH _),HE2⟩
    case measure=>simp[intOf];omega
  ·have HE3:Hid (n=YA s ps):=by have:=HE.out;rw[pf (by omega)]at this;exact this
   clear HE;go_wp2_with fail
   go_ret
   exact⟨yQ HE3.out,zKO.out⟩
def iC(l:List Int):Array Value:=(tT l).toArray
theorem kf{k:Nat}(hk:k<l.length):(iC l)[k]? = some (.int .i64 (l.getD k 0)):=by
 unfold iC;rw[bm];exact Zc l k hk
def cZ(w:World)(g:Nat)(l:List Int):Prop:=w.heap[g]? = some (.cells (iC l) 3 (0,0))
theorem cZ.cell(h:cZ w g l){k:Nat}(hk:k<l.length):w.cell? ⟨g,k,none⟩=some (.int .i64 (l.getD k 0)):=(zB h k).trans (kf hk)
theorem cZ.free(h:cZ w g l)(k:Nat):w.frozen? ⟨g,k,none⟩=false:=by simp[World.frozen?,show w.heap[g]? = _ from h]
theorem cZ.lt(h:cZ w g l):g<w.heap.size:=zL h
theorem cZ.set(h:cZ w g l)(k:Nat)(b:Int):cZ (w.setCell ⟨g,k,none⟩ (.int .i64 b)) g (l.set k b):=by
 unfold cZ at h ⊢;rw[setCell_eq_setRow w g k _ _ _ _ h,bi w g (iC l) _ _ _ h];congr 2
 unfold iC tT;simp[List.map_set]
theorem cZ.below(h:cZ w g l)(hb:Below w.heap.size w w'):cZ w' g l:=by
 have hl:=h.lt;unfold cZ at h ⊢;rw[hb.block g hl];exact h
theorem cZ.other(h:cZ w g l){p:Addr}(hp:g≠p.block)(u:Value):cZ (w.setCell p u) g l:=by
 unfold cZ at h ⊢;rw[lk _ _ _ _ hp];exact h
theorem cZ.ints(h:cZ w g l)(hf:l.length<=10000):jV w (some ⟨g,0,none⟩) l:=by
 refine⟨?_,hf⟩;rcases Nat.eq_zero_or_pos l.length with h0|h0
 ·exact .inl (by rw[lj h0];rfl)
 ·exact .inr ⟨g,rfl,fun j hj=>by rw[FM]at hj;rw[h.cell hj,Zc l j hj]⟩
theorem sB(n:Nat):madeCells #[Value.int .i64 0] n=iC (List.replicate n 0):=by
 apply Array.ext
 ·simp[madeCells,iC,tT]
 ·intro i h1 h2
  simp[madeCells,iC,tT,Nat.mod_one]
theorem fO:(Tryz.prog.info? 3).map (fun i=>(i.zero,i.size,i.bytes))=some (some (.int .i64 0),1,8):=by kernel_rfl
theorem FN(a b:List Int):tT (a++b)=tT a++tT b:=by simp[tT]
end Go.Proofs.YtnbpdffdnphbeabGreatDoor
