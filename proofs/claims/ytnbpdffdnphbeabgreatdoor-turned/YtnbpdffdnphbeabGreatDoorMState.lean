import Derived.Test.YtnbpdffdnphbeabGreatDoorDBase
set_option maxHeartbeats 4000000
set_option maxRecDepth 100000
namespace Go.Proofs.YtnbpdffdnphbeabGreatDoor
open Go.RowKit
variable{l:List Int}{g:Nat}{w' w:World}
structure dJ(w:World)(a:Option Addr)(l:List Bool):Prop where
 cel:jR w a (Zl l)
 few:l.length<=10000
theorem dJ.below{a:Option Addr}{l:List Bool}(h:dJ w a l)(hb:Below w.heap.size w w'):dJ w' a l:=⟨h.cel.below hb,h.few⟩
theorem J9(l:List Bool)(i:Nat)(h:i<l.length):(Zl l)[i]? = some (.bool (l.getD i false)):=by simp[Zl,List.getD,h]
theorem dJ.at{a:Option Addr}{l:List Bool}(h:dJ w a l){i:Nat}(hi:i<l.length):∃g,a=some ⟨g,0,none⟩/\w.cell? ⟨g,i,none⟩=some (.bool (l.getD i false)):=h.cel.at (J9 l i hi)
def qK(l:List Int)(a:Int):Int:=if 0<=a/\a<l.length then l.getD a.toNat 0 else 0
theorem rO(w:World)(la:Option Addr)(lc:Nat)(l:List Bool)(a:Int)(h:dJ w la l) :
 Calls Tryz.prog 168 #[.slice la l.length lc,.int .i64 a] w fun e w'=>e=.returned (.bool (kY l a))/\w'=w:=by
 have hf:=h.few;by_cases h0:0<=a
 ·obtain⟨n,rfl⟩:∃n:Nat,a=(n:Int):=⟨a.toNat,by omega⟩
  by_cases h1:n<l.length
  ·obtain⟨g,rfl,c⟩:=h.at h1
   have HR:Hid (kY l (n:Int)=l.getD n false):=by unfold Hid kY;rw[tr h0,tr (by omega:(n:Int)<l.length)];rfl
   generalize l.getD n false=x at *;have i1:(n:Int)<(l.length:Int):=by omega
   clear h
   go_enter Tryz.func168,Tryz.ntmps168
   go_wp2_with fail
   go_ret
   exact⟨zF HR.out.symm,rfl⟩
  ·have HR:Hid (kY l (n:Int)=false):=by unfold Hid kY;rw[tr h0,tu (by omega:¬(n:Int)<l.length)];rfl
   have i1:¬(n:Int)<(l.length:Int):=by omega
   clear h
   go_enter Tryz.func168,Tryz.ntmps168
   go_wp2_with fail
   go_ret
   exact⟨zF HR.out.symm,rfl⟩
 ·have HR:Hid (kY l a=false):=by unfold Hid kY;rw[tu h0];rfl
  clear h
  go_enter Tryz.func168,Tryz.ntmps168
  go_wp2_with fail
  go_ret
  exact⟨zF HR.out.symm,rfl⟩
theorem Kf(w:World)(la:Option Addr)(lc:Nat)(l:List Int)(a:Int)(h:tD w la l) :
 Calls Tryz.prog 170 #[.slice la l.length lc,.int .i64 a] w fun e w'=>e=.returned (.int .i64 (qK l a))/\w'=w:=by
 have hf:=h.few;by_cases h0:0<=a
 ·obtain⟨n,rfl⟩:∃n:Nat,a=(n:Int):=⟨a.toNat,by omega⟩
  by_cases h1:n<l.length
  ·obtain⟨g,rfl,c⟩:=h.at h1
   have HR:Hid (qK l (n:Int)=l.getD n 0):=by unfold Hid qK;rw[tl ⟨h0,by omega⟩];rfl
   generalize l.getD n 0=x at *;have i1:(n:Int)<(l.length:Int):=by omega
   clear h
   go_enter Tryz.func170,Tryz.ntmps170
   go_wp2_with fail
   go_ret
   exact⟨yP HR.out.symm,rfl⟩
  ·have HR:Hid (qK l (n:Int)=0):=by unfold Hid qK;rw[tb (by omega)]
   have i1:¬(n:Int)<(l.length:Int):=by omega
   clear h
   go_enter Tryz.func170,Tryz.ntmps170
   go_wp2_with fail
   go_ret
   exact⟨yP HR.out.symm,rfl⟩
 ·have HR:Hid (qK l a=0):=by unfold Hid qK;rw[tb (by omega)]
  clear h
  go_enter Tryz.func170,Tryz.ntmps170
  go_wp2_with fail
  go_ret
  exact⟨yP HR.out.symm,rfl⟩
structure yZ where
 inputs:List Int
 has:List Bool
 values:List Int
structure oC(w:World)(ia ha va:Option Addr)(s:yZ):Prop where
 inputs:tD w ia s.inputs
 has:dJ w ha s.has
 values:tD w va s.values
theorem oC.below{ia ha va:Option Addr}{s:yZ}(h:oC w ia ha va s)(hb:Below w.heap.size w w'):oC w' ia ha va s:=⟨h.inputs.below hb,h.has.below hb,h.values.below hb⟩
def Dr(ia ha va:Option Addr)(ic hc vc:Nat)(s:yZ):Value:=.agg #[.slice ia s.inputs.length ic,.slice ha s.has.length hc,.slice va s.values.length vc]
def QJ(x:kE)(s:yZ):Bool :=
 if qK s.inputs x.place<(if x.two then qK s.inputs x.other else x.num) then x.less else if (if x.two then qK s.inputs x.other else x.num)<qK s.inputs x.place then x.more else x.equal
def KP(x:kE)(s:yZ)(hs:List Bool):Bool :=
 if x.kind=1 then kY hs x.left || kY hs x.right else if x.kind=2 then kY hs x.left&&kY hs x.right else if x.kind=3 then !kY hs x.left
 else if x.kind=4 then true else if x.kind=5 then kY s.has x.place else if x.kind=6 then decide (qK s.inputs x.place=1) else if x.kind=7 then QJ x s else false
theorem CF(w:World)(ia ha va:Option Addr)(ic hc vc:Nat)(s:yZ)(x:kE)(h:oC w ia ha va s) :
 Calls Tryz.prog 187 #[nL x,Dr ia ha va ic hc vc s] w fun e w'=>e=.returned (.bool (QJ x s))/\Below w.heap.size w w':=by
 have HN:=zA (fun w' (hb:Below w.heap.size w w') a=>Kf w' ia ic s.inputs a (h.inputs.below hb));have HC:Hid (QJ x s=if qK s.inputs x.place<(if x.two then qK s.inputs x.other else x.num) then x.less else if (if x.two then qK s.inputs x.other else x.num)<qK s.inputs x.place then x.more else x.equal):=rfl;obtain⟨kd,lf',rg',pl,two,ot,nu,le,eq,mo⟩:=x;simp only[nL,Dr]at *;have HN1:=zA (fun w' hb=>HN.out w' hb pl);have HN2:=zA (fun w' hb=>HN.out w' hb ot);clear HN h;generalize qK s.inputs pl=p1 at *;generalize qK s.inputs ot=p2 at *;generalize QJ ⟨kd,lf',rg',pl,two,ot,nu,le,eq,mo⟩ s=ans at *;have hb0:∀o1 o2,Below w.heap.size w ((w.alloc o1).alloc o2):=fun o1 o2=>(fw (j1 _) _).alloc (by simp) _;have HB0:=zA hb0;clear hb0;cases two
 ·simp only[Bool.false_eq_true,if_false]at HC
  by_cases k1:p1<nu
  ·rw[tl k1]at HC
   go_enter Tryz.func187,Tryz.ntmps187
   go_wp2_with fail
   refine(HN1.out _ (HB0.out _ _)).mono ?_;rintro e w' ⟨rfl,hw⟩;obtain rfl:=hw.symm;go_wp2_with fail
   go_ret
   exact⟨zF HC.out.symm,HB0.out _ _⟩
  ·rw[tb k1]at HC
   by_cases k2:nu<p1
   ·rw[tl k2]at HC
    go_enter Tryz.func187,Tryz.ntmps187
    go_wp2_with fail
    refine(HN1.out _ (HB0.out _ _)).mono ?_;rintro e w' ⟨rfl,hw⟩;obtain rfl:=hw.symm;go_wp2_with fail
    go_ret
    exact⟨zF HC.out.symm,HB0.out _ _⟩
   ·rw[tb k2]at HC
    go_enter Tryz.func187,Tryz.ntmps187
    go_wp2_with fail
    refine(HN1.out _ (HB0.out _ _)).mono ?_;rintro e w' ⟨rfl,hw⟩;obtain rfl:=hw.symm;go_wp2_with fail
    go_ret
    exact⟨zF HC.out.symm,HB0.out _ _⟩
 ·simp only[dw]at HC
  by_cases k1:p1<p2
  ·rw[tl k1]at HC
   go_enter Tryz.func187,Tryz.ntmps187
   go_wp2_with fail
   refine(HN1.out _ (HB0.out _ _)).mono ?_;rintro e w' ⟨rfl,hw⟩;obtain rfl:=hw.symm;go_wp2_with fail
   refine(HN2.out _ (HB0.out _ _)).mono ?_;rintro e w' ⟨rfl,hw⟩;obtain rfl:=hw.symm;go_wp2_with fail
   go_ret
   exact⟨zF HC.out.symm,HB0.out _ _⟩
  ·rw[tb k1]at HC
   by_cases k2:p2<p1
   ·rw[tl k2]at HC
    go_enter Tryz.func187,Tryz.ntmps187
    go_wp2_with fail
    refine(HN1.out _ (HB0.out _ _)).mono ?_;rintro e w' ⟨rfl,hw⟩;obtain rfl:=hw.symm;go_wp2_with fail
    refine(HN2.out _ (HB0.out _ _)).mono ?_;rintro e w' ⟨rfl,hw⟩;obtain rfl:=hw.symm;go_wp2_with fail
    go_ret
    exact⟨zF HC.out.symm,HB0.out _ _⟩
   ·rw[tb k2]at HC
    go_enter Tryz.func187,Tryz.ntmps187
    go_wp2_with fail
    refine(HN1.out _ (HB0.out _ _)).mono ?_;rintro e w' ⟨rfl,hw⟩;obtain rfl:=hw.symm;go_wp2_with fail
    refine(HN2.out _ (HB0.out _ _)).mono ?_;rintro e w' ⟨rfl,hw⟩;obtain rfl:=hw.symm;go_wp2_with fail
    go_ret
    exact⟨zF HC.out.symm,HB0.out _ _⟩
theorem jp(w:World)(ia ha va ea:Option Addr)(ic hc vc ec:Nat)(s:yZ)(hs:List Bool)(x:kE)(h:oC w ia ha va s)(he:dJ w ea hs) :
 Calls Tryz.prog 169 #[nL x,Dr ia ha va ic hc vc s,.slice ea hs.length ec] w fun e w'=>e=.returned (.bool (KP x s hs))/\Below w.heap.size w w':=by
 have HL:=zA (fun w' (hb:Below w.heap.size w w')=>rO w' ea ec hs x.left (he.below hb));have HR:=zA (fun w' (hb:Below w.heap.size w w')=>rO w' ea ec hs x.right (he.below hb));have HH:=zA (fun w' (hb:Below w.heap.size w w')=>rO w' ha hc s.has x.place (h.has.below hb));have HN:=zA (fun w' (hb:Below w.heap.size w w')=>Kf w' ia ic s.inputs x.place (h.inputs.below hb));have HC:=zA (fun w' (hb:Below w.heap.size w w')=>CF w' ia ha va ic hc vc s x (h.below hb))
 have HA:Hid (KP x s hs=if x.kind=1 then kY hs x.left || kY hs x.right else if x.kind=2 then kY hs x.left&&kY hs x.right else if x.kind=3 then !kY hs x.left
  else if x.kind=4 then true else if x.kind=5 then kY s.has x.place else if x.kind=6 then decide (qK s.inputs x.place=1) else if x.kind=7 then QJ x s else false):=rfl
 have HB0:=zA (show ∀o1 o2,Below w.heap.size w ((w.alloc o1).alloc o2) from fun o1 o2=>(fw (j1 _) _).alloc (by simp) _);generalize KP x s hs=ans at *;generalize QJ x s=cm at *;obtain⟨kd,lf',rg',pl,two,ot,nu,le,eq,mo⟩:=x;simp only[nL,Dr]at *;clear h he;generalize kY hs lf'=pL at *;generalize kY hs rg'=pR at *;generalize kY s.has pl=pH at *;generalize qK s.inputs pl=pN at *;by_cases k1:kd=1
 ·subst k1
  rw[tl rfl]at HA;cases pL
  ·simp only[lu]at HA
   go_enter Tryz.func169,Tryz.ntmps169
   go_wp2_with fail
   refine(HL.out _ (HB0.out _ _)).mono ?_;rintro e w' ⟨rfl,hw⟩;obtain rfl:=hw.symm;go_wp2_with fail
   refine(HR.out _ (HB0.out _ _)).mono ?_;rintro e w' ⟨rfl,hw⟩;obtain rfl:=hw.symm;go_wp2_with fail
   go_ret
   exact⟨zF HA.out.symm,HB0.out _ _⟩
  ·simp only[fq]at HA
   go_enter Tryz.func169,Tryz.ntmps169
   go_wp2_with fail
   refine(HL.out _ (HB0.out _ _)).mono ?_;rintro e w' ⟨rfl,hw⟩;obtain rfl:=hw.symm;go_wp2_with fail
   go_ret
   exact⟨zF HA.out.symm,HB0.out _ _⟩
 by_cases k2:kd=2
 ·subst k2
  rw[tb (by decide),tl rfl]at HA;cases pL
  ·simp only[bw]at HA
   go_enter Tryz.func169,Tryz.ntmps169
   go_wp2_with fail
   refine(HL.out _ (HB0.out _ _)).mono ?_;rintro e w' ⟨rfl,hw⟩;obtain rfl:=hw.symm;go_wp2_with fail
   go_ret
   exact⟨zF HA.out.symm,HB0.out _ _⟩
  ·simp only[my]at HA
   go_enter Tryz.func169,Tryz.ntmps169
   go_wp2_with fail
   refine(HL.out _ (HB0.out _ _)).mono ?_;rintro e w' ⟨rfl,hw⟩;obtain rfl:=hw.symm;go_wp2_with fail
   refine(HR.out _ (HB0.out _ _)).mono ?_;rintro e w' ⟨rfl,hw⟩;obtain rfl:=hw.symm;go_wp2_with fail
   go_ret
   exact⟨zF HA.out.symm,HB0.out _ _⟩
 by_cases k3:kd=3
 ·subst k3
  rw[tb (by decide),tb (by decide),tl rfl]at HA
  go_enter Tryz.func169,Tryz.ntmps169
  go_wp2_with fail
  refine(HL.out _ (HB0.out _ _)).mono ?_;rintro e w' ⟨rfl,hw⟩;obtain rfl:=hw.symm;go_wp2_with fail
  go_ret
  exact⟨zF HA.out.symm,HB0.out _ _⟩
 by_cases k4:kd=4
 ·subst k4
  rw[tb (by decide),tb (by decide),tb (by decide),tl rfl]at HA
  go_enter Tryz.func169,Tryz.ntmps169
  go_wp2_with fail
  go_ret
  exact⟨zF HA.out.symm,HB0.out _ _⟩
 by_cases k5:kd=5
 ·subst k5
  rw[tb (by decide),tb (by decide),tb (by decide),tb (by decide),tl rfl]at HA
  go_enter Tryz.func169,Tryz.ntmps169
  go_wp2_with fail
  refine(HH.out _ (HB0.out _ _)).mono ?_;rintro e w' ⟨rfl,hw⟩;obtain rfl:=hw.symm;go_wp2_with fail
  go_ret
  exact⟨zF HA.out.symm,HB0.out _ _⟩
 by_cases k6:kd=6
 ·subst k6
  rw[tb (by decide),tb (by decide),tb (by decide),tb (by decide),tb (by decide),tl rfl]at HA;have hd:decide (pN=1)=(pN==1):=by rw[ct];simp
  rw[hd]at HA;clear hd
  go_enter Tryz.func169,Tryz.ntmps169
  go_wp2_with fail
  refine(HN.out _ (HB0.out _ _)).mono ?_;rintro e w' ⟨rfl,hw⟩;obtain rfl:=hw.symm;go_wp2_with fail
  go_ret
  exact⟨zF HA.out.symm,HB0.out _ _⟩
 by_cases k7:kd=7
 ·subst k7
  rw[tb (by decide),tb (by decide),tb (by decide),tb (by decide),tb (by decide),tb (by decide),tl rfl]at HA
  go_enter Tryz.func169,Tryz.ntmps169
  go_wp2_with fail
  refine(HC.out _ (HB0.out _ _)).mono ?_;rintro e w2 ⟨rfl,hb2⟩;have HB2:Hid (Below w.heap.size w w2):=(HB0.out _ _).trans (hb2.mono (HB0.out _ _).size);clear hb2;go_wp2_with fail
  go_ret
  exact⟨zF HA.out.symm,HB2.out⟩
 ·rw[tb k1,tb k2,tb k3,tb k4,tb k5,tb k6,tb k7]at HA
  have b1:(kd==1)=false:=by simpa using k1
  have b2:(kd==2)=false:=by simpa using k2
  have b3:(kd==3)=false:=by simpa using k3
  have b4:(kd==4)=false:=by simpa using k4
  have b5:(kd==5)=false:=by simpa using k5
  have b6:(kd==6)=false:=by simpa using k6
  have b7:(kd==7)=false:=by simpa using k7
  clear k1 k2 k3 k4 k5 k6 k7
  go_enter Tryz.func169,Tryz.ntmps169
  go_wp2_with fail
  go_ret
  exact⟨zF HA.out.symm,HB0.out _ _⟩
theorem zCG{α:Type}(p:α->Bool)(d:α)(l:List α)(i:Nat)(h:i<l.length):(l.drop i).all p=(p (l.getD i d)&&(l.drop (i+1)).all p):=by
 rw[pq h,ff];simp[List.getD,h]
theorem Ud{α:Type}{l:List α}{i:Nat}(d:α)(h:i<l.length):l.getD i d∈l:=by simp[List.getD,h]
def fM:Int:=1152921504606846976
def dB(s:yZ):List kE->List Bool->List Bool
 | [],hs=>hs
 | x::r,hs=>dB s r (hs++[KP x s hs])
def jH(s:yZ)(l:List lX):Bool:=l.all fun p => !(decide (p.kind=3) && !kY s.has p.place)
def kB(r:xK)(s:yZ):Bool:=jH s r.sum&&kY (dB s r.guard []) r.root
theorem GY(s:yZ)(l:List kE)(i:Nat)(hs:List Bool)(h:i<l.length):dB s (l.drop i) hs=dB s (l.drop (i+1)) (hs++[KP (l.getD i rJ) s hs]):=by
 rw[pq h,dB];simp[List.getD,h]
theorem Kl(hs:List Bool)(n:Nat)(a:Int):kY (hs++List.replicate n false) a=kY hs a:=by
 unfold kY;by_cases h0:0<=a
 ·by_cases h1:a<hs.length
  ·rw[tr h1,tr (show a<((hs++List.replicate n false).length:Int) by simp;omega)]
   simp[List.getD,mu (show a.toNat<hs.length by omega)]
  ·rw[tu h1]
   have:(hs++List.replicate n false).getD a.toNat false=false:=by
    rw[List.getD,li (by omega),co];split <;> rfl
   rw[this];simp
 ·rw[tu h0];rfl
theorem zEO(x:kE)(s:yZ)(hs:List Bool)(n:Nat):KP x s (hs++List.replicate n false)=KP x s hs:=by
 unfold KP;rw[Kl,Kl]
theorem tE.bools{l:List Bool}(h:tE w g l)(hf:l.length<=10000):dJ w (some ⟨g,0,none⟩) l :=
 ⟨.inr ⟨g,rfl,fun j hj=>by rw[yx]at hj;rw[h.cell hj,J9 l j hj]⟩,hf⟩
theorem zEF(hs:List Bool)(i n:Nat)(z:Bool)(h:hs.length=i)(hn:i<n):(hs++List.replicate (n-i) false).set i z=(hs++[z])++List.replicate (n-(i+1)) false:=by
 rw[List.set_append_right _ _ (by omega),show i-hs.length=0 by omega,show n-i=(n-(i+1))+1 by omega,List.replicate_succ,List.set_cons_zero];simp
theorem X2(w:World)(ia ha va:Option Addr)(ic hc vc:Nat)(s:yZ)(x:MX)(hx:uN w x)(h:oC w ia ha va s) :
 Calls Tryz.prog 132 #[uF x,Dr ia ha va ic hc vc s] w fun e w'=>e=.returned (.bool (kB x.1 s))/\Below w.heap.size w w':=by
 obtain⟨pa,pc,e1,hp⟩:=hx.sum;obtain⟨ga,gc,e2,hg⟩:=hx.guard;have hfp:=hx.few1;have hfg:=hx.few2;have HP:=zA hp.cel;have HG:=zA hg.cel;have HS:=zA h;have HA:Hid (kB x.1 s=(jH s x.1.sum&&kY (dB s x.1.guard []) x.1.root)):=rfl;obtain⟨⟨lab,cc,ps,gd,root⟩,pv,gv⟩:=x;simp only at e1 e2 HP HG hfp hfg HA;subst e1 e2;simp only[uF,Dr];clear hx hp hg h;generalize kB ⟨lab,cc,ps,gd,root⟩ s=ans at *
 go_enter Tryz.func132,Tryz.ntmps132
 go_wp2_with fail
 generalize hO1:Obj.cells #[.string ⟨lab.toArray⟩,.int .i64 cc,.slice pa ps.length pc,.slice ga gd.length gc,.int .i64 root] 162=O1 at *;generalize hO2:Obj.cells #[.slice ia s.inputs.length ic,.slice ha s.has.length hc,.slice va s.values.length vc] 168=O2 at *;have y0:((w.alloc O1).alloc O2).heap[w.heap.size]? = some O1:=zT (zG _ _)
 have y1:((w.alloc O1).alloc O2).heap[w.heap.size+1]? = some O2:=by
  have h9:=zG (w.alloc O1) O2;rw[show (w.alloc O1).heap.size=w.heap.size+1 by simp]at h9;exact h9
 have hb0:Below w.heap.size w ((w.alloc O1).alloc O2):=(fw (j1 _) _).alloc (by simp) _;have hs0:((w.alloc O1).alloc O2).heap.size=w.heap.size+2:=by simp
 have HO1:=zA hO1;have HO2:=zA hO2;clear hO1 hO2;generalize (w.alloc O1).alloc O2=w0 at *;have HY0:=zA y0;have HY1:=zA y1;have HB0:=zA hb0;clear y0 y1 hb0
 go_loopw [14] (fun iv wr=>∃(i:Nat),i<=ps.length/\iv=.int .i64 i/\Hid (Below w0.heap.size w0 wr)/\Hid ((jH s (ps.drop i)&&kY (dB s gd []) root)=ans)) (fun iv _=>ps.length-(intOf iv).toNat)
 case atStart=>exact⟨0,tx _,rfl,zA (tg _ _),zA HA.out.symm⟩
 case round =>
  obtain⟨i,hi,rfl,HB,HE⟩:=hrel;have zLV:=HB.out.size;have zM4:Hid (Below w.heap.size w wr):=HB0.out.trans (HB.out.mono (by omega));have x1:wr.heap[w.heap.size+1]? = some O2:=by rw[HB.out.block _ (by omega)];exact HY1.out
  rw[<-HO2.out]at x1;have x0:wr.heap[w.heap.size]? = some O1:=by rw[HB.out.block _ (by omega)];exact HY0.out
  rw[<-HO1.out]at x0;by_cases zLL:i<ps.length
  ·have hpr:=HP.out.below zM4.out
   obtain⟨gp,rfl,q0⟩:=hpr.at ((zQ pC 3 (fun _=>rfl) BW ps i 0 zLL (by decide)).trans rfl);have q1:=(hpr.at ((zQ pC 3 (fun _=>rfl) BW ps i 1 zLL (by decide)).trans rfl)).elim fun g' h=>(show gp=g' by simpa using h.1) ▸ h.2;have q2:=(hpr.at ((zQ pC 3 (fun _=>rfl) BW ps i 2 zLL (by decide)).trans rfl)).elim fun g' h=>(show gp=g' by simpa using h.1) ▸ h.2;rw[ld]at q0;have c1:=zB x1 1;simp only[bp,dq,cx]at c1;have hE:=HE.out;unfold jH at hE;rw[zCG _ BW _ i zLL]at hE;have HE2:=zA hE;have lgp:=yR q0;have mgp:wr.heap.size≠gp:=by omega
   have m1:wr.heap.size≠w.heap.size+1:=by omega
   have m2:w.heap.size+1<wr.heap.size:=by omega
   have HI:=zA (fun w' (hb:Below w.heap.size w w') a=>rO w' ha hc s.has a (HS.out.has.below hb));clear HE hE hpr x0 x1;generalize ps.getD i BW=p at *;obtain⟨pk,pn,pl⟩:=p;simp only at q0 q1 q2 HE2;by_cases k1:pk=3
   ·subst k1
    have HI1:=zA (fun w' hb=>HI.out w' hb pl);clear HI;generalize kY s.has pl=tv at *;cases tv
    ·have HE3:Hid (ans=false):=by have:=HE2.out;simpa[Hid] using this.symm
     go_wp2_with fail
     refine(HI1.out _ (zM4.out.alloc (by omega) _)).mono ?_;rintro e w' ⟨rfl,hw⟩;obtain rfl:=hw.symm;go_wp2_with fail
     go_ret
     exact⟨zF HE3.out.symm,zM4.out.alloc (by omega) _⟩
    ·have HE3:Hid ((jH s (ps.drop (i+1))&&kY (dB s gd []) root)=ans):=by have:=HE2.out;simpa[jH,Hid] using this
     go_wp2_with fail
     refine(HI1.out _ (zM4.out.alloc (by omega) _)).mono ?_;rintro e w' ⟨rfl,hw⟩;obtain rfl:=hw.symm;go_wp2_with fail
     go_roundw
     case rel=>exact⟨i+1,by omega,by go_num,zA (HB.out.alloc zLV _),HE3⟩
     case measure=>simp[intOf];omega
   ·have HE3:Hid ((jH s (ps.drop (i+1))&&kY (dB s gd []) root)=ans):=by have:=HE2.out;simpa[jH,Hid,k1] using this
    have b1:(pk==3)=false:=by simpa using k1
    clear k1;go_wp2_with fail
    go_roundw
    case rel=>exact⟨i+1,by omega,by go_num,zA (HB.out.alloc zLV _),HE3⟩
    case measure=>simp[intOf];omega
  ·have HE3:Hid (kY (dB s gd []) root=ans):=by have:=HE.out;rw[ph (by omega)]at this;simpa[jH,Hid] using this
   have c3:=zB x0 3;have c4:=zB x0 4;simp only[bp,dq,cx]at c3 c4;have m2:w.heap.size<wr.heap.size:=by omega
   have m3:wr.heap.size≠w.heap.size:=by omega
   clear HE;have zM1:=zM4;have hsw:w.heap.size+2<=wr.heap.size:=by omega
   have HX0:=zA x0;have HX1:=zA x1;have hmk:=run_make_row' (P:=Tryz.prog) 166 4 (.bool false) 1 Tryz.underlying166 cZ rfl .i64 .i64 gd.length (by omega) (by omega);rw[cS]at hmk;clear x0 x1;go_wp2_with fail
   have HM0:Hid (tE (wr.alloc (.cells (gC (List.replicate gd.length false)) 4)) wr.heap.size ([]++List.replicate (gd.length-0) false)):=zG _ _;clear c3 c4 m2 m3 hmk;generalize hwq:wr=wq at *;clear hwq
   go_loopw [37] (fun iv wr=>∃(i:Nat) (hs:List Bool),i<=gd.length/\Hid (hs.length=i)/\iv=.int .i64 i/\Hid (tE wr wq.heap.size (hs++List.replicate (gd.length-i) false))/\Hid (Below wq.heap.size wq wr)/\wq.heap.size<wr.heap.size/\Hid (dB s (gd.drop i) hs=dB s gd [])) (fun iv _=>gd.length-(intOf iv).toNat)
   case atStart=>exact⟨0,[],tx _,zA rfl,rfl,HM0,zA (fw (j1 _) _),by simp,zA rfl⟩
   case round =>
    obtain⟨i,hs,hi,HHl,rfl,HM,HBz,hszz,HEz⟩:=hrel;have HBy:Hid (Below w.heap.size w wr):=zM1.out.trans (HBz.out.mono (by omega));have x0:wr.heap[w.heap.size]? = _:=(HBz.out.block _ (by omega)).trans HX0.out;have x1:wr.heap[w.heap.size+1]? = _:=(HBz.out.block _ (by omega)).trans HX1.out;have hlen:(hs++List.replicate (gd.length-i) false).length=gd.length:=by have:=HHl.out;simp;omega
    have HLen:=zA hlen;have HBo:Hid (dJ wr (some ⟨wq.heap.size,0,none⟩) (hs++List.replicate (gd.length-i) false)):=HM.out.bools (by rw[hlen];exact hfg);clear hlen;by_cases zLY:i<gd.length
    ·have hpr:=HG.out.below HBy.out
     obtain⟨gp,rfl,q0⟩:=hpr.at ((zQ qO 10 (fun _=>rfl) rJ gd i 0 zLY (by decide)).trans rfl);have q1:=(hpr.at ((zQ qO 10 (fun _=>rfl) rJ gd i 1 zLY (by decide)).trans rfl)).elim fun g' h=>(show gp=g' by simpa using h.1) ▸ h.2;have q2:=(hpr.at ((zQ qO 10 (fun _=>rfl) rJ gd i 2 zLY (by decide)).trans rfl)).elim fun g' h=>(show gp=g' by simpa using h.1) ▸ h.2;have q3:=(hpr.at ((zQ qO 10 (fun _=>rfl) rJ gd i 3 zLY (by decide)).trans rfl)).elim fun g' h=>(show gp=g' by simpa using h.1) ▸ h.2;have q4:=(hpr.at ((zQ qO 10 (fun _=>rfl) rJ gd i 4 zLY (by decide)).trans rfl)).elim fun g' h=>(show gp=g' by simpa using h.1) ▸ h.2;have q5:=(hpr.at ((zQ qO 10 (fun _=>rfl) rJ gd i 5 zLY (by decide)).trans rfl)).elim fun g' h=>(show gp=g' by simpa using h.1) ▸ h.2;have q6:=(hpr.at ((zQ qO 10 (fun _=>rfl) rJ gd i 6 zLY (by decide)).trans rfl)).elim fun g' h=>(show gp=g' by simpa using h.1) ▸ h.2;have q7:=(hpr.at ((zQ qO 10 (fun _=>rfl) rJ gd i 7 zLY (by decide)).trans rfl)).elim fun g' h=>(show gp=g' by simpa using h.1) ▸ h.2;have q8:=(hpr.at ((zQ qO 10 (fun _=>rfl) rJ gd i 8 zLY (by decide)).trans rfl)).elim fun g' h=>(show gp=g' by simpa using h.1) ▸ h.2;have q9:=(hpr.at ((zQ qO 10 (fun _=>rfl) rJ gd i 9 zLY (by decide)).trans rfl)).elim fun g' h=>(show gp=g' by simpa using h.1) ▸ h.2;rw[ld]at q0;have d0:=zB x1 0;have d1:=zB x1 1;have d2:=zB x1 2;simp only[bp,dq,cx]at d0 d1 d2;have hE:=HEz.out;rw[GY s gd i hs zLY]at hE;have HE4:=zA hE;have lgp:=yR q0;have mgp:wr.heap.size≠gp:=by omega
     have m1:wr.heap.size≠w.heap.size+1:=by omega
     have m2:w.heap.size+1<wr.heap.size:=by omega
     have HHo:Hid (∀o,Calls Tryz.prog 169 #[nL (gd.getD i rJ),Dr ia ha va ic hc vc s,.slice (some ⟨wq.heap.size,0,none⟩) gd.length gd.length] (wr.alloc o) fun e w'=>e=.returned (.bool (KP (gd.getD i rJ) s hs))/\Below (wr.alloc o).heap.size (wr.alloc o) w'):=fun o=>by
      have h9:=jp (wr.alloc o) ia ha va (some ⟨wq.heap.size,0,none⟩) ic hc vc gd.length s (hs++List.replicate (gd.length-i) false) (gd.getD i rJ) (HS.out.below (HBy.out.alloc (by omega) o)) (HBo.out.below (fw (j1 _) o));rw[zEO,HLen.out]at h9;exact h9
     have zM5:Hid (∀z,(hs++List.replicate (gd.length-i) false).set i z=(hs++[z])++List.replicate (gd.length-(i+1)) false):=fun z=>zEF hs i gd.length z HHl.out zLY
     have HCl:Hid (∀w5,Below wr.heap.size wr w5->∃v,w5.cell? ⟨wq.heap.size,i,none⟩=some (.bool v)):=fun w5 hb5=>by
      exact⟨_,(hb5.cell (p:=⟨wq.heap.size,i,none⟩) hszz).trans (HM.out.cell (by rw[HLen.out];exact zLY))⟩
     clear hE hpr x0 x1 HEz;generalize gd.getD i rJ=nd at *;generalize KP nd s hs=z at *;obtain⟨n0,n1,n2,n3,n4,n5,n6,n7,n8,n9⟩:=nd;simp only[nL,Dr]at HHo;simp only at q0 q1 q2 q3 q4 q5 q6 q7 q8 q9;go_wp2_with fail
     refine(HHo.out _).mono ?_;rintro e w5 ⟨rfl,hb5⟩;have HB5:Hid (Below wr.heap.size wr w5):=(fw (j1 _) _).trans (hb5.mono (by simp));have HM5:=zA (HM.out.below HB5.out);have hs5:=HB5.out.size;obtain⟨oldz,hcz⟩:=HCl.out w5 HB5.out;have hfz:=HM5.out.free i;have HM6:Hid (tE (w5.setCell ⟨wq.heap.size,i,none⟩ (.bool z)) wq.heap.size ((hs++[z])++List.replicate (gd.length-(i+1)) false)):=by unfold Hid;rw[<-zM5.out z];exact HM5.out.set i z
     have HB6:Hid (Below wq.heap.size wq (w5.setCell ⟨wq.heap.size,i,none⟩ (.bool z))):=(HBz.out.trans (HB5.out.mono (pf hszz))).setCell (p:=⟨wq.heap.size,i,none⟩) (j1 _) _;have hs6:wq.heap.size<(w5.setCell ⟨wq.heap.size,i,none⟩ (.bool z)).heap.size:=by have:=HM6.out.lt;exact this
     clear hb5 HHo HCl;go_wp2_with fail
     go_roundw
     case rel=>exact⟨i+1,hs++[z],by omega,zA (by have:=HHl.out;simp;omega),by go_num,HM6,HB6,hs6,HE4⟩
     case measure=>simp[intOf];omega
    ·have HE5:Hid (kY hs root=ans):=by have:=HEz.out;rw[ph (by omega)]at this;have h9:=HE3.out;rw[<-this]at h9;exact h9
     have d4:=zB x0 4;simp only[bp,dq,cx]at d4
     have HI:Hid (Calls Tryz.prog 168 #[.slice (some ⟨wq.heap.size,0,none⟩) gd.length gd.length,.int .i64 root] wr fun e w'=>e=.returned (.bool ans)/\w'=wr):=by
      have h9:=rO wr (some ⟨wq.heap.size,0,none⟩) gd.length (hs++List.replicate (gd.length-i) false) root HBo.out;rw[Kl,HE5.out,HLen.out]at h9;exact h9
     clear x0 x1;go_wp2_with fail
     refine HI.out.mono ?_;rintro e w' ⟨rfl,hw⟩;obtain rfl:=hw.symm;go_wp2_with fail
     go_ret
     exact⟨rfl,HBy.out⟩
def lQ(s:yZ)(p:lX):Int:=if p.kind=1 then p.num else if p.kind=2 then p.num*qK s.inputs p.place else if p.kind=3 then p.num*qK s.values p.place else 0
def bJ(s:yZ):List lX->Int->Int
 | [],n=>n
 | p::r,n=>bJ s r (n+lQ s p)
def iU(s:yZ)(l:List lX):Int:=bJ s l 0
theorem Bi(s:yZ)(l:List lX)(i:Nat)(n:Int)(h:i<l.length):bJ s (l.drop i) n=bJ s (l.drop (i+1)) (n+lQ s (l.getD i BW)):=by
 rw[pq h,bJ];simp[List.getD,h]
def YZ(s:yZ)(l:List lX):Prop:=l.length<=4/\∀p∈l,-fM<=lQ s p/\lQ s p<=fM
theorem zIU(w:World)(ia ha va:Option Addr)(ic hc vc:Nat)(s:yZ)(x:MX)(hx:uN w x)(h:oC w ia ha va s)(zLW:YZ s x.1.sum) :
 Calls Tryz.prog 134 #[uF x,Dr ia ha va ic hc vc s] w fun e w'=>e=.returned (.int .i64 (iU s x.1.sum))/\Below w.heap.size w w':=by
 obtain⟨pa,pc,e1,hp⟩:=hx.sum;obtain⟨ga,gc,e2,-⟩:=hx.guard;have HP:=zA hp.cel;have HS:=zA h;have h4:=zLW.1;have HOk:=zA zLW.2;obtain⟨⟨lab,cc,ps,gd,root⟩,pv,gv⟩:=x;simp only at e1 e2 HP HOk h4;subst e1 e2;simp only[uF,Dr];clear hx hp h zLW
 go_enter Tryz.func134,Tryz.ntmps134
 go_wp2_with fail
 generalize hO1:Obj.cells #[.string ⟨lab.toArray⟩,.int .i64 cc,.slice pa ps.length pc,.slice ga gd.length gc,.int .i64 root] 162=O1 at *;generalize hO2:Obj.cells #[.slice ia s.inputs.length ic,.slice ha s.has.length hc,.slice va s.values.length vc] 168=O2 at *
 have y1:((w.alloc O1).alloc O2).heap[w.heap.size+1]? = some O2:=by
  have h9:=zG (w.alloc O1) O2;rw[show (w.alloc O1).heap.size=w.heap.size+1 by simp]at h9;exact h9
 have hb0:Below w.heap.size w ((w.alloc O1).alloc O2):=(fw (j1 _) _).alloc (by simp) _;have hs0:((w.alloc O1).alloc O2).heap.size=w.heap.size+2:=by simp
 have HO2:=zA hO2;clear hO1 hO2;generalize (w.alloc O1).alloc O2=w0 at *;have HY1:=zA y1;have HB0:=zA hb0;clear y1 hb0
 go_loopw [5,11] (fun nv iv wr=>∃(i:Nat) (n:Int),i<=ps.length/\nv=.int .i64 n/\iv=.int .i64 i /\ -((i:Int)*fM)<=n/\n<=(i:Int)*fM/\Hid (Below w0.heap.size w0 wr)/\Hid (bJ s (ps.drop i) n=iU s ps)) (fun _ iv _=>ps.length-(intOf iv).toNat)
 case atStart=>exact⟨0,0,tx _,rfl,rfl,by simp,by simp,zA (tg _ _),zA rfl⟩
 case round =>
  obtain⟨i,n,hii,rfl,rfl,hn1,hn2,HB,HE⟩:=hrel;have zLV:=HB.out.size;have zM4:Hid (Below w.heap.size w wr):=HB0.out.trans (HB.out.mono (by omega));have x1:wr.heap[w.heap.size+1]? = some O2:=by rw[HB.out.block _ (by omega)];exact HY1.out
  rw[<-HO2.out]at x1;by_cases zLL:i<ps.length
  ·have hpr:=HP.out.below zM4.out
   obtain⟨gp,rfl,q0⟩:=hpr.at ((zQ pC 3 (fun _=>rfl) BW ps i 0 zLL (by decide)).trans rfl);have q1:=(hpr.at ((zQ pC 3 (fun _=>rfl) BW ps i 1 zLL (by decide)).trans rfl)).elim fun g' h=>(show gp=g' by simpa using h.1) ▸ h.2;have q2:=(hpr.at ((zQ pC 3 (fun _=>rfl) BW ps i 2 zLL (by decide)).trans rfl)).elim fun g' h=>(show gp=g' by simpa using h.1) ▸ h.2;rw[ld]at q0;have c0:=zB x1 0;have c2:=zB x1 2;simp only[bp,dq,cx]at c0 c2;have hE:=HE.out;rw[Bi s ps i n zLL]at hE;obtain⟨p1,p2⟩:=HOk.out _ (Ud BW zLL);have HE2:=zA hE;have lgp:=yR q0;have mgp:wr.heap.size≠gp:=by omega
   have m1:wr.heap.size≠w.heap.size+1:=by omega
   have m2:w.heap.size+1<wr.heap.size:=by omega
   have hm1:(i:Int)*fM+fM=((i+1:Nat):Int)*fM:=by rw[Int.natCast_add,Int.add_mul];simp
   have hm2:(i:Int)*fM<=3*fM:=by have:i=0\/i=1\/i=2\/i=3:=by omega
                                 rcases this with rfl|rfl|rfl|rfl <;> decide
   have HNi:=zA (fun w' (hb:Below w.heap.size w w') a=>Kf w' ia ic s.inputs a (HS.out.inputs.below hb));have HNv:=zA (fun w' (hb:Below w.heap.size w w') a=>Kf w' va vc s.values a (HS.out.values.below hb));clear HE hE hpr x1;generalize ps.getD i BW=p at *;obtain⟨pk,pn,pl⟩:=p;unfold lQ at p1 p2 HE2;simp only at q0 q1 q2 p1 p2 HE2;have HN1:=zA (fun w' hb=>HNi.out w' hb pl);have HN2:=zA (fun w' hb=>HNv.out w' hb pl);clear HNi HNv;generalize qK s.inputs pl=vi at *;generalize qK s.values pl=vv at *;by_cases k1:pk=1
   ·subst k1
    simp only[dw]at p1 p2 HE2;generalize ((i:Int)*fM)=iM at *;unfold fM at *;go_wp2_with fail
    go_roundw
    case rel=>exact⟨i+1,n+pn,by omega,by first|rfl|go_num,by go_num,by omega,by omega,zA (HB.out.alloc zLV _),HE2⟩
    case measure=>simp[intOf];omega
   rw[tb k1]at p1 p2 HE2;by_cases k2:pk=2
   ·subst k2
    simp only[dw]at p1 p2 HE2;obtain⟨q,hq⟩:∃q,q=pn*vi:=⟨_,rfl⟩;rw[<-hq]at p1 p2 HE2;have hwq:wrap64 (pn*vi)=q:=by rw[<-hq];unfold wrap64;unfold fM at p1 p2;omega
    clear hq k1;generalize ((i:Int)*fM)=iM at *;unfold fM at *;go_wp2_with fail
    go_quiet (first|(go_at_call 170;refine Calls.quiet_of_same (HN1.out _ (xH (zM4.out.alloc (by omega) _) _))))
    go_wp2_with fail
    go_roundw
    case rel=>exact⟨i+1,n+q,by omega,by first|rfl|go_num,by go_num,by omega,by omega,zA (xH (HB.out.alloc zLV _) _),HE2⟩
    case measure=>simp[intOf];omega
   rw[tb k2]at p1 p2 HE2;by_cases k3:pk=3
   ·subst k3
    simp only[dw]at p1 p2 HE2;obtain⟨q,hq⟩:∃q,q=pn*vv:=⟨_,rfl⟩;rw[<-hq]at p1 p2 HE2;have hwq:wrap64 (pn*vv)=q:=by rw[<-hq];unfold wrap64;unfold fM at p1 p2;omega
    clear hq k1 k2;generalize ((i:Int)*fM)=iM at *;unfold fM at *;go_wp2_with fail
    go_quiet (first|(go_at_call 170;refine Calls.quiet_of_same (HN2.out _ (xH (zM4.out.alloc (by omega) _) _))))
    go_wp2_with fail
    go_roundw
    case rel=>exact⟨i+1,n+q,by omega,by first|rfl|go_num,by go_num,by omega,by omega,zA (xH (HB.out.alloc zLV _) _),HE2⟩
    case measure=>simp[intOf];omega
   ·rw[tb k3,Int.add_zero]at HE2
    have b1:(pk==1)=false:=by simpa using k1
    have b2:(pk==2)=false:=by simpa using k2
    have b3:(pk==3)=false:=by simpa using k3
    clear k1 k2 k3;generalize ((i:Int)*fM)=iM at *;unfold fM at *;go_wp2_with fail
    go_roundw
    case rel=>exact⟨i+1,n,by omega,rfl,by go_num,by omega,by omega,zA (HB.out.alloc zLV _),HE2⟩
    case measure=>simp[intOf];omega
  ·have HE3:Hid (n=iU s ps):=by have:=HE.out;rw[ph (by omega)]at this;exact this
   clear HE;go_wp2_with fail
   go_ret
   exact⟨yP HE3.out,zM4.out⟩
def iC(l:List Int):Array Value:=(tX l).toArray
theorem zAR{k:Nat}(hk:k<l.length):(iC l)[k]? = some (.int .i64 (l.getD k 0)):=by
 unfold iC;rw[bp];exact ZD l k hk
def dH(w:World)(g:Nat)(l:List Int):Prop:=w.heap[g]? = some (.cells (iC l) 3 (0,0))
theorem dH.cell(h:dH w g l){k:Nat}(hk:k<l.length):w.cell? ⟨g,k,none⟩=some (.int .i64 (l.getD k 0)):=(zB h k).trans (zAR hk)
theorem dH.free(h:dH w g l)(k:Nat):w.frozen? ⟨g,k,none⟩=false:=by simp[World.frozen?,show w.heap[g]? = _ from h]
theorem dH.lt(h:dH w g l):g<w.heap.size:=zM h
theorem dH.set(h:dH w g l)(k:Nat)(b:Int):dH (w.setCell ⟨g,k,none⟩ (.int .i64 b)) g (l.set k b):=by
 unfold dH at h ⊢;rw[setCell_eq_setRow w g k _ _ _ _ h,cf w g (iC l) _ _ _ h];congr 2
 unfold iC tX;simp[List.map_set]
theorem dH.below(h:dH w g l)(hb:Below w.heap.size w w'):dH w' g l:=by
 have hl:=h.lt;unfold dH at h ⊢;rw[hb.block g hl];exact h
theorem dH.other(h:dH w g l){p:Addr}(hp:g≠p.block)(u:Value):dH (w.setCell p u) g l:=by
 unfold dH at h ⊢;rw[ly _ _ _ _ hp];exact h
theorem dH.ints(h:dH w g l)(hf:l.length<=10000):tD w (some ⟨g,0,none⟩) l:=by
 refine⟨?_,hf⟩;rcases Nat.eq_zero_or_pos l.length with h0|h0
 ·exact .inl (by rw[l9 h0];rfl)
 ·exact .inr ⟨g,rfl,fun j hj=>by rw[GO]at hj;rw[h.cell hj,ZD l j hj]⟩
theorem sZ(n:Nat):madeCells #[Value.int .i64 0] n=iC (List.replicate n 0):=by
 apply Array.ext
 ·simp[madeCells,iC,tX]
 ·intro i h1 h2
  simp[madeCells,iC,tX,Nat.mod_one]
theorem gF:(Tryz.prog.info? 3).map (fun i=>(i.zero,i.size,i.bytes))=some (some (.int .i64 0),1,8):=by kernel_rfl
theorem GP(a b:List Int):tX (a++b)=tX a++tX b:=by simp[tX]
end Go.Proofs.YtnbpdffdnphbeabGreatDoor
