import Derived.Test.YtnbpdffdnphbeabGreatDoorDBase
set_option maxHeartbeats 4000000
set_option maxRecDepth 100000
namespace Go.Proofs.YtnbpdffdnphbeabGreatDoor
open Go.RowKit
variable{l:List Int}{g:Nat}{w w':World}
structure dL(w:World)(a:Option Addr)(l:List Bool):Prop where
 cel:tZ w a (wF l)
 few:l.length<=10000
theorem dL.below{a:Option Addr}{l:List Bool}(h:dL w a l)(hb:Below w.heap.size w w'):dL w' a l:=⟨h.cel.below hb,h.few⟩
theorem Jl(l:List Bool)(i:Nat)(h:i<l.length):(wF l)[i]? = some (.bool (l.getD i false)):=by simp[wF,List.getD,h]
theorem dL.at{a:Option Addr}{l:List Bool}(h:dL w a l){i:Nat}(hi:i<l.length):∃g,a=some ⟨g,0,none⟩/\w.cell? ⟨g,i,none⟩=some (.bool (l.getD i false)):=h.cel.at (Jl l i hi)
def qI(l:List Int)(a:Int):Int:=if 0<=a/\a<l.length then l.getD a.toNat 0 else 0
theorem oS(w:World)(la:Option Addr)(lc:Nat)(l:List Bool)(a:Int)(h:dL w la l) :
 Calls Tryz.prog 168 #[.slice la l.length lc,.int .i64 a] w fun e w'=>e=.returned (.bool (kS l a))/\w'=w:=by
 have hf:=h.few;by_cases h0:0<=a
 ·obtain⟨n,rfl⟩:∃n:Nat,a=(n:Int):=⟨a.toNat,by omega⟩
  by_cases h1:n<l.length
  ·obtain⟨g,rfl,c⟩:=h.at h1
   have HR:Hid (kS l (n:Int)=l.getD n false):=by unfold Hid kS;rw[tu h0,tu (by omega:(n:Int)<l.length)];rfl
   generalize l.getD n false=x at *;have i1:(n:Int)<(l.length:Int):=by omega
   clear h
   go_enter Tryz.func168,Tryz.ntmps168
   go_wp2_with fail
   go_ret
   exact⟨zF HR.out.symm,rfl⟩
  ·have HR:Hid (kS l (n:Int)=false):=by unfold Hid kS;rw[tu h0,ty (by omega:¬(n:Int)<l.length)];rfl
   have i1:¬(n:Int)<(l.length:Int):=by omega
   clear h
   go_enter Tryz.func168,Tryz.ntmps168
   go_wp2_with fail
   go_ret
   exact⟨zF HR.out.symm,rfl⟩
 ·have HR:Hid (kS l a=false):=by unfold Hid kS;rw[ty h0];rfl
  clear h
  go_enter Tryz.func168,Tryz.ntmps168
  go_wp2_with fail
  go_ret
  exact⟨zF HR.out.symm,rfl⟩
theorem JE(w:World)(la:Option Addr)(lc:Nat)(l:List Int)(a:Int)(h:jT w la l) :
 Calls Tryz.prog 170 #[.slice la l.length lc,.int .i64 a] w fun e w'=>e=.returned (.int .i64 (qI l a))/\w'=w:=by
 have hf:=h.few;by_cases h0:0<=a
 ·obtain⟨n,rfl⟩:∃n:Nat,a=(n:Int):=⟨a.toNat,by omega⟩
  by_cases h1:n<l.length
  ·obtain⟨g,rfl,c⟩:=h.at h1
   have HR:Hid (qI l (n:Int)=l.getD n 0):=by unfold Hid qI;rw[tl ⟨h0,by omega⟩];rfl
   generalize l.getD n 0=x at *;have i1:(n:Int)<(l.length:Int):=by omega
   clear h
   go_enter Tryz.func170,Tryz.ntmps170
   go_wp2_with fail
   go_ret
   exact⟨yP HR.out.symm,rfl⟩
  ·have HR:Hid (qI l (n:Int)=0):=by unfold Hid qI;rw[tb (by omega)]
   have i1:¬(n:Int)<(l.length:Int):=by omega
   clear h
   go_enter Tryz.func170,Tryz.ntmps170
   go_wp2_with fail
   go_ret
   exact⟨yP HR.out.symm,rfl⟩
 ·have HR:Hid (qI l a=0):=by unfold Hid qI;rw[tb (by omega)]
  clear h
  go_enter Tryz.func170,Tryz.ntmps170
  go_wp2_with fail
  go_ret
  exact⟨yP HR.out.symm,rfl⟩
structure yX where
 inputs:List Int
 has:List Bool
 values:List Int
structure nQ(w:World)(ia ha va:Option Addr)(s:yX):Prop where
 inputs:jT w ia s.inputs
 has:dL w ha s.has
 values:jT w va s.values
theorem nQ.below{ia ha va:Option Addr}{s:yX}(h:nQ w ia ha va s)(hb:Below w.heap.size w w'):nQ w' ia ha va s:=⟨h.inputs.below hb,h.has.below hb,h.values.below hb⟩
def CT(ia ha va:Option Addr)(ic hc vc:Nat)(s:yX):Value:=.agg #[.slice ia s.inputs.length ic,.slice ha s.has.length hc,.slice va s.values.length vc]
def Qr(x:qY)(s:yX):Bool :=
 if qI s.inputs x.place<(if x.two then qI s.inputs x.other else x.num) then x.less else if (if x.two then qI s.inputs x.other else x.num)<qI s.inputs x.place then x.more else x.equal
def Kz(x:qY)(s:yX)(hs:List Bool):Bool :=
 if x.kind=1 then kS hs x.left || kS hs x.right else if x.kind=2 then kS hs x.left&&kS hs x.right else if x.kind=3 then !kS hs x.left
 else if x.kind=4 then true else if x.kind=5 then kS s.has x.place else if x.kind=6 then decide (qI s.inputs x.place=1) else if x.kind=7 then Qr x s else false
theorem Cv(w:World)(ia ha va:Option Addr)(ic hc vc:Nat)(s:yX)(x:qY)(h:nQ w ia ha va s) :
 Calls Tryz.prog 187 #[nD x,CT ia ha va ic hc vc s] w fun e w'=>e=.returned (.bool (Qr x s))/\Below w.heap.size w w':=by
 have HN:=zA (fun w' (hb:Below w.heap.size w w') a=>JE w' ia ic s.inputs a (h.inputs.below hb));have HC:Hid (Qr x s=if qI s.inputs x.place<(if x.two then qI s.inputs x.other else x.num) then x.less else if (if x.two then qI s.inputs x.other else x.num)<qI s.inputs x.place then x.more else x.equal):=rfl;obtain⟨kd,lf',rg',pl,two,ot,nu,le,eq,mo⟩:=x;simp only[nD,CT]at *;have HN1:=zA (fun w' hb=>HN.out w' hb pl);have HN2:=zA (fun w' hb=>HN.out w' hb ot);clear HN h;generalize qI s.inputs pl=p1 at *;generalize qI s.inputs ot=p2 at *;generalize Qr ⟨kd,lf',rg',pl,two,ot,nu,le,eq,mo⟩ s=ans at *;have hb0:∀o1 o2,Below w.heap.size w ((w.alloc o1).alloc o2):=fun o1 o2=>(gb (j1 _) _).alloc (by simp) _;have HB0:=zA hb0;clear hb0;cases two
 ·simp only[Bool.false_eq_true,if_false]at HC
  by_cases k1:p1<nu
  ·rw[tl k1]at HC
   go_enter Tryz.func187,Tryz.ntmps187
   go_wp2_with fail
   refine(HN1.out _ (HB0.out _ _)).mono ?_;rintro e w' ⟨rfl,hw⟩;obtain rfl:=hw.symm;go_wp2_with fail
   go_ret
   exact⟨zF HC.out.symm,HB0.out _ _⟩
  ·rw[tb k1]at HC
   by_cases k2:nu<p1
   ·rw[tl k2]at HC
    go_enter Tryz.func187,Tryz.ntmps187
    go_wp2_with fail
    refine(HN1.out _ (HB0.out _ _)).mono ?_;rintro e w' ⟨rfl,hw⟩;obtain rfl:=hw.symm;go_wp2_with fail
    go_ret
    exact⟨zF HC.out.symm,HB0.out _ _⟩
   ·rw[tb k2]at HC
    go_enter Tryz.func187,Tryz.ntmps187
    go_wp2_with fail
    refine(HN1.out _ (HB0.out _ _)).mono ?_;rintro e w' ⟨rfl,hw⟩;obtain rfl:=hw.symm;go_wp2_with fail
    go_ret
    exact⟨zF HC.out.symm,HB0.out _ _⟩
 ·simp only[dt]at HC
  by_cases k1:p1<p2
  ·rw[tl k1]at HC
   go_enter Tryz.func187,Tryz.ntmps187
   go_wp2_with fail
   refine(HN1.out _ (HB0.out _ _)).mono ?_;rintro e w' ⟨rfl,hw⟩;obtain rfl:=hw.symm;go_wp2_with fail
   refine(HN2.out _ (HB0.out _ _)).mono ?_;rintro e w' ⟨rfl,hw⟩;obtain rfl:=hw.symm;go_wp2_with fail
   go_ret
   exact⟨zF HC.out.symm,HB0.out _ _⟩
  ·rw[tb k1]at HC
   by_cases k2:p2<p1
   ·rw[tl k2]at HC
    go_enter Tryz.func187,Tryz.ntmps187
    go_wp2_with fail
    refine(HN1.out _ (HB0.out _ _)).mono ?_;rintro e w' ⟨rfl,hw⟩;obtain rfl:=hw.symm;go_wp2_with fail
    refine(HN2.out _ (HB0.out _ _)).mono ?_;rintro e w' ⟨rfl,hw⟩;obtain rfl:=hw.symm;go_wp2_with fail
    go_ret
    exact⟨zF HC.out.symm,HB0.out _ _⟩
   ·rw[tb k2]at HC
    go_enter Tryz.func187,Tryz.ntmps187
    go_wp2_with fail
    refine(HN1.out _ (HB0.out _ _)).mono ?_;rintro e w' ⟨rfl,hw⟩;obtain rfl:=hw.symm;go_wp2_with fail
    refine(HN2.out _ (HB0.out _ _)).mono ?_;rintro e w' ⟨rfl,hw⟩;obtain rfl:=hw.symm;go_wp2_with fail
    go_ret
    exact⟨zF HC.out.symm,HB0.out _ _⟩
theorem qz(w:World)(ia ha va ea:Option Addr)(ic hc vc ec:Nat)(s:yX)(hs:List Bool)(x:qY)(h:nQ w ia ha va s)(he:dL w ea hs) :
 Calls Tryz.prog 169 #[nD x,CT ia ha va ic hc vc s,.slice ea hs.length ec] w fun e w'=>e=.returned (.bool (Kz x s hs))/\Below w.heap.size w w':=by
 have HL:=zA (fun w' (hb:Below w.heap.size w w')=>oS w' ea ec hs x.left (he.below hb));have HR:=zA (fun w' (hb:Below w.heap.size w w')=>oS w' ea ec hs x.right (he.below hb));have HH:=zA (fun w' (hb:Below w.heap.size w w')=>oS w' ha hc s.has x.place (h.has.below hb));have HN:=zA (fun w' (hb:Below w.heap.size w w')=>JE w' ia ic s.inputs x.place (h.inputs.below hb));have HC:=zA (fun w' (hb:Below w.heap.size w w')=>Cv w' ia ha va ic hc vc s x (h.below hb))
 have HA:Hid (Kz x s hs=if x.kind=1 then kS hs x.left || kS hs x.right else if x.kind=2 then kS hs x.left&&kS hs x.right else if x.kind=3 then !kS hs x.left
  else if x.kind=4 then true else if x.kind=5 then kS s.has x.place else if x.kind=6 then decide (qI s.inputs x.place=1) else if x.kind=7 then Qr x s else false):=rfl
 have HB0:=zA (show ∀o1 o2,Below w.heap.size w ((w.alloc o1).alloc o2) from fun o1 o2=>(gb (j1 _) _).alloc (by simp) _);generalize Kz x s hs=ans at *;generalize Qr x s=cm at *;obtain⟨kd,lf',rg',pl,two,ot,nu,le,eq,mo⟩:=x;simp only[nD,CT]at *;clear h he;generalize kS hs lf'=pL at *;generalize kS hs rg'=pR at *;generalize kS s.has pl=pH at *;generalize qI s.inputs pl=pN at *;by_cases k1:kd=1
 ·subst k1
  rw[tl rfl]at HA;cases pL
  ·simp only[bf]at HA
   go_enter Tryz.func169,Tryz.ntmps169
   go_wp2_with fail
   refine(HL.out _ (HB0.out _ _)).mono ?_;rintro e w' ⟨rfl,hw⟩;obtain rfl:=hw.symm;go_wp2_with fail
   refine(HR.out _ (HB0.out _ _)).mono ?_;rintro e w' ⟨rfl,hw⟩;obtain rfl:=hw.symm;go_wp2_with fail
   go_ret
   exact⟨zF HA.out.symm,HB0.out _ _⟩
  ·simp only[fq]at HA
   go_enter Tryz.func169,Tryz.ntmps169
   go_wp2_with fail
   refine(HL.out _ (HB0.out _ _)).mono ?_;rintro e w' ⟨rfl,hw⟩;obtain rfl:=hw.symm;go_wp2_with fail
   go_ret
   exact⟨zF HA.out.symm,HB0.out _ _⟩
 by_cases k2:kd=2
 ·subst k2
  rw[tb (by decide),tl rfl]at HA;cases pL
  ·simp only[cp]at HA
   go_enter Tryz.func169,Tryz.ntmps169
   go_wp2_with fail
   refine(HL.out _ (HB0.out _ _)).mono ?_;rintro e w' ⟨rfl,hw⟩;obtain rfl:=hw.symm;go_wp2_with fail
   go_ret
   exact⟨zF HA.out.symm,HB0.out _ _⟩
  ·simp only[mz]at HA
   go_enter Tryz.func169,Tryz.ntmps169
   go_wp2_with fail
   refine(HL.out _ (HB0.out _ _)).mono ?_;rintro e w' ⟨rfl,hw⟩;obtain rfl:=hw.symm;go_wp2_with fail
   refine(HR.out _ (HB0.out _ _)).mono ?_;rintro e w' ⟨rfl,hw⟩;obtain rfl:=hw.symm;go_wp2_with fail
   go_ret
   exact⟨zF HA.out.symm,HB0.out _ _⟩
 by_cases k3:kd=3
 ·subst k3
  rw[tb (by decide),tb (by decide),tl rfl]at HA
  go_enter Tryz.func169,Tryz.ntmps169
  go_wp2_with fail
  refine(HL.out _ (HB0.out _ _)).mono ?_;rintro e w' ⟨rfl,hw⟩;obtain rfl:=hw.symm;go_wp2_with fail
  go_ret
  exact⟨zF HA.out.symm,HB0.out _ _⟩
 by_cases k4:kd=4
 ·subst k4
  rw[tb (by decide),tb (by decide),tb (by decide),tl rfl]at HA
  go_enter Tryz.func169,Tryz.ntmps169
  go_wp2_with fail
  go_ret
  exact⟨zF HA.out.symm,HB0.out _ _⟩
 by_cases k5:kd=5
 ·subst k5
  rw[tb (by decide),tb (by decide),tb (by decide),tb (by decide),tl rfl]at HA
  go_enter Tryz.func169,Tryz.ntmps169
  go_wp2_with fail
  refine(HH.out _ (HB0.out _ _)).mono ?_;rintro e w' ⟨rfl,hw⟩;obtain rfl:=hw.symm;go_wp2_with fail
  go_ret
  exact⟨zF HA.out.symm,HB0.out _ _⟩
 by_cases k6:kd=6
 ·subst k6
  rw[tb (by decide),tb (by decide),tb (by decide),tb (by decide),tb (by decide),tl rfl]at HA;have hd:decide (pN=1)=(pN==1):=by rw[dn];simp
  rw[hd]at HA;clear hd
  go_enter Tryz.func169,Tryz.ntmps169
  go_wp2_with fail
  refine(HN.out _ (HB0.out _ _)).mono ?_;rintro e w' ⟨rfl,hw⟩;obtain rfl:=hw.symm;go_wp2_with fail
  go_ret
  exact⟨zF HA.out.symm,HB0.out _ _⟩
 by_cases k7:kd=7
 ·subst k7
  rw[tb (by decide),tb (by decide),tb (by decide),tb (by decide),tb (by decide),tb (by decide),tl rfl]at HA
  go_enter Tryz.func169,Tryz.ntmps169
  go_wp2_with fail
  refine(HC.out _ (HB0.out _ _)).mono ?_;rintro e w2 ⟨rfl,hb2⟩;have HB2:Hid (Below w.heap.size w w2):=(HB0.out _ _).trans (hb2.mono (HB0.out _ _).size);clear hb2;go_wp2_with fail
  go_ret
  exact⟨zF HA.out.symm,HB2.out⟩
 ·rw[tb k1,tb k2,tb k3,tb k4,tb k5,tb k6,tb k7]at HA
  have b1:(kd==1)=false:=by simpa using k1
  have b2:(kd==2)=false:=by simpa using k2
  have b3:(kd==3)=false:=by simpa using k3
  have b4:(kd==4)=false:=by simpa using k4
  have b5:(kd==5)=false:=by simpa using k5
  have b6:(kd==6)=false:=by simpa using k6
  have b7:(kd==7)=false:=by simpa using k7
  clear k1 k2 k3 k4 k5 k6 k7
  go_enter Tryz.func169,Tryz.ntmps169
  go_wp2_with fail
  go_ret
  exact⟨zF HA.out.symm,HB0.out _ _⟩
theorem zBL{α:Type}(p:α->Bool)(d:α)(l:List α)(i:Nat)(h:i<l.length):(l.drop i).all p=(p (l.getD i d)&&(l.drop (i+1)).all p):=by
 rw[po h,fg];simp[List.getD,h]
theorem VI{α:Type}{l:List α}{i:Nat}(d:α)(h:i<l.length):l.getD i d∈l:=by simp[List.getD,h]
def fM:Int:=1152921504606846976
def dB(s:yX):List qY->List Bool->List Bool
 | [],hs=>hs
 | x::r,hs=>dB s r (hs++[Kz x s hs])
def jB(s:yX)(l:List lX):Bool:=l.all fun p => !(decide (p.kind=3) && !kS s.has p.place)
def qJ(r:xJ)(s:yX):Bool:=jB s r.sum&&kS (dB s r.guard []) r.root
theorem Gv(s:yX)(l:List qY)(i:Nat)(hs:List Bool)(h:i<l.length):dB s (l.drop i) hs=dB s (l.drop (i+1)) (hs++[Kz (l.getD i oO) s hs]):=by
 rw[po h,dB];simp[List.getD,h]
theorem JK(hs:List Bool)(n:Nat)(a:Int):kS (hs++List.replicate n false) a=kS hs a:=by
 unfold kS;by_cases h0:0<=a
 ·by_cases h1:a<hs.length
  ·rw[tu h1,tu (show a<((hs++List.replicate n false).length:Int) by simp;omega)]
   simp[List.getD,ms (show a.toNat<hs.length by omega)]
  ·rw[ty h1]
   have:(hs++List.replicate n false).getD a.toNat false=false:=by
    rw[List.getD,lj (by omega),bt];split <;> rfl
   rw[this];simp
 ·rw[ty h0];rfl
theorem zDX(x:qY)(s:yX)(hs:List Bool)(n:Nat):Kz x s (hs++List.replicate n false)=Kz x s hs:=by
 unfold Kz;rw[JK,JK]
theorem jU.bools{l:List Bool}(h:jU w g l)(hf:l.length<=10000):dL w (some ⟨g,0,none⟩) l :=
 ⟨.inr ⟨g,rfl,fun j hj=>by rw[GM]at hj;rw[h.cell hj,Jl l j hj]⟩,hf⟩
theorem zDN(hs:List Bool)(i n:Nat)(z:Bool)(h:hs.length=i)(hn:i<n):(hs++List.replicate (n-i) false).set i z=(hs++[z])++List.replicate (n-(i+1)) false:=by
 rw[List.set_append_right _ _ (by omega),show i-hs.length=0 by omega,show n-i=(n-(i+1))+1 by omega,List.replicate_succ,List.set_cons_zero];simp
theorem Xj(w:World)(ia ha va:Option Addr)(ic hc vc:Nat)(s:yX)(x:MX)(hx:uL w x)(h:nQ w ia ha va s) :
 Calls Tryz.prog 132 #[uC x,CT ia ha va ic hc vc s] w fun e w'=>e=.returned (.bool (qJ x.1 s))/\Below w.heap.size w w':=by
 obtain⟨pa,pc,e1,hp⟩:=hx.sum;obtain⟨ga,gc,e2,hg⟩:=hx.guard;have hfp:=hx.few1;have hfg:=hx.few2;have HP:=zA hp.cel;have HG:=zA hg.cel;have HS:=zA h;have HA:Hid (qJ x.1 s=(jB s x.1.sum&&kS (dB s x.1.guard []) x.1.root)):=rfl;obtain⟨⟨lab,cc,ps,gd,root⟩,pv,gv⟩:=x;simp only at e1 e2 HP HG hfp hfg HA;subst e1 e2;simp only[uC,CT];clear hx hp hg h;generalize qJ ⟨lab,cc,ps,gd,root⟩ s=ans at *
 go_enter Tryz.func132,Tryz.ntmps132
 go_wp2_with fail
 generalize hO1:Obj.cells #[.string ⟨lab.toArray⟩,.int .i64 cc,.slice pa ps.length pc,.slice ga gd.length gc,.int .i64 root] 162=O1 at *;generalize hO2:Obj.cells #[.slice ia s.inputs.length ic,.slice ha s.has.length hc,.slice va s.values.length vc] 168=O2 at *;have y0:((w.alloc O1).alloc O2).heap[w.heap.size]? = some O1:=zS (zG _ _)
 have y1:((w.alloc O1).alloc O2).heap[w.heap.size+1]? = some O2:=by
  have h9:=zG (w.alloc O1) O2;rw[show (w.alloc O1).heap.size=w.heap.size+1 by simp]at h9;exact h9
 have hb0:Below w.heap.size w ((w.alloc O1).alloc O2):=(gb (j1 _) _).alloc (by simp) _;have hs0:((w.alloc O1).alloc O2).heap.size=w.heap.size+2:=by simp
 have HO1:=zA hO1;have HO2:=zA hO2;clear hO1 hO2;generalize (w.alloc O1).alloc O2=w0 at *;have HY0:=zA y0;have HY1:=zA y1;have HB0:=zA hb0;clear y0 y1 hb0
 go_loopw [14] (fun iv wr=>∃(i:Nat),i<=ps.length/\iv=.int .i64 i/\Hid (Below w0.heap.size w0 wr)/\Hid ((jB s (ps.drop i)&&kS (dB s gd []) root)=ans)) (fun iv _=>ps.length-(intOf iv).toNat)
 case atStart=>exact⟨0,p7 _,rfl,zA (tg _ _),zA HA.out.symm⟩
 case round =>
  obtain⟨i,hi,rfl,HB,HE⟩:=hrel;have zLD:=HB.out.size;have zLJ:Hid (Below w.heap.size w wr):=HB0.out.trans (HB.out.mono (by omega));have x1:wr.heap[w.heap.size+1]? = some O2:=by rw[HB.out.block _ (by omega)];exact HY1.out
  rw[<-HO2.out]at x1;have x0:wr.heap[w.heap.size]? = some O1:=by rw[HB.out.block _ (by omega)];exact HY0.out
  rw[<-HO1.out]at x0;by_cases zKZ:i<ps.length
  ·have hpr:=HP.out.below zLJ.out
   obtain⟨gp,rfl,q0⟩:=hpr.at ((zN tW 3 (fun _=>rfl) B9 ps i 0 zKZ (by decide)).trans rfl);have q1:=(hpr.at ((zN tW 3 (fun _=>rfl) B9 ps i 1 zKZ (by decide)).trans rfl)).elim fun g' h=>(show gp=g' by simpa using h.1) ▸ h.2;have q2:=(hpr.at ((zN tW 3 (fun _=>rfl) B9 ps i 2 zKZ (by decide)).trans rfl)).elim fun g' h=>(show gp=g' by simpa using h.1) ▸ h.2;rw[l9]at q0;have c1:=zB x1 1;simp only[bg,dl,co]at c1;have hE:=HE.out;unfold jB at hE;rw[zBL _ B9 _ i zKZ]at hE;have HE2:=zA hE;have lgp:=yQ q0;have mgp:wr.heap.size≠gp:=by omega
   have m1:wr.heap.size≠w.heap.size+1:=by omega
   have m2:w.heap.size+1<wr.heap.size:=by omega
   have HI:=zA (fun w' (hb:Below w.heap.size w w') a=>oS w' ha hc s.has a (HS.out.has.below hb));clear HE hE hpr x0 x1;generalize ps.getD i B9=p at *;obtain⟨pk,pn,pl⟩:=p;simp only at q0 q1 q2 HE2;by_cases k1:pk=3
   ·subst k1
    have HI1:=zA (fun w' hb=>HI.out w' hb pl);clear HI;generalize kS s.has pl=tv at *;cases tv
    ·have HE3:Hid (ans=false):=by have:=HE2.out;simpa[Hid] using this.symm
     go_wp2_with fail
     refine(HI1.out _ (zLJ.out.alloc (by omega) _)).mono ?_;rintro e w' ⟨rfl,hw⟩;obtain rfl:=hw.symm;go_wp2_with fail
     go_ret
     exact⟨zF HE3.out.symm,zLJ.out.alloc (by omega) _⟩
    ·have HE3:Hid ((jB s (ps.drop (i+1))&&kS (dB s gd []) root)=ans):=by have:=HE2.out;simpa[jB,Hid] using this
     go_wp2_with fail
     refine(HI1.out _ (zLJ.out.alloc (by omega) _)).mono ?_;rintro e w' ⟨rfl,hw⟩;obtain rfl:=hw.symm;go_wp2_with fail
     go_roundw
     case rel=>exact⟨i+1,by omega,by go_num,zA (HB.out.alloc zLD _),HE3⟩
     case measure=>simp[intOf];omega
   ·have HE3:Hid ((jB s (ps.drop (i+1))&&kS (dB s gd []) root)=ans):=by have:=HE2.out;simpa[jB,Hid,k1] using this
    have b1:(pk==3)=false:=by simpa using k1
    clear k1;go_wp2_with fail
    go_roundw
    case rel=>exact⟨i+1,by omega,by go_num,zA (HB.out.alloc zLD _),HE3⟩
    case measure=>simp[intOf];omega
  ·have HE3:Hid (kS (dB s gd []) root=ans):=by have:=HE.out;rw[pm (by omega)]at this;simpa[jB,Hid] using this
   have c3:=zB x0 3;have c4:=zB x0 4;simp only[bg,dl,co]at c3 c4;have m2:w.heap.size<wr.heap.size:=by omega
   have m3:wr.heap.size≠w.heap.size:=by omega
   clear HE;have zLI:=zLJ;have hsw:w.heap.size+2<=wr.heap.size:=by omega
   have HX0:=zA x0;have HX1:=zA x1;have hmk:=run_make_row' (P:=Tryz.prog) 166 4 (.bool false) 1 Tryz.underlying166 dA rfl .i64 .i64 gd.length (by omega) (by omega);rw[cU]at hmk;clear x0 x1;go_wp2_with fail
   have HM0:Hid (jU (wr.alloc (.cells (gC (List.replicate gd.length false)) 4)) wr.heap.size ([]++List.replicate (gd.length-0) false)):=zG _ _;clear c3 c4 m2 m3 hmk;generalize hwq:wr=wq at *;clear hwq
   go_loopw [37] (fun iv wr=>∃(i:Nat) (hs:List Bool),i<=gd.length/\Hid (hs.length=i)/\iv=.int .i64 i/\Hid (jU wr wq.heap.size (hs++List.replicate (gd.length-i) false))/\Hid (Below wq.heap.size wq wr)/\wq.heap.size<wr.heap.size/\Hid (dB s (gd.drop i) hs=dB s gd [])) (fun iv _=>gd.length-(intOf iv).toNat)
   case atStart=>exact⟨0,[],p7 _,zA rfl,rfl,HM0,zA (gb (j1 _) _),by simp,zA rfl⟩
   case round =>
    obtain⟨i,hs,hi,HHl,rfl,HM,HBz,hszz,HEz⟩:=hrel;have HBy:Hid (Below w.heap.size w wr):=zLI.out.trans (HBz.out.mono (by omega));have x0:wr.heap[w.heap.size]? = _:=(HBz.out.block _ (by omega)).trans HX0.out;have x1:wr.heap[w.heap.size+1]? = _:=(HBz.out.block _ (by omega)).trans HX1.out;have zL6:(hs++List.replicate (gd.length-i) false).length=gd.length:=by have:=HHl.out;simp;omega
    have HLen:=zA zL6;have HBo:Hid (dL wr (some ⟨wq.heap.size,0,none⟩) (hs++List.replicate (gd.length-i) false)):=HM.out.bools (by rw[zL6];exact hfg);clear zL6;by_cases zLH:i<gd.length
    ·have hpr:=HG.out.below HBy.out
     obtain⟨gp,rfl,q0⟩:=hpr.at ((zN qN 10 (fun _=>rfl) oO gd i 0 zLH (by decide)).trans rfl);have q1:=(hpr.at ((zN qN 10 (fun _=>rfl) oO gd i 1 zLH (by decide)).trans rfl)).elim fun g' h=>(show gp=g' by simpa using h.1) ▸ h.2;have q2:=(hpr.at ((zN qN 10 (fun _=>rfl) oO gd i 2 zLH (by decide)).trans rfl)).elim fun g' h=>(show gp=g' by simpa using h.1) ▸ h.2;have q3:=(hpr.at ((zN qN 10 (fun _=>rfl) oO gd i 3 zLH (by decide)).trans rfl)).elim fun g' h=>(show gp=g' by simpa using h.1) ▸ h.2;have q4:=(hpr.at ((zN qN 10 (fun _=>rfl) oO gd i 4 zLH (by decide)).trans rfl)).elim fun g' h=>(show gp=g' by simpa using h.1) ▸ h.2;have q5:=(hpr.at ((zN qN 10 (fun _=>rfl) oO gd i 5 zLH (by decide)).trans rfl)).elim fun g' h=>(show gp=g' by simpa using h.1) ▸ h.2;have q6:=(hpr.at ((zN qN 10 (fun _=>rfl) oO gd i 6 zLH (by decide)).trans rfl)).elim fun g' h=>(show gp=g' by simpa using h.1) ▸ h.2;have q7:=(hpr.at ((zN qN 10 (fun _=>rfl) oO gd i 7 zLH (by decide)).trans rfl)).elim fun g' h=>(show gp=g' by simpa using h.1) ▸ h.2;have q8:=(hpr.at ((zN qN 10 (fun _=>rfl) oO gd i 8 zLH (by decide)).trans rfl)).elim fun g' h=>(show gp=g' by simpa using h.1) ▸ h.2;have q9:=(hpr.at ((zN qN 10 (fun _=>rfl) oO gd i 9 zLH (by decide)).trans rfl)).elim fun g' h=>(show gp=g' by simpa using h.1) ▸ h.2;rw[l9]at q0;have d0:=zB x1 0;have d1:=zB x1 1;have d2:=zB x1 2;simp only[bg,dl,co]at d0 d1 d2;have hE:=HEz.out;rw[Gv s gd i hs zLH]at hE;have HE4:=zA hE;have lgp:=yQ q0;have mgp:wr.heap.size≠gp:=by omega
     have m1:wr.heap.size≠w.heap.size+1:=by omega
     have m2:w.heap.size+1<wr.heap.size:=by omega
     have HHo:Hid (∀o,Calls Tryz.prog 169 #[nD (gd.getD i oO),CT ia ha va ic hc vc s,.slice (some ⟨wq.heap.size,0,none⟩) gd.length gd.length] (wr.alloc o) fun e w'=>e=.returned (.bool (Kz (gd.getD i oO) s hs))/\Below (wr.alloc o).heap.size (wr.alloc o) w'):=fun o=>by
      have h9:=qz (wr.alloc o) ia ha va (some ⟨wq.heap.size,0,none⟩) ic hc vc gd.length s (hs++List.replicate (gd.length-i) false) (gd.getD i oO) (HS.out.below (HBy.out.alloc (by omega) o)) (HBo.out.below (gb (j1 _) o));rw[zDX,HLen.out]at h9;exact h9
     have zLL:Hid (∀z,(hs++List.replicate (gd.length-i) false).set i z=(hs++[z])++List.replicate (gd.length-(i+1)) false):=fun z=>zDN hs i gd.length z HHl.out zLH
     have HCl:Hid (∀w5,Below wr.heap.size wr w5->∃v,w5.cell? ⟨wq.heap.size,i,none⟩=some (.bool v)):=fun w5 hb5=>by
      exact⟨_,(hb5.cell (p:=⟨wq.heap.size,i,none⟩) hszz).trans (HM.out.cell (by rw[HLen.out];exact zLH))⟩
     clear hE hpr x0 x1 HEz;generalize gd.getD i oO=nd at *;generalize Kz nd s hs=z at *;obtain⟨n0,n1,n2,n3,n4,n5,n6,n7,n8,n9⟩:=nd;simp only[nD,CT]at HHo;simp only at q0 q1 q2 q3 q4 q5 q6 q7 q8 q9;go_wp2_with fail
     refine(HHo.out _).mono ?_;rintro e w5 ⟨rfl,hb5⟩;have HB5:Hid (Below wr.heap.size wr w5):=(gb (j1 _) _).trans (hb5.mono (by simp));have HM5:=zA (HM.out.below HB5.out);have hs5:=HB5.out.size;obtain⟨oldz,hcz⟩:=HCl.out w5 HB5.out;have hfz:=HM5.out.free i;have HM6:Hid (jU (w5.setCell ⟨wq.heap.size,i,none⟩ (.bool z)) wq.heap.size ((hs++[z])++List.replicate (gd.length-(i+1)) false)):=by unfold Hid;rw[<-zLL.out z];exact HM5.out.set i z
     have HB6:Hid (Below wq.heap.size wq (w5.setCell ⟨wq.heap.size,i,none⟩ (.bool z))):=(HBz.out.trans (HB5.out.mono (ph hszz))).setCell (p:=⟨wq.heap.size,i,none⟩) (j1 _) _;have hs6:wq.heap.size<(w5.setCell ⟨wq.heap.size,i,none⟩ (.bool z)).heap.size:=by have:=HM6.out.lt;exact this
     clear hb5 HHo HCl;go_wp2_with fail
     go_roundw
     case rel=>exact⟨i+1,hs++[z],by omega,zA (by have:=HHl.out;simp;omega),by go_num,HM6,HB6,hs6,HE4⟩
     case measure=>simp[intOf];omega
    ·have HE5:Hid (kS hs root=ans):=by have:=HEz.out;rw[pm (by omega)]at this;have h9:=HE3.out;rw[<-this]at h9;exact h9
     have d4:=zB x0 4;simp only[bg,dl,co]at d4
     have HI:Hid (Calls Tryz.prog 168 #[.slice (some ⟨wq.heap.size,0,none⟩) gd.length gd.length,.int .i64 root] wr fun e w'=>e=.returned (.bool ans)/\w'=wr):=by
      have h9:=oS wr (some ⟨wq.heap.size,0,none⟩) gd.length (hs++List.replicate (gd.length-i) false) root HBo.out;rw[JK,HE5.out,HLen.out]at h9;exact h9
     clear x0 x1;go_wp2_with fail
     refine HI.out.mono ?_;rintro e w' ⟨rfl,hw⟩;obtain rfl:=hw.symm;go_wp2_with fail
     go_ret
     exact⟨rfl,HBy.out⟩
def lQ(s:yX)(p:lX):Int:=if p.kind=1 then p.num else if p.kind=2 then p.num*qI s.inputs p.place else if p.kind=3 then p.num*qI s.values p.place else 0
def bL(s:yX):List lX->Int->Int
 | [],n=>n
 | p::r,n=>bL s r (n+lQ s p)
def eR(s:yX)(l:List lX):Int:=bL s l 0
theorem UM(s:yX)(l:List lX)(i:Nat)(n:Int)(h:i<l.length):bL s (l.drop i) n=bL s (l.drop (i+1)) (n+lQ s (l.getD i B9)):=by
 rw[po h,bL];simp[List.getD,h]
def YH(s:yX)(l:List lX):Prop:=l.length<=4/\∀p∈l,-fM<=lQ s p/\lQ s p<=fM
theorem zI3(w:World)(ia ha va:Option Addr)(ic hc vc:Nat)(s:yX)(x:MX)(hx:uL w x)(h:nQ w ia ha va s)(zLC:YH s x.1.sum) :
 Calls Tryz.prog 134 #[uC x,CT ia ha va ic hc vc s] w fun e w'=>e=.returned (.int .i64 (eR s x.1.sum))/\Below w.heap.size w w':=by
 obtain⟨pa,pc,e1,hp⟩:=hx.sum;obtain⟨ga,gc,e2,-⟩:=hx.guard;have HP:=zA hp.cel;have HS:=zA h;have h4:=zLC.1;have HOk:=zA zLC.2;obtain⟨⟨lab,cc,ps,gd,root⟩,pv,gv⟩:=x;simp only at e1 e2 HP HOk h4;subst e1 e2;simp only[uC,CT];clear hx hp h zLC
 go_enter Tryz.func134,Tryz.ntmps134
 go_wp2_with fail
 generalize hO1:Obj.cells #[.string ⟨lab.toArray⟩,.int .i64 cc,.slice pa ps.length pc,.slice ga gd.length gc,.int .i64 root] 162=O1 at *;generalize hO2:Obj.cells #[.slice ia s.inputs.length ic,.slice ha s.has.length hc,.slice va s.values.length vc] 168=O2 at *
 have y1:((w.alloc O1).alloc O2).heap[w.heap.size+1]? = some O2:=by
  have h9:=zG (w.alloc O1) O2;rw[show (w.alloc O1).heap.size=w.heap.size+1 by simp]at h9;exact h9
 have hb0:Below w.heap.size w ((w.alloc O1).alloc O2):=(gb (j1 _) _).alloc (by simp) _;have hs0:((w.alloc O1).alloc O2).heap.size=w.heap.size+2:=by simp
 have HO2:=zA hO2;clear hO1 hO2;generalize (w.alloc O1).alloc O2=w0 at *;have HY1:=zA y1;have HB0:=zA hb0;clear y1 hb0
 go_loopw [5,11] (fun nv iv wr=>∃(i:Nat) (n:Int),i<=ps.length/\nv=.int .i64 n/\iv=.int .i64 i /\ -((i:Int)*fM)<=n/\n<=(i:Int)*fM/\Hid (Below w0.heap.size w0 wr)/\Hid (bL s (ps.drop i) n=eR s ps)) (fun _ iv _=>ps.length-(intOf iv).toNat)
 case atStart=>exact⟨0,0,p7 _,rfl,rfl,by simp,by simp,zA (tg _ _),zA rfl⟩
 case round =>
  obtain⟨i,n,hii,rfl,rfl,hn1,hn2,HB,HE⟩:=hrel;have zLD:=HB.out.size;have zLJ:Hid (Below w.heap.size w wr):=HB0.out.trans (HB.out.mono (by omega));have x1:wr.heap[w.heap.size+1]? = some O2:=by rw[HB.out.block _ (by omega)];exact HY1.out
  rw[<-HO2.out]at x1;by_cases zKZ:i<ps.length
  ·have hpr:=HP.out.below zLJ.out
   obtain⟨gp,rfl,q0⟩:=hpr.at ((zN tW 3 (fun _=>rfl) B9 ps i 0 zKZ (by decide)).trans rfl);have q1:=(hpr.at ((zN tW 3 (fun _=>rfl) B9 ps i 1 zKZ (by decide)).trans rfl)).elim fun g' h=>(show gp=g' by simpa using h.1) ▸ h.2;have q2:=(hpr.at ((zN tW 3 (fun _=>rfl) B9 ps i 2 zKZ (by decide)).trans rfl)).elim fun g' h=>(show gp=g' by simpa using h.1) ▸ h.2;rw[l9]at q0;have c0:=zB x1 0;have c2:=zB x1 2;simp only[bg,dl,co]at c0 c2;have hE:=HE.out;rw[UM s ps i n zKZ]at hE;obtain⟨p1,p2⟩:=HOk.out _ (VI B9 zKZ);have HE2:=zA hE;have lgp:=yQ q0;have mgp:wr.heap.size≠gp:=by omega
   have m1:wr.heap.size≠w.heap.size+1:=by omega
   have m2:w.heap.size+1<wr.heap.size:=by omega
   have hm1:(i:Int)*fM+fM=((i+1:Nat):Int)*fM:=by rw[Int.natCast_add,Int.add_mul];simp
   have hm2:(i:Int)*fM<=3*fM:=by have:i=0\/i=1\/i=2\/i=3:=by omega
                                 rcases this with rfl|rfl|rfl|rfl <;> decide
   have HNi:=zA (fun w' (hb:Below w.heap.size w w') a=>JE w' ia ic s.inputs a (HS.out.inputs.below hb));have HNv:=zA (fun w' (hb:Below w.heap.size w w') a=>JE w' va vc s.values a (HS.out.values.below hb));clear HE hE hpr x1;generalize ps.getD i B9=p at *;obtain⟨pk,pn,pl⟩:=p;unfold lQ at p1 p2 HE2;simp only at q0 q1 q2 p1 p2 HE2;have HN1:=zA (fun w' hb=>HNi.out w' hb pl);have HN2:=zA (fun w' hb=>HNv.out w' hb pl);clear HNi HNv;generalize qI s.inputs pl=vi at *;generalize qI s.values pl=vv at *;by_cases k1:pk=1
   ·subst k1
    simp only[dt]at p1 p2 HE2;generalize ((i:Int)*fM)=iM at *;unfold fM at *;go_wp2_with fail
    go_roundw
    case rel=>exact⟨i+1,n+pn,by omega,by first|rfl|go_num,by go_num,by omega,by omega,zA (HB.out.alloc zLD _),HE2⟩
    case measure=>simp[intOf];omega
   rw[tb k1]at p1 p2 HE2;by_cases k2:pk=2
   ·subst k2
    simp only[dt]at p1 p2 HE2;obtain⟨q,hq⟩:∃q,q=pn*vi:=⟨_,rfl⟩;rw[<-hq]at p1 p2 HE2;have hwq:wrap64 (pn*vi)=q:=by rw[<-hq];unfold wrap64;unfold fM at p1 p2;omega
    clear hq k1;generalize ((i:Int)*fM)=iM at *;unfold fM at *;go_wp2_with fail
    go_quiet (first|(go_at_call 170;refine Calls.quiet_of_same (HN1.out _ (xR (zLJ.out.alloc (by omega) _) _))))
    go_wp2_with fail
    go_roundw
    case rel=>exact⟨i+1,n+q,by omega,by first|rfl|go_num,by go_num,by omega,by omega,zA (xR (HB.out.alloc zLD _) _),HE2⟩
    case measure=>simp[intOf];omega
   rw[tb k2]at p1 p2 HE2;by_cases k3:pk=3
   ·subst k3
    simp only[dt]at p1 p2 HE2;obtain⟨q,hq⟩:∃q,q=pn*vv:=⟨_,rfl⟩;rw[<-hq]at p1 p2 HE2;have hwq:wrap64 (pn*vv)=q:=by rw[<-hq];unfold wrap64;unfold fM at p1 p2;omega
    clear hq k1 k2;generalize ((i:Int)*fM)=iM at *;unfold fM at *;go_wp2_with fail
    go_quiet (first|(go_at_call 170;refine Calls.quiet_of_same (HN2.out _ (xR (zLJ.out.alloc (by omega) _) _))))
    go_wp2_with fail
    go_roundw
    case rel=>exact⟨i+1,n+q,by omega,by first|rfl|go_num,by go_num,by omega,by omega,zA (xR (HB.out.alloc zLD _) _),HE2⟩
    case measure=>simp[intOf];omega
   ·rw[tb k3,Int.add_zero]at HE2
    have b1:(pk==1)=false:=by simpa using k1
    have b2:(pk==2)=false:=by simpa using k2
    have b3:(pk==3)=false:=by simpa using k3
    clear k1 k2 k3;generalize ((i:Int)*fM)=iM at *;unfold fM at *;go_wp2_with fail
    go_roundw
    case rel=>exact⟨i+1,n,by omega,rfl,by go_num,by omega,by omega,zA (HB.out.alloc zLD _),HE2⟩
    case measure=>simp[intOf];omega
  ·have HE3:Hid (n=eR s ps):=by have:=HE.out;rw[pm (by omega)]at this;exact this
   clear HE;go_wp2_with fail
   go_ret
   exact⟨yP HE3.out,zLJ.out⟩
def iC(l:List Int):Array Value:=(tQ l).toArray
theorem jt{k:Nat}(hk:k<l.length):(iC l)[k]? = some (.int .i64 (l.getD k 0)):=by
 unfold iC;rw[bg];exact Zm l k hk
def dJ(w:World)(g:Nat)(l:List Int):Prop:=w.heap[g]? = some (.cells (iC l) 3 (0,0))
theorem dJ.cell(h:dJ w g l){k:Nat}(hk:k<l.length):w.cell? ⟨g,k,none⟩=some (.int .i64 (l.getD k 0)):=(zB h k).trans (jt hk)
theorem dJ.free(h:dJ w g l)(k:Nat):w.frozen? ⟨g,k,none⟩=false:=by simp[World.frozen?,show w.heap[g]? = _ from h]
theorem dJ.lt(h:dJ w g l):g<w.heap.size:=zJ h
theorem dJ.set(h:dJ w g l)(k:Nat)(b:Int):dJ (w.setCell ⟨g,k,none⟩ (.int .i64 b)) g (l.set k b):=by
 unfold dJ at h ⊢;rw[setCell_eq_setRow w g k _ _ _ _ h,cg w g (iC l) _ _ _ h];congr 2
 unfold iC tQ;simp[List.map_set]
theorem dJ.below(h:dJ w g l)(hb:Below w.heap.size w w'):dJ w' g l:=by
 have hl:=h.lt;unfold dJ at h ⊢;rw[hb.block g hl];exact h
theorem dJ.other(h:dJ w g l){p:Addr}(hp:g≠p.block)(u:Value):dJ (w.setCell p u) g l:=by
 unfold dJ at h ⊢;rw[lk _ _ _ _ hp];exact h
theorem dJ.ints(h:dJ w g l)(hf:l.length<=10000):jT w (some ⟨g,0,none⟩) l:=by
 refine⟨?_,hf⟩;rcases Nat.eq_zero_or_pos l.length with h0|h0
 ·exact .inl (by rw[my h0];rfl)
 ·exact .inr ⟨g,rfl,fun j hj=>by rw[Gl]at hj;rw[h.cell hj,Zm l j hj]⟩
theorem sF(n:Nat):madeCells #[Value.int .i64 0] n=iC (List.replicate n 0):=by
 apply Array.ext
 ·simp[madeCells,iC,tQ]
 ·intro i h1 h2
  simp[madeCells,iC,tQ,Nat.mod_one]
theorem fZ:(Tryz.prog.info? 3).map (fun i=>(i.zero,i.size,i.bytes))=some (some (.int .i64 0),1,8):=by kernel_rfl
theorem Gm(a b:List Int):tQ (a++b)=tQ a++tQ b:=by simp[tQ]
end Go.Proofs.YtnbpdffdnphbeabGreatDoor
