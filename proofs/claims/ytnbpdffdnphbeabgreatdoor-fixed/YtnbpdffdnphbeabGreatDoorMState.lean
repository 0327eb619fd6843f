import Derived.Test.YtnbpdffdnphbeabGreatDoorDBase
set_option maxHeartbeats 4000000
set_option maxRecDepth 100000
namespace Go.Proofs.YtnbpdffdnphbeabGreatDoor
open Go.RowKit
variable{l:List Int}{g:Nat}{a:Option Addr}{w' w:World}
structure bJ(w:World)(a:Option Addr)(l:List Bool):Prop where
 cel:bQ w a (sK l)
 few:l.length<=10000
theorem bJ.below{l:List Bool}(h:bJ w a l)(hb:Below w.heap.size w w'):bJ w' a l:=⟨h.cel.below hb,h.few⟩
theorem YU(l:List Bool)(i:Nat)(h:i<l.length):(sK l)[i]? = some (.bool (l.getD i false)):=by simp[sK,List.getD,h]
theorem bJ.at{l:List Bool}(h:bJ w a l){i:Nat}(hi:i<l.length):∃g,a=some ⟨g,0,none⟩/\w.cell? ⟨g,i,none⟩=some (.bool (l.getD i false)):=h.cel.at (YU l i hi)
def qV(l:List Int)(a:Int):Int:=if 0<=a/\a<l.length then l.getD a.toNat 0 else 0
theorem fW(w:World)(la:Option Addr)(lc:Nat)(l:List Bool)(a:Int)(h:bJ w la l) :
 Calls Tryz.prog 168 #[.slice la l.length lc,.int .i64 a] w fun e w'=>e=.returned (.bool (tH l a))/\w'=w:=by
 have hf:=h.few;by_cases h0:0<=a
 ·obtain⟨n,rfl⟩:∃n:Nat,a=(n:Int):=⟨a.toNat,by omega⟩
  by_cases h1:n<l.length
  ·obtain⟨g,rfl,c⟩:=h.at h1
   have HR:Hid (tH l (n:Int)=l.getD n false):=by unfold Hid tH;rw[tl h0,tl (by omega:(n:Int)<l.length)];rfl
   generalize l.getD n false=x at *;have i1:(n:Int)<(l.length:Int):=by omega
   clear h
   go_enter Tryz.func168,Tryz.ntmps168
   go_wp2_with fail
   go_ret
   exact⟨zF HR.out.symm,rfl⟩
  ·have HR:Hid (tH l (n:Int)=false):=by unfold Hid tH;rw[tl h0,tm (by omega:¬(n:Int)<l.length)];rfl
   have i1:¬(n:Int)<(l.length:Int):=by omega
   clear h
   go_enter Tryz.func168,Tryz.ntmps168
   go_wp2_with fail
   go_ret
   exact⟨zF HR.out.symm,rfl⟩
 ·have HR:Hid (tH l a=false):=by unfold Hid tH;rw[tm h0];rfl
  clear h
  go_enter Tryz.func168,Tryz.ntmps168
  go_wp2_with fail
  go_ret
  exact⟨zF HR.out.symm,rfl⟩
theorem Xs(w:World)(la:Option Addr)(lc:Nat)(l:List Int)(a:Int)(h:tF w la l) :
 Calls Tryz.prog 170 #[.slice la l.length lc,.int .i64 a] w fun e w'=>e=.returned (.int .i64 (qV l a))/\w'=w:=by
 have hf:=h.few;by_cases h0:0<=a
 ·obtain⟨n,rfl⟩:∃n:Nat,a=(n:Int):=⟨a.toNat,by omega⟩
  by_cases h1:n<l.length
  ·obtain⟨g,rfl,c⟩:=h.at h1
   have HR:Hid (qV l (n:Int)=l.getD n 0):=by unfold Hid qV;rw[tg ⟨h0,by omega⟩];rfl
   generalize l.getD n 0=x at *;have i1:(n:Int)<(l.length:Int):=by omega
   clear h
   go_enter Tryz.func170,Tryz.ntmps170
   go_wp2_with fail
   go_ret
   exact⟨yN HR.out.symm,rfl⟩
  ·have HR:Hid (qV l (n:Int)=0):=by unfold Hid qV;rw[t7 (by omega)]
   have i1:¬(n:Int)<(l.length:Int):=by omega
   clear h
   go_enter Tryz.func170,Tryz.ntmps170
   go_wp2_with fail
   go_ret
   exact⟨yN HR.out.symm,rfl⟩
 ·have HR:Hid (qV l a=0):=by unfold Hid qV;rw[t7 (by omega)]
  clear h
  go_enter Tryz.func170,Tryz.ntmps170
  go_wp2_with fail
  go_ret
  exact⟨yN HR.out.symm,rfl⟩
structure xZ where
 inputs:List Int
 has:List Bool
 values:List Int
structure dV(w:World)(ia ha va:Option Addr)(s:xZ):Prop where
 inputs:tF w ia s.inputs
 has:bJ w ha s.has
 values:tF w va s.values
theorem dV.below{ia ha va:Option Addr}{s:xZ}(h:dV w ia ha va s)(hb:Below w.heap.size w w'):dV w' ia ha va s:=⟨h.inputs.below hb,h.has.below hb,h.values.below hb⟩
def C0(ia ha va:Option Addr)(ic hc vc:Nat)(s:xZ):Value:=.agg #[.slice ia s.inputs.length ic,.slice ha s.has.length hc,.slice va s.values.length vc]
def Vu(x:jQ)(s:xZ):Bool :=
 if qV s.inputs x.place<(if x.two then qV s.inputs x.other else x.num) then x.less else if (if x.two then qV s.inputs x.other else x.num)<qV s.inputs x.place then x.more else x.equal
def K2(x:jQ)(s:xZ)(hs:List Bool):Bool :=
 if x.kind=1 then tH hs x.left || tH hs x.right else if x.kind=2 then tH hs x.left&&tH hs x.right else if x.kind=3 then !tH hs x.left
 else if x.kind=4 then true else if x.kind=5 then tH s.has x.place else if x.kind=6 then decide (qV s.inputs x.place=1) else if x.kind=7 then Vu x s else false
theorem Vs(w:World)(ia ha va:Option Addr)(ic hc vc:Nat)(s:xZ)(x:jQ)(h:dV w ia ha va s) :
 Calls Tryz.prog 187 #[dI x,C0 ia ha va ic hc vc s] w fun e w'=>e=.returned (.bool (Vu x s))/\Below w.heap.size w w':=by
 have HN:=zA (fun w' (hb:Below w.heap.size w w') a=>Xs w' ia ic s.inputs a (h.inputs.below hb));have HC:Hid (Vu x s=if qV s.inputs x.place<(if x.two then qV s.inputs x.other else x.num) then x.less else if (if x.two then qV s.inputs x.other else x.num)<qV s.inputs x.place then x.more else x.equal):=rfl;obtain⟨kd,lf',rg',pl,two,ot,nu,le,eq,mo⟩:=x;simp only[dI,C0]at *;have HN1:=zA (fun w' hb=>HN.out w' hb pl);have HN2:=zA (fun w' hb=>HN.out w' hb ot);clear HN h;generalize qV s.inputs pl=p1 at *;generalize qV s.inputs ot=p2 at *;generalize Vu ⟨kd,lf',rg',pl,two,ot,nu,le,eq,mo⟩ s=ans at *;have hb0:∀o1 o2,Below w.heap.size w ((w.alloc o1).alloc o2):=fun o1 o2=>(da (j1 _) _).alloc (by simp) _;have HB0:=zA hb0;clear hb0;cases two
 ·simp only[Bool.false_eq_true,if_false]at HC
  by_cases k1:p1<nu
  ·rw[tg k1]at HC
   go_enter Tryz.func187,Tryz.ntmps187
   go_wp2_with fail
   refine(HN1.out _ (HB0.out _ _)).mono ?_;rintro e w' ⟨rfl,hw⟩;obtain rfl:=hw.symm;go_wp2_with fail
   go_ret
   exact⟨zF HC.out.symm,HB0.out _ _⟩
  ·rw[t7 k1]at HC
   by_cases k2:nu<p1
   ·rw[tg k2]at HC
    go_enter Tryz.func187,Tryz.ntmps187
    go_wp2_with fail
    refine(HN1.out _ (HB0.out _ _)).mono ?_;rintro e w' ⟨rfl,hw⟩;obtain rfl:=hw.symm;go_wp2_with fail
    go_ret
    exact⟨zF HC.out.symm,HB0.out _ _⟩
   ·rw[t7 k2]at HC
    go_enter Tryz.func187,Tryz.ntmps187
    go_wp2_with fail
    refine(HN1.out _ (HB0.out _ _)).mono ?_;rintro e w' ⟨rfl,hw⟩;obtain rfl:=hw.symm;go_wp2_with fail
    go_ret
    exact⟨zF HC.out.symm,HB0.out _ _⟩
 ·simp only[if_true]at HC
  by_cases k1:p1<p2
  ·rw[tg k1]at HC
   go_enter Tryz.func187,Tryz.ntmps187
   go_wp2_with fail
   refine(HN1.out _ (HB0.out _ _)).mono ?_;rintro e w' ⟨rfl,hw⟩;obtain rfl:=hw.symm;go_wp2_with fail
   refine(HN2.out _ (HB0.out _ _)).mono ?_;rintro e w' ⟨rfl,hw⟩;obtain rfl:=hw.symm;go_wp2_with fail
   go_ret
   exact⟨zF HC.out.symm,HB0.out _ _⟩
  ·rw[t7 k1]at HC
   by_cases k2:p2<p1
   ·rw[tg k2]at HC
    go_enter Tryz.func187,Tryz.ntmps187
    go_wp2_with fail
    refine(HN1.out _ (HB0.out _ _)).mono ?_;rintro e w' ⟨rfl,hw⟩;obtain rfl:=hw.symm;go_wp2_with fail
    refine(HN2.out _ (HB0.out _ _)).mono ?_;rintro e w' ⟨rfl,hw⟩;obtain rfl:=hw.symm;go_wp2_with fail
    go_ret
    exact⟨zF HC.out.symm,HB0.out _ _⟩
   ·rw[t7 k2]at HC
    go_enter Tryz.func187,Tryz.ntmps187
    go_wp2_with fail
    refine(HN1.out _ (HB0.out _ _)).mono ?_;rintro e w' ⟨rfl,hw⟩;obtain rfl:=hw.symm;go_wp2_with fail
    refine(HN2.out _ (HB0.out _ _)).mono ?_;rintro e w' ⟨rfl,hw⟩;obtain rfl:=hw.symm;go_wp2_with fail
    go_ret
    exact⟨zF HC.out.symm,HB0.out _ _⟩
theorem DK(w:World)(ia ha va ea:Option Addr)(ic hc vc ec:Nat)(s:xZ)(hs:List Bool)(x:jQ)(h:dV w ia ha va s)(he:bJ w ea hs) :
 Calls Tryz.prog 169 #[dI x,C0 ia ha va ic hc vc s,.slice ea hs.length ec] w fun e w'=>e=.returned (.bool (K2 x s hs))/\Below w.heap.size w w':=by
 have HL:=zA (fun w' (hb:Below w.heap.size w w')=>fW w' ea ec hs x.left (he.below hb));have HR:=zA (fun w' (hb:Below w.heap.size w w')=>fW w' ea ec hs x.right (he.below hb));have HH:=zA (fun w' (hb:Below w.heap.size w w')=>fW w' ha hc s.has x.place (h.has.below hb));have HN:=zA (fun w' (hb:Below w.heap.size w w')=>Xs w' ia ic s.inputs x.place (h.inputs.below hb));have HC:=zA (fun w' (hb:Below w.heap.size w w')=>Vs w' ia ha va ic hc vc s x (h.below hb))
 have HA:Hid (K2 x s hs=if x.kind=1 then tH hs x.left || tH hs x.right else if x.kind=2 then tH hs x.left&&tH hs x.right else if x.kind=3 then !tH hs x.left
  else if x.kind=4 then true else if x.kind=5 then tH s.has x.place else if x.kind=6 then decide (qV s.inputs x.place=1) else if x.kind=7 then Vu x s else false):=rfl
 have HB0:=zA (show ∀o1 o2,Below w.heap.size w ((w.alloc o1).alloc o2) from fun o1 o2=>(da (j1 _) _).alloc (by simp) _);generalize K2 x s hs=ans at *;generalize Vu x s=cm at *;obtain⟨kd,lf',rg',pl,two,ot,nu,le,eq,mo⟩:=x;simp only[dI,C0]at *;clear h he;generalize tH hs lf'=pL at *;generalize tH hs rg'=pR at *;generalize tH s.has pl=pH at *;generalize qV s.inputs pl=pN at *;by_cases k1:kd=1
 ·subst k1
  rw[tg rfl]at HA;cases pL
  ·simp only[lk]at HA
   go_enter Tryz.func169,Tryz.ntmps169
   go_wp2_with fail
   refine(HL.out _ (HB0.out _ _)).mono ?_;rintro e w' ⟨rfl,hw⟩;obtain rfl:=hw.symm;go_wp2_with fail
   refine(HR.out _ (HB0.out _ _)).mono ?_;rintro e w' ⟨rfl,hw⟩;obtain rfl:=hw.symm;go_wp2_with fail
   go_ret
   exact⟨zF HA.out.symm,HB0.out _ _⟩
  ·simp only[d8]at HA
   go_enter Tryz.func169,Tryz.ntmps169
   go_wp2_with fail
   refine(HL.out _ (HB0.out _ _)).mono ?_;rintro e w' ⟨rfl,hw⟩;obtain rfl:=hw.symm;go_wp2_with fail
   go_ret
   exact⟨zF HA.out.symm,HB0.out _ _⟩
 by_cases k2:kd=2
 ·subst k2
  rw[t7 (by decide),tg rfl]at HA;cases pL
  ·simp only[bp]at HA
   go_enter Tryz.func169,Tryz.ntmps169
   go_wp2_with fail
   refine(HL.out _ (HB0.out _ _)).mono ?_;rintro e w' ⟨rfl,hw⟩;obtain rfl:=hw.symm;go_wp2_with fail
   go_ret
   exact⟨zF HA.out.symm,HB0.out _ _⟩
  ·simp only[mh]at HA
   go_enter Tryz.func169,Tryz.ntmps169
   go_wp2_with fail
   refine(HL.out _ (HB0.out _ _)).mono ?_;rintro e w' ⟨rfl,hw⟩;obtain rfl:=hw.symm;go_wp2_with fail
   refine(HR.out _ (HB0.out _ _)).mono ?_;rintro e w' ⟨rfl,hw⟩;obtain rfl:=hw.symm;go_wp2_with fail
   go_ret
   exact⟨zF HA.out.symm,HB0.out _ _⟩
 by_cases k3:kd=3
 ·subst k3
  rw[t7 (by decide),t7 (by decide),tg rfl]at HA
  go_enter Tryz.func169,Tryz.ntmps169
  go_wp2_with fail
  refine(HL.out _ (HB0.out _ _)).mono ?_;rintro e w' ⟨rfl,hw⟩;obtain rfl:=hw.symm;go_wp2_with fail
  go_ret
  exact⟨zF HA.out.symm,HB0.out _ _⟩
 by_cases k4:kd=4
 ·subst k4
  rw[t7 (by decide),t7 (by decide),t7 (by decide),tg rfl]at HA
  go_enter Tryz.func169,Tryz.ntmps169
  go_wp2_with fail
  go_ret
  exact⟨zF HA.out.symm,HB0.out _ _⟩
 by_cases k5:kd=5
 ·subst k5
  rw[t7 (by decide),t7 (by decide),t7 (by decide),t7 (by decide),tg rfl]at HA
  go_enter Tryz.func169,Tryz.ntmps169
  go_wp2_with fail
  refine(HH.out _ (HB0.out _ _)).mono ?_;rintro e w' ⟨rfl,hw⟩;obtain rfl:=hw.symm;go_wp2_with fail
  go_ret
  exact⟨zF HA.out.symm,HB0.out _ _⟩
 by_cases k6:kd=6
 ·subst k6
  rw[t7 (by decide),t7 (by decide),t7 (by decide),t7 (by decide),t7 (by decide),tg rfl]at HA;have hd:decide (pN=1)=(pN==1):=by rw[cp];simp
  rw[hd]at HA;clear hd
  go_enter Tryz.func169,Tryz.ntmps169
  go_wp2_with fail
  refine(HN.out _ (HB0.out _ _)).mono ?_;rintro e w' ⟨rfl,hw⟩;obtain rfl:=hw.symm;go_wp2_with fail
  go_ret
  exact⟨zF HA.out.symm,HB0.out _ _⟩
 by_cases k7:kd=7
 ·subst k7
  rw[t7 (by decide),t7 (by decide),t7 (by decide),t7 (by decide),t7 (by decide),t7 (by decide),tg rfl]at HA
  go_enter Tryz.func169,Tryz.ntmps169
  go_wp2_with fail
  refine(HC.out _ (HB0.out _ _)).mono ?_;rintro e w2 ⟨rfl,hb2⟩;have HB2:Hid (Below w.heap.size w w2):=(HB0.out _ _).trans (hb2.mono (HB0.out _ _).size);clear hb2;go_wp2_with fail
  go_ret
  exact⟨zF HA.out.symm,HB2.out⟩
 ·rw[t7 k1,t7 k2,t7 k3,t7 k4,t7 k5,t7 k6,t7 k7]at HA
  have b1:(kd==1)=false:=by simpa using k1
  have b2:(kd==2)=false:=by simpa using k2
  have b3:(kd==3)=false:=by simpa using k3
  have b4:(kd==4)=false:=by simpa using k4
  have b5:(kd==5)=false:=by simpa using k5
  have b6:(kd==6)=false:=by simpa using k6
  have b7:(kd==7)=false:=by simpa using k7
  clear k1 k2 k3 k4 k5 k6 k7
  go_enter Tryz.func169,Tryz.ntmps169
  go_wp2_with fail
  go_ret
  exact⟨zF HA.out.symm,HB0.out _ _⟩
theorem G6{α:Type}(p:α->Bool)(d:α)(l:List α)(i:Nat)(h:i<l.length):(l.drop i).all p=(p (l.getD i d)&&(l.drop (i+1)).all p):=by
 rw[pe h,List.all_cons];simp[List.getD,h]
theorem Ja{α:Type}{l:List α}{i:Nat}(d:α)(h:i<l.length):l.getD i d∈l:=by simp[List.getD,h]
def cF:Int:=1152921504606846976
def dP(s:xZ):List jQ->List Bool->List Bool
 | [],hs=>hs
 | x::r,hs=>dP s r (hs++[K2 x s hs])
def jU(s:xZ)(l:List mK):Bool:=l.all fun p => !(decide (p.kind=3) && !tH s.has p.place)
def iD(r:tX)(s:xZ):Bool:=jU s r.sum&&tH (dP s r.guard []) r.root
theorem BH(s:xZ)(l:List jQ)(i:Nat)(hs:List Bool)(h:i<l.length):dP s (l.drop i) hs=dP s (l.drop (i+1)) (hs++[K2 (l.getD i XY) s hs]):=by
 rw[pe h,dP];simp[List.getD,h]
theorem Xz(hs:List Bool)(n:Nat)(a:Int):tH (hs++List.replicate n false) a=tH hs a:=by
 unfold tH;by_cases h0:0<=a
 ·by_cases h1:a<hs.length
  ·rw[tl h1,tl (show a<((hs++List.replicate n false).length:Int) by simp;omega)]
   simp[List.getD,pm (show a.toNat<hs.length by omega)]
  ·rw[tm h1]
   have:(hs++List.replicate n false).getD a.toNat false=false:=by
    rw[List.getD,ma (by omega),bf];split <;> rfl
   rw[this];simp
 ·rw[tm h0];rfl
theorem xx(x:jQ)(s:xZ)(hs:List Bool)(n:Nat):K2 x s (hs++List.replicate n false)=K2 x s hs:=by
 unfold K2;rw[Xz,Xz]
theorem uX.bools{l:List Bool}(h:uX w g l)(hf:l.length<=10000):bJ w (some ⟨g,0,none⟩) l :=
 ⟨.inr ⟨g,rfl,fun j hj=>by rw[Ci]at hj;rw[h.cell hj,YU l j hj]⟩,hf⟩
theorem x8(hs:List Bool)(i n:Nat)(z:Bool)(h:hs.length=i)(hn:i<n):(hs++List.replicate (n-i) false).set i z=(hs++[z])++List.replicate (n-(i+1)) false:=by
 rw[List.set_append_right _ _ (by omega),show i-hs.length=0 by omega,show n-i=(n-(i+1))+1 by omega,List.replicate_succ,List.set_cons_zero];simp
theorem K7(w:World)(ia ha va:Option Addr)(ic hc vc:Nat)(s:xZ)(x:MX)(hx:qQ w x)(h:dV w ia ha va s) :
 Calls Tryz.prog 132 #[dH x,C0 ia ha va ic hc vc s] w fun e w'=>e=.returned (.bool (iD x.1 s))/\Below w.heap.size w w':=by
 obtain⟨pa,pc,e1,hp⟩:=hx.sum;obtain⟨ga,gc,e2,hg⟩:=hx.guard;have hfp:=hx.few1;have hfg:=hx.few2;have HP:=zA hp.cel;have HG:=zA hg.cel;have HS:=zA h;have HA:Hid (iD x.1 s=(jU s x.1.sum&&tH (dP s x.1.guard []) x.1.root)):=rfl;obtain⟨⟨lab,cc,ps,gd,root⟩,pv,gv⟩:=x;simp only at e1 e2 HP HG hfp hfg HA;subst e1 e2;simp only[dH,C0];clear hx hp hg h;generalize iD ⟨lab,cc,ps,gd,root⟩ s=ans at *
 go_enter Tryz.func132,Tryz.ntmps132
 go_wp2_with fail
 generalize hO1:Obj.cells #[.string ⟨lab.toArray⟩,.int .i64 cc,.slice pa ps.length pc,.slice ga gd.length gc,.int .i64 root] 162=O1 at *;generalize hO2:Obj.cells #[.slice ia s.inputs.length ic,.slice ha s.has.length hc,.slice va s.values.length vc] 168=O2 at *;have y0:((w.alloc O1).alloc O2).heap[w.heap.size]? = some O1:=zZ (zH _ _)
 have y1:((w.alloc O1).alloc O2).heap[w.heap.size+1]? = some O2:=by
  have h9:=zH (w.alloc O1) O2;rw[show (w.alloc O1).heap.size=w.heap.size+1 by simp]at h9;exact h9
 have hb0:Below w.heap.size w ((w.alloc O1).alloc O2):=(da (j1 _) _).alloc (by simp) _;have hs0:((w.alloc O1).alloc O2).heap.size=w.heap.size+2:=by simp
 have HO1:=zA hO1;have HO2:=zA hO2;clear hO1 hO2;generalize (w.alloc O1).alloc O2=w0 at *;have HY0:=zA y0;have HY1:=zA y1;have HB0:=zA hb0;clear y0 y1 hb0
 go_loopw [14] (fun iv wr=>∃(i:Nat),i<=ps.length/\iv=.int .i64 i/\Hid (Below w0.heap.size w0 wr)/\Hid ((jU s (ps.drop i)&&tH (dP s gd []) root)=ans)) (fun iv _=>ps.length-(intOf iv).toNat)
 case atStart=>exact⟨0,tq _,rfl,zA (t9 _ _),zA HA.out.symm⟩
 case round =>
  obtain⟨i,hi,rfl,HB,HE⟩:=hrel;have hszr:=HB.out.size;have zEQ:Hid (Below w.heap.size w wr):=HB0.out.trans (HB.out.mono (by omega));have x1:wr.heap[w.heap.size+1]? = some O2:=by rw[HB.out.block _ (by omega)];exact HY1.out
  rw[<-HO2.out]at x1;have x0:wr.heap[w.heap.size]? = some O1:=by rw[HB.out.block _ (by omega)];exact HY0.out
  rw[<-HO1.out]at x0;by_cases zE9:i<ps.length
  ·have hpr:=HP.out.below zEQ.out
   obtain⟨gp,rfl,q0⟩:=hpr.at ((zY pP 3 (fun _=>rfl) DH ps i 0 zE9 (by decide)).trans rfl);have q1:=(hpr.at ((zY pP 3 (fun _=>rfl) DH ps i 1 zE9 (by decide)).trans rfl)).elim fun g' h=>(show gp=g' by simpa using h.1) ▸ h.2;have q2:=(hpr.at ((zY pP 3 (fun _=>rfl) DH ps i 2 zE9 (by decide)).trans rfl)).elim fun g' h=>(show gp=g' by simpa using h.1) ▸ h.2;rw[mj]at q0;have c1:=zC x1 1;simp only[mz,cf,bg]at c1;have hE:=HE.out;unfold jU at hE;rw[G6 _ DH _ i zE9]at hE;have HE2:=zA hE;have lgp:=yO q0;have mgp:wr.heap.size≠gp:=by omega
   have m1:wr.heap.size≠w.heap.size+1:=by omega
   have m2:w.heap.size+1<wr.heap.size:=by omega
   have HI:=zA (fun w' (hb:Below w.heap.size w w') a=>fW w' ha hc s.has a (HS.out.has.below hb));clear HE hE hpr x0 x1;generalize ps.getD i DH=p at *;obtain⟨pk,pn,pl⟩:=p;simp only at q0 q1 q2 HE2;by_cases k1:pk=3
   ·subst k1
    have HI1:=zA (fun w' hb=>HI.out w' hb pl);clear HI;generalize tH s.has pl=tv at *;cases tv
    ·have HE3:Hid (ans=false):=by have:=HE2.out;simpa[Hid] using this.symm
     go_wp2_with fail
     refine(HI1.out _ (zEQ.out.alloc (by omega) _)).mono ?_;rintro e w' ⟨rfl,hw⟩;obtain rfl:=hw.symm;go_wp2_with fail
     go_ret
     exact⟨zF HE3.out.symm,zEQ.out.alloc (by omega) _⟩
    ·have HE3:Hid ((jU s (ps.drop (i+1))&&tH (dP s gd []) root)=ans):=by have:=HE2.out;simpa[jU,Hid] using this
     go_wp2_with fail
     refine(HI1.out _ (zEQ.out.alloc (by omega) _)).mono ?_;rintro e w' ⟨rfl,hw⟩;obtain rfl:=hw.symm;go_wp2_with fail
     go_roundw
     case rel=>exact⟨i+1,by omega,by go_num,zA (HB.out.alloc hszr _),HE3⟩
     case measure=>simp[intOf];omega
   ·have HE3:Hid ((jU s (ps.drop (i+1))&&tH (dP s gd []) root)=ans):=by have:=HE2.out;simpa[jU,Hid,k1] using this
    have b1:(pk==3)=false:=by simpa using k1
    clear k1;go_wp2_with fail
    go_roundw
    case rel=>exact⟨i+1,by omega,by go_num,zA (HB.out.alloc hszr _),HE3⟩
    case measure=>simp[intOf];omega
  ·have HE3:Hid (tH (dP s gd []) root=ans):=by have:=HE.out;rw[p8 (by omega)]at this;simpa[jU,Hid] using this
   have c3:=zC x0 3;have c4:=zC x0 4;simp only[mz,cf,bg]at c3 c4;have m2:w.heap.size<wr.heap.size:=by omega
   have m3:wr.heap.size≠w.heap.size:=by omega
   clear HE;have zES:=zEQ;have hsw:w.heap.size+2<=wr.heap.size:=by omega
   have HX0:=zA x0;have HX1:=zA x1;have hmk:=run_make_row' (P:=Tryz.prog) 166 4 (.bool false) 1 Tryz.underlying166 cP rfl .i64 .i64 gd.length (by omega) (by omega);rw[dJ]at hmk;clear x0 x1;go_wp2_with fail
   have HM0:Hid (uX (wr.alloc (.cells (gC (List.replicate gd.length false)) 4)) wr.heap.size ([]++List.replicate (gd.length-0) false)):=zH _ _;clear c3 c4 m2 m3 hmk;generalize hwq:wr=wq at *;clear hwq
   go_loopw [37] (fun iv wr=>∃(i:Nat) (hs:List Bool),i<=gd.length/\Hid (hs.length=i)/\iv=.int .i64 i/\Hid (uX wr wq.heap.size (hs++List.replicate (gd.length-i) false))/\Hid (Below wq.heap.size wq wr)/\wq.heap.size<wr.heap.size/\Hid (dP s (gd.drop i) hs=dP s gd [])) (fun iv _=>gd.length-(intOf iv).toNat)
   case atStart=>exact⟨0,[],tq _,zA rfl,rfl,HM0,zA (da (j1 _) _),by simp,zA rfl⟩
   case round =>
    obtain⟨i,hs,hi,HHl,rfl,HM,HBz,hszz,HEz⟩:=hrel;have HBy:Hid (Below w.heap.size w wr):=zES.out.trans (HBz.out.mono (by omega));have x0:wr.heap[w.heap.size]? = _:=(HBz.out.block _ (by omega)).trans HX0.out;have x1:wr.heap[w.heap.size+1]? = _:=(HBz.out.block _ (by omega)).trans HX1.out;have zEE:(hs++List.replicate (gd.length-i) false).length=gd.length:=by have:=HHl.out;simp;omega
    have HLen:=zA zEE;have HBo:Hid (bJ wr (some ⟨wq.heap.size,0,none⟩) (hs++List.replicate (gd.length-i) false)):=HM.out.bools (by rw[zEE];exact hfg);clear zEE;by_cases zEJ:i<gd.length
    ·have hpr:=HG.out.below HBy.out
     obtain⟨gp,rfl,q0⟩:=hpr.at ((zY jJ 10 (fun _=>rfl) XY gd i 0 zEJ (by decide)).trans rfl);have q1:=(hpr.at ((zY jJ 10 (fun _=>rfl) XY gd i 1 zEJ (by decide)).trans rfl)).elim fun g' h=>(show gp=g' by simpa using h.1) ▸ h.2;have q2:=(hpr.at ((zY jJ 10 (fun _=>rfl) XY gd i 2 zEJ (by decide)).trans rfl)).elim fun g' h=>(show gp=g' by simpa using h.1) ▸ h.2;have q3:=(hpr.at ((zY jJ 10 (fun _=>rfl) XY gd i 3 zEJ (by decide)).trans rfl)).elim fun g' h=>(show gp=g' by simpa using h.1) ▸ h.2;have q4:=(hpr.at ((zY jJ 10 (fun _=>rfl) XY gd i 4 zEJ (by decide)).trans rfl)).elim fun g' h=>(show gp=g' by simpa using h.1) ▸ h.2;have q5:=(hpr.at ((zY jJ 10 (fun _=>rfl) XY gd i 5 zEJ (by decide)).trans rfl)).elim fun g' h=>(show gp=g' by simpa using h.1) ▸ h.2;have q6:=(hpr.at ((zY jJ 10 (fun _=>rfl) XY gd i 6 zEJ (by decide)).trans rfl)).elim fun g' h=>(show gp=g' by simpa using h.1) ▸ h.2;have q7:=(hpr.at ((zY jJ 10 (fun _=>rfl) XY gd i 7 zEJ (by decide)).trans rfl)).elim fun g' h=>(show gp=g' by simpa using h.1) ▸ h.2;have q8:=(hpr.at ((zY jJ 10 (fun _=>rfl) XY gd i 8 zEJ (by decide)).trans rfl)).elim fun g' h=>(show gp=g' by simpa using h.1) ▸ h.2;have q9:=(hpr.at ((zY jJ 10 (fun _=>rfl) XY gd i 9 zEJ (by decide)).trans rfl)).elim fun g' h=>(show gp=g' by simpa using h.1) ▸ h.2;rw[mj]at q0;have d0:=zC x1 0;have d1:=zC x1 1;have d2:=zC x1 2;simp only[mz,cf,bg]at d0 d1 d2;have hE:=HEz.out;rw[BH s gd i hs zEJ]at hE;have HE4:=zA hE;have lgp:=yO q0;have mgp:wr.heap.size≠gp:=by omega
     have m1:wr.heap.size≠w.heap.size+1:=by omega
     have m2:w.heap.size+1<wr.heap.size:=by omega
     have HHo:Hid (∀o,Calls Tryz.prog 169 #[dI (gd.getD i XY),C0 ia ha va ic hc vc s,.slice (some ⟨wq.heap.size,0,none⟩) gd.length gd.length] (wr.alloc o) fun e w'=>e=.returned (.bool (K2 (gd.getD i XY) s hs))/\Below (wr.alloc o).heap.size (wr.alloc o) w'):=fun o=>by
      have h9:=DK (wr.alloc o) ia ha va (some ⟨wq.heap.size,0,none⟩) ic hc vc gd.length s (hs++List.replicate (gd.length-i) false) (gd.getD i XY) (HS.out.below (HBy.out.alloc (by omega) o)) (HBo.out.below (da (j1 _) o));rw[xx,HLen.out]at h9;exact h9
     have HSt:Hid (∀z,(hs++List.replicate (gd.length-i) false).set i z=(hs++[z])++List.replicate (gd.length-(i+1)) false):=fun z=>x8 hs i gd.length z HHl.out zEJ
     have HCl:Hid (∀w5,Below wr.heap.size wr w5->∃v,w5.cell? ⟨wq.heap.size,i,none⟩=some (.bool v)):=fun w5 hb5=>by
      exact⟨_,(hb5.cell (p:=⟨wq.heap.size,i,none⟩) hszz).trans (HM.out.cell (by rw[HLen.out];exact zEJ))⟩
     clear hE hpr x0 x1 HEz;generalize gd.getD i XY=nd at *;generalize K2 nd s hs=z at *;obtain⟨n0,n1,n2,n3,n4,n5,n6,n7,n8,n9⟩:=nd;simp only[dI,C0]at HHo;simp only at q0 q1 q2 q3 q4 q5 q6 q7 q8 q9;go_wp2_with fail
     refine(HHo.out _).mono ?_;rintro e w5 ⟨rfl,hb5⟩;have HB5:Hid (Below wr.heap.size wr w5):=(da (j1 _) _).trans (hb5.mono (by simp));have HM5:=zA (HM.out.below HB5.out);have hs5:=HB5.out.size;obtain⟨oldz,hcz⟩:=HCl.out w5 HB5.out;have hfz:=HM5.out.free i;have HM6:Hid (uX (w5.setCell ⟨wq.heap.size,i,none⟩ (.bool z)) wq.heap.size ((hs++[z])++List.replicate (gd.length-(i+1)) false)):=by unfold Hid;rw[<-HSt.out z];exact HM5.out.set i z
     have HB6:Hid (Below wq.heap.size wq (w5.setCell ⟨wq.heap.size,i,none⟩ (.bool z))):=(HBz.out.trans (HB5.out.mono (p6 hszz))).setCell (p:=⟨wq.heap.size,i,none⟩) (j1 _) _;have hs6:wq.heap.size<(w5.setCell ⟨wq.heap.size,i,none⟩ (.bool z)).heap.size:=by have:=HM6.out.lt;exact this
     clear hb5 HHo HCl;go_wp2_with fail
     go_roundw
     case rel=>exact⟨i+1,hs++[z],by omega,zA (by have:=HHl.out;simp;omega),by go_num,HM6,HB6,hs6,HE4⟩
     case measure=>simp[intOf];omega
    ·have HE5:Hid (tH hs root=ans):=by have:=HEz.out;rw[p8 (by omega)]at this;have h9:=HE3.out;rw[<-this]at h9;exact h9
     have d4:=zC x0 4;simp only[mz,cf,bg]at d4
     have HI:Hid (Calls Tryz.prog 168 #[.slice (some ⟨wq.heap.size,0,none⟩) gd.length gd.length,.int .i64 root] wr fun e w'=>e=.returned (.bool ans)/\w'=wr):=by
      have h9:=fW wr (some ⟨wq.heap.size,0,none⟩) gd.length (hs++List.replicate (gd.length-i) false) root HBo.out;rw[Xz,HE5.out,HLen.out]at h9;exact h9
     clear x0 x1;go_wp2_with fail
     refine HI.out.mono ?_;rintro e w' ⟨rfl,hw⟩;obtain rfl:=hw.symm;go_wp2_with fail
     go_ret
     exact⟨rfl,HBy.out⟩
def mC(s:xZ)(p:mK):Int:=if p.kind=1 then p.num else if p.kind=2 then p.num*qV s.inputs p.place else if p.kind=3 then p.num*qV s.values p.place else 0
def mU(s:xZ):List mK->Int->Int
 | [],n=>n
 | p::r,n=>mU s r (n+mC s p)
def rB(s:xZ)(l:List mK):Int:=mU s l 0
theorem JR(s:xZ)(l:List mK)(i:Nat)(n:Int)(h:i<l.length):mU s (l.drop i) n=mU s (l.drop (i+1)) (n+mC s (l.getD i DH)):=by
 rw[pe h,mU];simp[List.getD,h]
def wN(s:xZ)(l:List mK):Prop:=l.length<=4/\∀p∈l,-cF<=mC s p/\mC s p<=cF
theorem zB2(w:World)(ia ha va:Option Addr)(ic hc vc:Nat)(s:xZ)(x:MX)(hx:qQ w x)(h:dV w ia ha va s)(zEI:wN s x.1.sum) :
 Calls Tryz.prog 134 #[dH x,C0 ia ha va ic hc vc s] w fun e w'=>e=.returned (.int .i64 (rB s x.1.sum))/\Below w.heap.size w w':=by
 obtain⟨pa,pc,e1,hp⟩:=hx.sum;obtain⟨ga,gc,e2,-⟩:=hx.guard;have HP:=zA hp.cel;have HS:=zA h;have h4:=zEI.1;have HOk:=zA zEI.2;obtain⟨⟨lab,cc,ps,gd,root⟩,pv,gv⟩:=x;simp only at e1 e2 HP HOk h4;subst e1 e2;simp only[dH,C0];clear hx hp h zEI
 go_enter Tryz.func134,Tryz.ntmps134
 go_wp2_with fail
 generalize hO1:Obj.cells #[.string ⟨lab.toArray⟩,.int .i64 cc,.slice pa ps.length pc,.slice ga gd.length gc,.int .i64 root] 162=O1 at *;generalize hO2:Obj.cells #[.slice ia s.inputs.length ic,.slice ha s.has.length hc,.slice va s.values.length vc] 168=O2 at *
 have y1:((w.alloc O1).alloc O2).heap[w.heap.size+1]? = some O2:=by
  have h9:=zH (w.alloc O1) O2;rw[show (w.alloc O1).heap.size=w.heap.size+1 by simp]at h9;exact h9
 have hb0:Below w.heap.size w ((w.alloc O1).alloc O2):=(da (j1 _) _).alloc (by simp) _;have hs0:((w.alloc O1).alloc O2).heap.size=w.heap.size+2:=by simp
 have HO2:=zA hO2;clear hO1 hO2;generalize (w.alloc O1).alloc O2=w0 at *;have HY1:=zA y1;have HB0:=zA hb0;clear y1 hb0
 go_loopw [5,11] (fun nv iv wr=>∃(i:Nat) (n:Int),i<=ps.length/\nv=.int .i64 n/\iv=.int .i64 i /\ -((i:Int)*cF)<=n/\n<=(i:Int)*cF/\Hid (Below w0.heap.size w0 wr)/\Hid (mU s (ps.drop i) n=rB s ps)) (fun _ iv _=>ps.length-(intOf iv).toNat)
 case atStart=>exact⟨0,0,tq _,rfl,rfl,by simp,by simp,zA (t9 _ _),zA rfl⟩
 case round =>
  obtain⟨i,n,hii,rfl,rfl,hn1,hn2,HB,HE⟩:=hrel;have hszr:=HB.out.size;have zEQ:Hid (Below w.heap.size w wr):=HB0.out.trans (HB.out.mono (by omega));have x1:wr.heap[w.heap.size+1]? = some O2:=by rw[HB.out.block _ (by omega)];exact HY1.out
  rw[<-HO2.out]at x1;by_cases zE9:i<ps.length
  ·have hpr:=HP.out.below zEQ.out
   obtain⟨gp,rfl,q0⟩:=hpr.at ((zY pP 3 (fun _=>rfl) DH ps i 0 zE9 (by decide)).trans rfl);have q1:=(hpr.at ((zY pP 3 (fun _=>rfl) DH ps i 1 zE9 (by decide)).trans rfl)).elim fun g' h=>(show gp=g' by simpa using h.1) ▸ h.2;have q2:=(hpr.at ((zY pP 3 (fun _=>rfl) DH ps i 2 zE9 (by decide)).trans rfl)).elim fun g' h=>(show gp=g' by simpa using h.1) ▸ h.2;rw[mj]at q0;have c0:=zC x1 0;have c2:=zC x1 2;simp only[mz,cf,bg]at c0 c2;have hE:=HE.out;rw[JR s ps i n zE9]at hE;obtain⟨p1,p2⟩:=HOk.out _ (Ja DH zE9);have HE2:=zA hE;have lgp:=yO q0;have mgp:wr.heap.size≠gp:=by omega
   have m1:wr.heap.size≠w.heap.size+1:=by omega
   have m2:w.heap.size+1<wr.heap.size:=by omega
   have hm1:(i:Int)*cF+cF=((i+1:Nat):Int)*cF:=by rw[Int.natCast_add,Int.add_mul];simp
   have hm2:(i:Int)*cF<=3*cF:=by have:i=0\/i=1\/i=2\/i=3:=by omega
                                 rcases this with rfl|rfl|rfl|rfl <;> decide
   have HNi:=zA (fun w' (hb:Below w.heap.size w w') a=>Xs w' ia ic s.inputs a (HS.out.inputs.below hb));have HNv:=zA (fun w' (hb:Below w.heap.size w w') a=>Xs w' va vc s.values a (HS.out.values.below hb));clear HE hE hpr x1;generalize ps.getD i DH=p at *;obtain⟨pk,pn,pl⟩:=p;unfold mC at p1 p2 HE2;simp only at q0 q1 q2 p1 p2 HE2;have HN1:=zA (fun w' hb=>HNi.out w' hb pl);have HN2:=zA (fun w' hb=>HNv.out w' hb pl);clear HNi HNv;generalize qV s.inputs pl=vi at *;generalize qV s.values pl=vv at *;by_cases k1:pk=1
   ·subst k1
    simp only[if_true]at p1 p2 HE2;generalize ((i:Int)*cF)=iM at *;unfold cF at *;go_wp2_with fail
    go_roundw
    case rel=>exact⟨i+1,n+pn,by omega,by first|rfl|go_num,by go_num,by omega,by omega,zA (HB.out.alloc hszr _),HE2⟩
    case measure=>simp[intOf];omega
   rw[t7 k1]at p1 p2 HE2;by_cases k2:pk=2
   ·subst k2
    simp only[if_true]at p1 p2 HE2;obtain⟨q,hq⟩:∃q,q=pn*vi:=⟨_,rfl⟩;rw[<-hq]at p1 p2 HE2;have hwq:wrap64 (pn*vi)=q:=by rw[<-hq];unfold wrap64;unfold cF at p1 p2;omega
    clear hq k1;generalize ((i:Int)*cF)=iM at *;unfold cF at *;go_wp2_with fail
    go_quiet (first|(go_at_call 170;refine Calls.quiet_of_same (HN1.out _ (xD (zEQ.out.alloc (by omega) _) _))))
    go_wp2_with fail
    go_roundw
    case rel=>exact⟨i+1,n+q,by omega,by first|rfl|go_num,by go_num,by omega,by omega,zA (xD (HB.out.alloc hszr _) _),HE2⟩
    case measure=>simp[intOf];omega
   rw[t7 k2]at p1 p2 HE2;by_cases k3:pk=3
   ·subst k3
    simp only[if_true]at p1 p2 HE2;obtain⟨q,hq⟩:∃q,q=pn*vv:=⟨_,rfl⟩;rw[<-hq]at p1 p2 HE2;have hwq:wrap64 (pn*vv)=q:=by rw[<-hq];unfold wrap64;unfold cF at p1 p2;omega
    clear hq k1 k2;generalize ((i:Int)*cF)=iM at *;unfold cF at *;go_wp2_with fail
    go_quiet (first|(go_at_call 170;refine Calls.quiet_of_same (HN2.out _ (xD (zEQ.out.alloc (by omega) _) _))))
    go_wp2_with fail
    go_roundw
    case rel=>exact⟨i+1,n+q,by omega,by first|rfl|go_num,by go_num,by omega,by omega,zA (xD (HB.out.alloc hszr _) _),HE2⟩
    case measure=>simp[intOf];omega
   ·rw[t7 k3,Int.add_zero]at HE2
    have b1:(pk==1)=false:=by simpa using k1
    have b2:(pk==2)=false:=by simpa using k2
    have b3:(pk==3)=false:=by simpa using k3
    clear k1 k2 k3;generalize ((i:Int)*cF)=iM at *;unfold cF at *;go_wp2_with fail
    go_roundw
    case rel=>exact⟨i+1,n,by omega,rfl,by go_num,by omega,by omega,zA (HB.out.alloc hszr _),HE2⟩
    case measure=>simp[intOf];omega
  ·have HE3:Hid (n=rB s ps):=by have:=HE.out;rw[p8 (by omega)]at this;exact this
   clear HE;go_wp2_with fail
   go_ret
   exact⟨yN HE3.out,zEQ.out⟩
def iC(l:List Int):Array Value:=(lX l).toArray
theorem Fu{k:Nat}(hk:k<l.length):(iC l)[k]? = some (.int .i64 (l.getD k 0)):=by
 unfold iC;rw[mz];exact aF l k hk
def kU(w:World)(g:Nat)(l:List Int):Prop:=w.heap[g]? = some (.cells (iC l) 3 (0,0))
theorem kU.cell(h:kU w g l){k:Nat}(hk:k<l.length):w.cell? ⟨g,k,none⟩=some (.int .i64 (l.getD k 0)):=(zC h k).trans (Fu hk)
theorem kU.free(h:kU w g l)(k:Nat):w.frozen? ⟨g,k,none⟩=false:=by simp[World.frozen?,show w.heap[g]? = _ from h]
theorem kU.lt(h:kU w g l):g<w.heap.size:=zL h
theorem kU.set(h:kU w g l)(k:Nat)(b:Int):kU (w.setCell ⟨g,k,none⟩ (.int .i64 b)) g (l.set k b):=by
 unfold kU at h ⊢;rw[setCell_eq_setRow w g k _ _ _ _ h,lq w g (iC l) _ _ _ h];congr 2
 unfold iC lX;simp[List.map_set]
theorem kU.below(h:kU w g l)(hb:Below w.heap.size w w'):kU w' g l:=by
 have hl:=h.lt;unfold kU at h ⊢;rw[hb.block g hl];exact h
theorem kU.other(h:kU w g l){p:Addr}(hp:g≠p.block)(u:Value):kU (w.setCell p u) g l:=by
 unfold kU at h ⊢;rw[ms _ _ _ _ hp];exact h
theorem kU.ints(h:kU w g l)(hf:l.length<=10000):tF w (some ⟨g,0,none⟩) l:=by
 refine⟨?_,hf⟩;rcases Nat.eq_zero_or_pos l.length with h0|h0
 ·exact .inl (by rw[ml h0];rfl)
 ·exact .inr ⟨g,rfl,fun j hj=>by rw[BA]at hj;rw[h.cell hj,aF l j hj]⟩
theorem nD(n:Nat):madeCells #[Value.int .i64 0] n=iC (List.replicate n 0):=by
 apply Array.ext
 ·simp[madeCells,iC,lX]
 ·intro i h1 h2
  simp[madeCells,iC,lX,Nat.mod_one]
theorem nG:(Tryz.prog.info? 3).map (fun i=>(i.zero,i.size,i.bytes))=some (some (.int .i64 0),1,8):=by kernel_rfl
structure zA7 where
 rules:List Int
 kinds:List Int
 vals:List Int
structure GB(w:World)(ra ka va:Option Addr)(W:zA7):Prop where
 rules:tF w ra W.rules
 kinds:tF w ka W.kinds
 vals:tF w va W.vals
theorem GB.below{ra ka va:Option Addr}{W:zA7}(h:GB w ra ka va W)(hb:Below w.heap.size w w'):GB w' ra ka va W:=⟨h.rules.below hb,h.kinds.below hb,h.vals.below hb⟩
def GH(w:World)(a:Option Addr)(ts:vL):Prop:=ts=[]\/∃g,a=some ⟨g,0,none⟩/\gU w g 0 ts
theorem GH.below{ts:vL}(h:GH w a ts)(hb:Below w.heap.size w w'):GH w' a ts:=by
 rcases h with h|⟨g,h1,h2⟩
 ·exact .inl h
 ·exact .inr ⟨g,h1,h2.below' hb⟩
theorem GH.tok{ts:vL}(h:GH w a ts){i:Nat}(hi:i<ts.length):∃g,a=some ⟨g,0,none⟩/\∀j,j<ts.length->w.cell? ⟨g,j*3,none⟩=some (.string ⟨(tA ts j).toArray⟩)/\w.cell? ⟨g,j*3+2,none⟩=some (.string ⟨(cA ts j).toArray⟩):=by
 rcases h with h|⟨g,h1,h2⟩
 ·rw[h]at hi;simp at hi
 ·refine⟨g,h1,fun j hj=>?_⟩
  have:=h2.tok hj;rw[bs]at this;exact this
end Go.Proofs.YtnbpdffdnphbeabGreatDoor
