import Derived.Test.YtnbpdffdnphbeaaGreatDoorDPure
import Derived.Test.YtnbpdffdnphbeaaGreatDoorDApp
set_option maxHeartbeats 4000000
set_option maxRecDepth 100000
namespace Go.Proofs.YtnbpdffdnphbeaaGreatDoor
open Go.RowKit
variable{l:List Bool}
structure gW(w:World)(a:Option Addr)(l:List Bool):Prop where
 cel:jX w a (pF l)
 few:l.length<=10000
theorem gW.below{w w':World}{a:Option Addr}(h:gW w a l)(hb:Below w.heap.size w w'):gW w' a l:=⟨h.cel.below hb,h.few⟩
theorem JA(l:List Bool)(i:Nat)(h:i<l.length):(pF l)[i]? = some (.bool (l.getD i false)):=by simp[pF,List.getD,h]
theorem gW.at{w:World}{a:Option Addr}(h:gW w a l){i:Nat}(hi:i<l.length):∃g,a=some ⟨g,0,none⟩/\w.cell? ⟨g,i,none⟩=some (.bool (l.getD i false)):=h.cel.at (JA l i hi)
def mJ(l:List Int)(a:Int):Int:=if 0<=a/\a<l.length then l.getD a.toNat 0 else 0
theorem sH(w:World)(la:Option Addr)(lc:Nat)(l:List Bool)(a:Int)(h:gW w la l) :
 Calls Tryz.prog 251 #[.slice la l.length lc,.int .i64 a] w fun e w'=>e=.returned (.bool (pI l a))/\w'=w:=by
 have hf:=h.few;by_cases h0:0<=a
 ·obtain⟨n,rfl⟩:∃n:Nat,a=(n:Int):=⟨a.toNat,by omega⟩
  by_cases h1:n<l.length
  ·obtain⟨g,rfl,c⟩:=h.at h1
   have HR:Hid (pI l (n:Int)=l.getD n false):=by unfold Hid pI;rw[tm h0,tm (by omega:(n:Int)<l.length)];rfl
   generalize l.getD n false=x at *;have i1:(n:Int)<(l.length:Int):=by omega
   clear h
   go_enter Tryz.func251,Tryz.ntmps251
   go_wp2_with fail
   go_ret
   exact⟨zE HR.out.symm,rfl⟩
  ·have HR:Hid (pI l (n:Int)=false):=by unfold Hid pI;rw[tm h0,th (by omega:¬(n:Int)<l.length)];rfl
   have i1:¬(n:Int)<(l.length:Int):=by omega
   clear h
   go_enter Tryz.func251,Tryz.ntmps251
   go_wp2_with fail
   go_ret
   exact⟨zE HR.out.symm,rfl⟩
 ·have HR:Hid (pI l a=false):=by unfold Hid pI;rw[th h0];rfl
  clear h
  go_enter Tryz.func251,Tryz.ntmps251
  go_wp2_with fail
  go_ret
  exact⟨zE HR.out.symm,rfl⟩
theorem kg(w:World)(la:Option Addr)(lc:Nat)(l:List Int)(a:Int)(h:mM w la l) :
 Calls Tryz.prog 253 #[.slice la l.length lc,.int .i64 a] w fun e w'=>e=.returned (.int .i64 (mJ l a))/\w'=w:=by
 have hf:=h.few;by_cases h0:0<=a
 ·obtain⟨n,rfl⟩:∃n:Nat,a=(n:Int):=⟨a.toNat,by omega⟩
  by_cases h1:n<l.length
  ·obtain⟨g,rfl,c⟩:=h.at h1
   have HR:Hid (mJ l (n:Int)=l.getD n 0):=by unfold Hid mJ;rw[tl ⟨h0,by omega⟩];rfl
   generalize l.getD n 0=x at *;have i1:(n:Int)<(l.length:Int):=by omega
   clear h
   go_enter Tryz.func253,Tryz.ntmps253
   go_wp2_with fail
   go_ret
   exact⟨zY HR.out.symm,rfl⟩
  ·have HR:Hid (mJ l (n:Int)=0):=by unfold Hid mJ;rw[tg (by omega)]
   have i1:¬(n:Int)<(l.length:Int):=by omega
   clear h
   go_enter Tryz.func253,Tryz.ntmps253
   go_wp2_with fail
   go_ret
   exact⟨zY HR.out.symm,rfl⟩
 ·have HR:Hid (mJ l a=0):=by unfold Hid mJ;rw[tg (by omega)]
  clear h
  go_enter Tryz.func253,Tryz.ntmps253
  go_wp2_with fail
  go_ret
  exact⟨zY HR.out.symm,rfl⟩
structure vF where
 inputs:List Int
 has:List Bool
 values:List Int
structure iU(w:World)(ia ha va:Option Addr)(s:vF):Prop where
 inputs:mM w ia s.inputs
 has:gW w ha s.has
 values:mM w va s.values
theorem iU.below{w w':World}{ia ha va:Option Addr}{s:vF}(h:iU w ia ha va s)(hb:Below w.heap.size w w'):iU w' ia ha va s:=⟨h.inputs.below hb,h.has.below hb,h.values.below hb⟩
def zBJ(ia ha va:Option Addr)(ic hc vc:Nat)(s:vF):Value:=.agg #[.slice ia s.inputs.length ic,.slice ha s.has.length hc,.slice va s.values.length vc]
def QP(x:jH)(s:vF):Bool :=
 if mJ s.inputs x.place<(if x.two then mJ s.inputs x.other else x.num) then x.less else if (if x.two then mJ s.inputs x.other else x.num)<mJ s.inputs x.place then x.more else x.equal
def Cs(x:jH)(s:vF)(hs:List Bool):Bool :=
 if x.kind=1 then pI hs x.left || pI hs x.right else if x.kind=2 then pI hs x.left&&pI hs x.right else if x.kind=3 then !pI hs x.left
 else if x.kind=4 then true else if x.kind=5 then pI s.has x.place else if x.kind=6 then decide (mJ s.inputs x.place=1) else if x.kind=7 then QP x s else false
theorem Db(w:World)(ia ha va:Option Addr)(ic hc vc:Nat)(s:vF)(x:jH)(h:iU w ia ha va s) :
 Calls Tryz.prog 258 #[oE x,zBJ ia ha va ic hc vc s] w fun e w'=>e=.returned (.bool (QP x s))/\Below w.heap.size w w':=by
 have HN:=zA (fun w' (hb:Below w.heap.size w w') a=>kg w' ia ic s.inputs a (h.inputs.below hb));have HC:Hid (QP x s=if mJ s.inputs x.place<(if x.two then mJ s.inputs x.other else x.num) then x.less else if (if x.two then mJ s.inputs x.other else x.num)<mJ s.inputs x.place then x.more else x.equal):=rfl;obtain⟨kd,lf',rg',pl,two,ot,nu,le,eq,mo⟩:=x;simp only[oE,zBJ]at *;have HN1:=zA (fun w' hb=>HN.out w' hb pl);have HN2:=zA (fun w' hb=>HN.out w' hb ot);clear HN h;generalize mJ s.inputs pl=p1 at *;generalize mJ s.inputs ot=p2 at *;generalize QP ⟨kd,lf',rg',pl,two,ot,nu,le,eq,mo⟩ s=ans at *;have hb0:∀o1 o2,Below w.heap.size w ((w.alloc o1).alloc o2):=fun o1 o2=>(ge (t9 _) _).alloc (by simp) _;have HB0:=zA hb0;clear hb0;cases two
 ·simp only[Bool.false_eq_true,if_false]at HC
  by_cases k1:p1<nu
  ·rw[tl k1]at HC
   go_enter Tryz.func258,Tryz.ntmps258
   go_wp2_with fail
   refine(HN1.out _ (HB0.out _ _)).mono ?_;rintro e w' ⟨rfl,hw⟩;obtain rfl:=hw.symm;go_wp2_with fail
   go_ret
   exact⟨zE HC.out.symm,HB0.out _ _⟩
  ·rw[tg k1]at HC
   by_cases k2:nu<p1
   ·rw[tl k2]at HC
    go_enter Tryz.func258,Tryz.ntmps258
    go_wp2_with fail
    refine(HN1.out _ (HB0.out _ _)).mono ?_;rintro e w' ⟨rfl,hw⟩;obtain rfl:=hw.symm;go_wp2_with fail
    go_ret
    exact⟨zE HC.out.symm,HB0.out _ _⟩
   ·rw[tg k2]at HC
    go_enter Tryz.func258,Tryz.ntmps258
    go_wp2_with fail
    refine(HN1.out _ (HB0.out _ _)).mono ?_;rintro e w' ⟨rfl,hw⟩;obtain rfl:=hw.symm;go_wp2_with fail
    go_ret
    exact⟨zE HC.out.symm,HB0.out _ _⟩
 ·simp only[if_true]at HC
  by_cases k1:p1<p2
  ·rw[tl k1]at HC
   go_enter Tryz.func258,Tryz.ntmps258
   go_wp2_with fail
   refine(HN1.out _ (HB0.out _ _)).mono ?_;rintro e w' ⟨rfl,hw⟩;obtain rfl:=hw.symm;go_wp2_with fail
   refine(HN2.out _ (HB0.out _ _)).mono ?_;rintro e w' ⟨rfl,hw⟩;obtain rfl:=hw.symm;go_wp2_with fail
   go_ret
   exact⟨zE HC.out.symm,HB0.out _ _⟩
  ·rw[tg k1]at HC
   by_cases k2:p2<p1
   ·rw[tl k2]at HC
    go_enter Tryz.func258,Tryz.ntmps258
    go_wp2_with fail
    refine(HN1.out _ (HB0.out _ _)).mono ?_;rintro e w' ⟨rfl,hw⟩;obtain rfl:=hw.symm;go_wp2_with fail
    refine(HN2.out _ (HB0.out _ _)).mono ?_;rintro e w' ⟨rfl,hw⟩;obtain rfl:=hw.symm;go_wp2_with fail
    go_ret
    exact⟨zE HC.out.symm,HB0.out _ _⟩
   ·rw[tg k2]at HC
    go_enter Tryz.func258,Tryz.ntmps258
    go_wp2_with fail
    refine(HN1.out _ (HB0.out _ _)).mono ?_;rintro e w' ⟨rfl,hw⟩;obtain rfl:=hw.symm;go_wp2_with fail
    refine(HN2.out _ (HB0.out _ _)).mono ?_;rintro e w' ⟨rfl,hw⟩;obtain rfl:=hw.symm;go_wp2_with fail
    go_ret
    exact⟨zE HC.out.symm,HB0.out _ _⟩
theorem km(w:World)(ia ha va ea:Option Addr)(ic hc vc ec:Nat)(s:vF)(hs:List Bool)(x:jH)(h:iU w ia ha va s)(he:gW w ea hs) :
 Calls Tryz.prog 252 #[oE x,zBJ ia ha va ic hc vc s,.slice ea hs.length ec] w fun e w'=>e=.returned (.bool (Cs x s hs))/\Below w.heap.size w w':=by
 have HL:=zA (fun w' (hb:Below w.heap.size w w')=>sH w' ea ec hs x.left (he.below hb));have HR:=zA (fun w' (hb:Below w.heap.size w w')=>sH w' ea ec hs x.right (he.below hb));have HH:=zA (fun w' (hb:Below w.heap.size w w')=>sH w' ha hc s.has x.place (h.has.below hb));have HN:=zA (fun w' (hb:Below w.heap.size w w')=>kg w' ia ic s.inputs x.place (h.inputs.below hb));have HC:=zA (fun w' (hb:Below w.heap.size w w')=>Db w' ia ha va ic hc vc s x (h.below hb))
 have HA:Hid (Cs x s hs=if x.kind=1 then pI hs x.left || pI hs x.right else if x.kind=2 then pI hs x.left&&pI hs x.right else if x.kind=3 then !pI hs x.left
  else if x.kind=4 then true else if x.kind=5 then pI s.has x.place else if x.kind=6 then decide (mJ s.inputs x.place=1) else if x.kind=7 then QP x s else false):=rfl
 have HB0:=zA (show ∀o1 o2,Below w.heap.size w ((w.alloc o1).alloc o2) from fun o1 o2=>(ge (t9 _) _).alloc (by simp) _);generalize Cs x s hs=ans at *;generalize QP x s=cm at *;obtain⟨kd,lf',rg',pl,two,ot,nu,le,eq,mo⟩:=x;simp only[oE,zBJ]at *;clear h he;generalize pI hs lf'=pL at *;generalize pI hs rg'=pR at *;generalize pI s.has pl=pH at *;generalize mJ s.inputs pl=pN at *;by_cases k1:kd=1
 ·subst k1
  rw[tl rfl]at HA;cases pL
  ·simp only[pm]at HA
   go_enter Tryz.func252,Tryz.ntmps252
   go_wp2_with fail
   refine(HL.out _ (HB0.out _ _)).mono ?_;rintro e w' ⟨rfl,hw⟩;obtain rfl:=hw.symm;go_wp2_with fail
   refine(HR.out _ (HB0.out _ _)).mono ?_;rintro e w' ⟨rfl,hw⟩;obtain rfl:=hw.symm;go_wp2_with fail
   go_ret
   exact⟨zE HA.out.symm,HB0.out _ _⟩
  ·simp only[dq]at HA
   go_enter Tryz.func252,Tryz.ntmps252
   go_wp2_with fail
   refine(HL.out _ (HB0.out _ _)).mono ?_;rintro e w' ⟨rfl,hw⟩;obtain rfl:=hw.symm;go_wp2_with fail
   go_ret
   exact⟨zE HA.out.symm,HB0.out _ _⟩
 by_cases k2:kd=2
 ·subst k2
  rw[tg (by decide),tl rfl]at HA;cases pL
  ·simp only[l5]at HA
   go_enter Tryz.func252,Tryz.ntmps252
   go_wp2_with fail
   refine(HL.out _ (HB0.out _ _)).mono ?_;rintro e w' ⟨rfl,hw⟩;obtain rfl:=hw.symm;go_wp2_with fail
   go_ret
   exact⟨zE HA.out.symm,HB0.out _ _⟩
  ·simp only[md]at HA
   go_enter Tryz.func252,Tryz.ntmps252
   go_wp2_with fail
   refine(HL.out _ (HB0.out _ _)).mono ?_;rintro e w' ⟨rfl,hw⟩;obtain rfl:=hw.symm;go_wp2_with fail
   refine(HR.out _ (HB0.out _ _)).mono ?_;rintro e w' ⟨rfl,hw⟩;obtain rfl:=hw.symm;go_wp2_with fail
   go_ret
   exact⟨zE HA.out.symm,HB0.out _ _⟩
 by_cases k3:kd=3
 ·subst k3
  rw[tg (by decide),tg (by decide),tl rfl]at HA
  go_enter Tryz.func252,Tryz.ntmps252
  go_wp2_with fail
  refine(HL.out _ (HB0.out _ _)).mono ?_;rintro e w' ⟨rfl,hw⟩;obtain rfl:=hw.symm;go_wp2_with fail
  go_ret
  exact⟨zE HA.out.symm,HB0.out _ _⟩
 by_cases k4:kd=4
 ·subst k4
  rw[tg (by decide),tg (by decide),tg (by decide),tl rfl]at HA
  go_enter Tryz.func252,Tryz.ntmps252
  go_wp2_with fail
  go_ret
  exact⟨zE HA.out.symm,HB0.out _ _⟩
 by_cases k5:kd=5
 ·subst k5
  rw[tg (by decide),tg (by decide),tg (by decide),tg (by decide),tl rfl]at HA
  go_enter Tryz.func252,Tryz.ntmps252
  go_wp2_with fail
  refine(HH.out _ (HB0.out _ _)).mono ?_;rintro e w' ⟨rfl,hw⟩;obtain rfl:=hw.symm;go_wp2_with fail
  go_ret
  exact⟨zE HA.out.symm,HB0.out _ _⟩
 by_cases k6:kd=6
 ·subst k6
  rw[tg (by decide),tg (by decide),tg (by decide),tg (by decide),tg (by decide),tl rfl]at HA;have hd:decide (pN=1)=(pN==1):=by rw[ct];simp
  rw[hd]at HA;clear hd
  go_enter Tryz.func252,Tryz.ntmps252
  go_wp2_with fail
  refine(HN.out _ (HB0.out _ _)).mono ?_;rintro e w' ⟨rfl,hw⟩;obtain rfl:=hw.symm;go_wp2_with fail
  go_ret
  exact⟨zE HA.out.symm,HB0.out _ _⟩
 by_cases k7:kd=7
 ·subst k7
  rw[tg (by decide),tg (by decide),tg (by decide),tg (by decide),tg (by decide),tg (by decide),tl rfl]at HA
  go_enter Tryz.func252,Tryz.ntmps252
  go_wp2_with fail
  refine(HC.out _ (HB0.out _ _)).mono ?_;rintro e w2 ⟨rfl,hb2⟩;have HB2:Hid (Below w.heap.size w w2):=(HB0.out _ _).trans (hb2.mono (HB0.out _ _).size);clear hb2;go_wp2_with fail
  go_ret
  exact⟨zE HA.out.symm,HB2.out⟩
 ·rw[tg k1,tg k2,tg k3,tg k4,tg k5,tg k6,tg k7]at HA
  have b1:(kd==1)=false:=by simpa using k1
  have b2:(kd==2)=false:=by simpa using k2
  have b3:(kd==3)=false:=by simpa using k3
  have b4:(kd==4)=false:=by simpa using k4
  have b5:(kd==5)=false:=by simpa using k5
  have b6:(kd==6)=false:=by simpa using k6
  have b7:(kd==7)=false:=by simpa using k7
  clear k1 k2 k3 k4 k5 k6 k7
  go_enter Tryz.func252,Tryz.ntmps252
  go_wp2_with fail
  go_ret
  exact⟨zE HA.out.symm,HB0.out _ _⟩
def nI(s:vF):List jH->List Bool->List Bool
 | [],hs=>hs
 | x::r,hs=>nI s r (hs++[Cs x s hs])
def mP(s:vF)(l:List JO):Bool:=l.all fun p => !(decide (p.kind=3) && !pI s.has p.place)
def jW(r:vI)(s:vF):Bool:=mP s r.sum&&pI (nI s r.guard []) r.root
theorem GK(s:vF)(l:List jH)(i:Nat)(hs:List Bool)(h:i<l.length):nI s (l.drop i) hs=nI s (l.drop (i+1)) (hs++[Cs (l.getD i sC) s hs]):=by
 rw[pb h,nI];simp[List.getD,h]
theorem K3(hs:List Bool)(n:Nat)(a:Int):pI (hs++List.replicate n false) a=pI hs a:=by
 unfold pI;by_cases h0:0<=a
 ·by_cases h1:a<hs.length
  ·rw[tm h1,tm (show a<((hs++List.replicate n false).length:Int) by simp;omega)]
   simp[List.getD,pw (show a.toNat<hs.length by omega)]
  ·rw[th h1]
   have:(hs++List.replicate n false).getD a.toNat false=false:=by
    rw[List.getD,pf (by omega),List.getElem?_replicate];split <;> rfl
   rw[this];simp
 ·rw[th h0];rfl
theorem zCT(x:jH)(s:vF)(hs:List Bool)(n:Nat):Cs x s (hs++List.replicate n false)=Cs x s hs:=by
 unfold Cs;rw[K3,K3]
theorem uU.bools{w:World}{g:Nat}(h:uU w g l)(hf:l.length<=10000):gW w (some ⟨g,0,none⟩) l :=
 ⟨.inr ⟨g,rfl,fun j hj=>by rw[vH]at hj;rw[h.cell hj,JA l j hj]⟩,hf⟩
theorem zCM(hs:List Bool)(i n:Nat)(z:Bool)(h:hs.length=i)(hn:i<n):(hs++List.replicate (n-i) false).set i z=(hs++[z])++List.replicate (n-(i+1)) false:=by
 rw[List.set_append_right _ _ (by omega),show i-hs.length=0 by omega,show n-i=(n-(i+1))+1 by omega,List.replicate_succ,List.set_cons_zero];simp
theorem C1(w:World)(ia ha va:Option Addr)(ic hc vc:Nat)(s:vF)(x:MX)(hx:kM w x)(h:iU w ia ha va s) :
 Calls Tryz.prog 227 #[kA x,zBJ ia ha va ic hc vc s] w fun e w'=>e=.returned (.bool (jW x.1 s))/\Below w.heap.size w w':=by
 obtain⟨pa,pc,e1,hp⟩:=hx.sum;obtain⟨ga,gc,e2,hg⟩:=hx.guard;have hfp:=hx.few1;have hfg:=hx.few2;have HP:=zA hp.cel;have HG:=zA hg.cel;have HS:=zA h;have HA:Hid (jW x.1 s=(mP s x.1.sum&&pI (nI s x.1.guard []) x.1.root)):=rfl;obtain⟨⟨lab,cc,ps,gd,root⟩,pv,gv⟩:=x;simp only at e1 e2 HP HG hfp hfg HA;subst e1 e2;simp only[kA,zBJ];clear hx hp hg h;generalize jW ⟨lab,cc,ps,gd,root⟩ s=ans at *
 go_enter Tryz.func227,Tryz.ntmps227
 go_wp2_with fail
 generalize hO1:Obj.cells #[.string ⟨lab.toArray⟩,.int .i64 cc,.slice pa ps.length pc,.slice ga gd.length gc,.int .i64 root] 176=O1 at *;generalize hO2:Obj.cells #[.slice ia s.inputs.length ic,.slice ha s.has.length hc,.slice va s.values.length vc] 182=O2 at *;have y0:((w.alloc O1).alloc O2).heap[w.heap.size]? = some O1:=yJ (zM _ _)
 have y1:((w.alloc O1).alloc O2).heap[w.heap.size+1]? = some O2:=by
  have h9:=zM (w.alloc O1) O2;rw[show (w.alloc O1).heap.size=w.heap.size+1 by simp]at h9;exact h9
 have hb0:Below w.heap.size w ((w.alloc O1).alloc O2):=(ge (t9 _) _).alloc (by simp) _;have hs0:((w.alloc O1).alloc O2).heap.size=w.heap.size+2:=by simp
 have HO1:=zA hO1;have HO2:=zA hO2;clear hO1 hO2;generalize (w.alloc O1).alloc O2=w0 at *;have HY0:=zA y0;have HY1:=zA y1;have HB0:=zA hb0;clear y0 y1 hb0
 go_loopw [14] (fun iv wr=>∃(i:Nat),i<=ps.length/\iv=.int .i64 i/\Hid (Below w0.heap.size w0 wr)/\Hid ((mP s (ps.drop i)&&pI (nI s gd []) root)=ans)) (fun iv _=>ps.length-(intOf iv).toNat)
 case atStart=>exact⟨0,tr _,rfl,zA (tj _ _),zA HA.out.symm⟩
 case round =>
  obtain⟨i,hi,rfl,HB,HE⟩:=hrel;have zIE:=HB.out.size;have zJ2:Hid (Below w.heap.size w wr):=HB0.out.trans (HB.out.mono (by omega));have x1:wr.heap[w.heap.size+1]? = some O2:=by rw[HB.out.block _ (by omega)];exact HY1.out
  rw[<-HO2.out]at x1;have x0:wr.heap[w.heap.size]? = some O1:=by rw[HB.out.block _ (by omega)];exact HY0.out
  rw[<-HO1.out]at x0;by_cases zI6:i<ps.length
  ·have zJ1:=HP.out.below zJ2.out
   obtain⟨gp,rfl,q0⟩:=zJ1.at ((zV dA 3 (fun _=>rfl) zD1 ps i 0 zI6 (by decide)).trans rfl);have q1:=(zJ1.at ((zV dA 3 (fun _=>rfl) zD1 ps i 1 zI6 (by decide)).trans rfl)).elim fun g' h=>(show gp=g' by simpa using h.1) ▸ h.2;have q2:=(zJ1.at ((zV dA 3 (fun _=>rfl) zD1 ps i 2 zI6 (by decide)).trans rfl)).elim fun g' h=>(show gp=g' by simpa using h.1) ▸ h.2;rw[pq]at q0;have c1:=zD x1 1;simp only[cy,cg,cw]at c1;have hE:=HE.out;unfold mP at hE;rw[UJ _ zD1 _ i zI6]at hE;have HE2:=zA hE;have lgp:=zP q0;have mgp:wr.heap.size≠gp:=by omega
   have m1:wr.heap.size≠w.heap.size+1:=by omega
   have m2:w.heap.size+1<wr.heap.size:=by omega
   have HI:=zA (fun w' (hb:Below w.heap.size w w') a=>sH w' ha hc s.has a (HS.out.has.below hb));clear HE hE zJ1 x0 x1;generalize ps.getD i zD1=p at *;obtain⟨pk,pn,pl⟩:=p;simp only at q0 q1 q2 HE2;by_cases k1:pk=3
   ·subst k1
    have HI1:=zA (fun w' hb=>HI.out w' hb pl);clear HI;generalize pI s.has pl=tv at *;cases tv
    ·have HE3:Hid (ans=false):=by have:=HE2.out;simpa[Hid] using this.symm
     go_wp2_with fail
     refine(HI1.out _ (zJ2.out.alloc (by omega) _)).mono ?_;rintro e w' ⟨rfl,hw⟩;obtain rfl:=hw.symm;go_wp2_with fail
     go_ret
     exact⟨zE HE3.out.symm,zJ2.out.alloc (by omega) _⟩
    ·have HE3:Hid ((mP s (ps.drop (i+1))&&pI (nI s gd []) root)=ans):=by have:=HE2.out;simpa[mP,Hid] using this
     go_wp2_with fail
     refine(HI1.out _ (zJ2.out.alloc (by omega) _)).mono ?_;rintro e w' ⟨rfl,hw⟩;obtain rfl:=hw.symm;go_wp2_with fail
     go_roundw
     case rel=>exact⟨i+1,by omega,by go_num,zA (HB.out.alloc zIE _),HE3⟩
     case measure=>simp[intOf];omega
   ·have HE3:Hid ((mP s (ps.drop (i+1))&&pI (nI s gd []) root)=ans):=by have:=HE2.out;simpa[mP,Hid,k1] using this
    have b1:(pk==3)=false:=by simpa using k1
    clear k1;go_wp2_with fail
    go_roundw
    case rel=>exact⟨i+1,by omega,by go_num,zA (HB.out.alloc zIE _),HE3⟩
    case measure=>simp[intOf];omega
  ·have HE3:Hid (pI (nI s gd []) root=ans):=by have:=HE.out;rw[tu (by omega)]at this;simpa[mP,Hid] using this
   have c3:=zD x0 3;have c4:=zD x0 4;simp only[cy,cg,cw]at c3 c4;have m2:w.heap.size<wr.heap.size:=by omega
   have m3:wr.heap.size≠w.heap.size:=by omega
   clear HE;have HBr:=zJ2;have hsw:w.heap.size+2<=wr.heap.size:=by omega
   have HX0:=zA x0;have HX1:=zA x1;have hmk:=run_make_row' (P:=Tryz.prog) 180 4 (.bool false) 1 Tryz.underlying180 Zs rfl .i64 .i64 gd.length (by omega) (by omega);rw[oF]at hmk;clear x0 x1;go_wp2_with fail
   have HM0:Hid (uU (wr.alloc (.cells (gC (List.replicate gd.length false)) 4)) wr.heap.size ([]++List.replicate (gd.length-0) false)):=zM _ _;clear c3 c4 m2 m3 hmk;generalize hwq:wr=wq at *;clear hwq
   go_loopw [37] (fun iv wr=>∃(i:Nat) (hs:List Bool),i<=gd.length/\Hid (hs.length=i)/\iv=.int .i64 i/\Hid (uU wr wq.heap.size (hs++List.replicate (gd.length-i) false))/\Hid (Below wq.heap.size wq wr)/\wq.heap.size<wr.heap.size/\Hid (nI s (gd.drop i) hs=nI s gd [])) (fun iv _=>gd.length-(intOf iv).toNat)
   case atStart=>exact⟨0,[],tr _,zA rfl,rfl,HM0,zA (ge (t9 _) _),by simp,zA rfl⟩
   case round =>
    obtain⟨i,hs,hi,HHl,rfl,HM,HBz,hszz,HEz⟩:=hrel;have HBy:Hid (Below w.heap.size w wr):=HBr.out.trans (HBz.out.mono (by omega));have x0:wr.heap[w.heap.size]? = _:=(HBz.out.block _ (by omega)).trans HX0.out;have x1:wr.heap[w.heap.size+1]? = _:=(HBz.out.block _ (by omega)).trans HX1.out;have zIC:(hs++List.replicate (gd.length-i) false).length=gd.length:=by have:=HHl.out;simp;omega
    have HLen:=zA zIC;have HBo:Hid (gW wr (some ⟨wq.heap.size,0,none⟩) (hs++List.replicate (gd.length-i) false)):=HM.out.bools (by rw[zIC];exact hfg);clear zIC;by_cases zIV:i<gd.length
    ·have zJ1:=HG.out.below HBy.out
     obtain⟨gp,rfl,q0⟩:=zJ1.at ((zV kQ 10 (fun _=>rfl) sC gd i 0 zIV (by decide)).trans rfl);have q1:=(zJ1.at ((zV kQ 10 (fun _=>rfl) sC gd i 1 zIV (by decide)).trans rfl)).elim fun g' h=>(show gp=g' by simpa using h.1) ▸ h.2;have q2:=(zJ1.at ((zV kQ 10 (fun _=>rfl) sC gd i 2 zIV (by decide)).trans rfl)).elim fun g' h=>(show gp=g' by simpa using h.1) ▸ h.2;have q3:=(zJ1.at ((zV kQ 10 (fun _=>rfl) sC gd i 3 zIV (by decide)).trans rfl)).elim fun g' h=>(show gp=g' by simpa using h.1) ▸ h.2;have q4:=(zJ1.at ((zV kQ 10 (fun _=>rfl) sC gd i 4 zIV (by decide)).trans rfl)).elim fun g' h=>(show gp=g' by simpa using h.1) ▸ h.2;have q5:=(zJ1.at ((zV kQ 10 (fun _=>rfl) sC gd i 5 zIV (by decide)).trans rfl)).elim fun g' h=>(show gp=g' by simpa using h.1) ▸ h.2;have q6:=(zJ1.at ((zV kQ 10 (fun _=>rfl) sC gd i 6 zIV (by decide)).trans rfl)).elim fun g' h=>(show gp=g' by simpa using h.1) ▸ h.2;have q7:=(zJ1.at ((zV kQ 10 (fun _=>rfl) sC gd i 7 zIV (by decide)).trans rfl)).elim fun g' h=>(show gp=g' by simpa using h.1) ▸ h.2;have q8:=(zJ1.at ((zV kQ 10 (fun _=>rfl) sC gd i 8 zIV (by decide)).trans rfl)).elim fun g' h=>(show gp=g' by simpa using h.1) ▸ h.2;have q9:=(zJ1.at ((zV kQ 10 (fun _=>rfl) sC gd i 9 zIV (by decide)).trans rfl)).elim fun g' h=>(show gp=g' by simpa using h.1) ▸ h.2;rw[pq]at q0;have d0:=zD x1 0;have d1:=zD x1 1;have d2:=zD x1 2;simp only[cy,cg,cw]at d0 d1 d2;have hE:=HEz.out;rw[GK s gd i hs zIV]at hE;have HE4:=zA hE;have lgp:=zP q0;have mgp:wr.heap.size≠gp:=by omega
     have m1:wr.heap.size≠w.heap.size+1:=by omega
     have m2:w.heap.size+1<wr.heap.size:=by omega
     have HHo:Hid (∀o,Calls Tryz.prog 252 #[oE (gd.getD i sC),zBJ ia ha va ic hc vc s,.slice (some ⟨wq.heap.size,0,none⟩) gd.length gd.length] (wr.alloc o) fun e w'=>e=.returned (.bool (Cs (gd.getD i sC) s hs))/\Below (wr.alloc o).heap.size (wr.alloc o) w'):=fun o=>by
      have h9:=km (wr.alloc o) ia ha va (some ⟨wq.heap.size,0,none⟩) ic hc vc gd.length s (hs++List.replicate (gd.length-i) false) (gd.getD i sC) (HS.out.below (HBy.out.alloc (by omega) o)) (HBo.out.below (ge (t9 _) o));rw[zCT,HLen.out]at h9;exact h9
     have zJ0:Hid (∀z,(hs++List.replicate (gd.length-i) false).set i z=(hs++[z])++List.replicate (gd.length-(i+1)) false):=fun z=>zCM hs i gd.length z HHl.out zIV
     have HCl:Hid (∀w5,Below wr.heap.size wr w5->∃v,w5.cell? ⟨wq.heap.size,i,none⟩=some (.bool v)):=fun w5 hb5=>by
      exact⟨_,(hb5.cell (p:=⟨wq.heap.size,i,none⟩) hszz).trans (HM.out.cell (by rw[HLen.out];exact zIV))⟩
     clear hE zJ1 x0 x1 HEz;generalize gd.getD i sC=nd at *;generalize Cs nd s hs=z at *;obtain⟨n0,n1,n2,n3,n4,n5,n6,n7,n8,n9⟩:=nd;simp only[oE,zBJ]at HHo;simp only at q0 q1 q2 q3 q4 q5 q6 q7 q8 q9;go_wp2_with fail
     refine(HHo.out _).mono ?_;rintro e w5 ⟨rfl,hb5⟩;have HB5:Hid (Below wr.heap.size wr w5):=(ge (t9 _) _).trans (hb5.mono (by simp));have HM5:=zA (HM.out.below HB5.out);have hs5:=HB5.out.size;obtain⟨oldz,hcz⟩:=HCl.out w5 HB5.out;have hfz:=HM5.out.free i;have HM6:Hid (uU (w5.setCell ⟨wq.heap.size,i,none⟩ (.bool z)) wq.heap.size ((hs++[z])++List.replicate (gd.length-(i+1)) false)):=by unfold Hid;rw[<-zJ0.out z];exact HM5.out.set i z
     have HB6:Hid (Below wq.heap.size wq (w5.setCell ⟨wq.heap.size,i,none⟩ (.bool z))):=(HBz.out.trans (HB5.out.mono (p8 hszz))).setCell (p:=⟨wq.heap.size,i,none⟩) (t9 _) _;have hs6:wq.heap.size<(w5.setCell ⟨wq.heap.size,i,none⟩ (.bool z)).heap.size:=by have:=HM6.out.lt;exact this
     clear hb5 HHo HCl;go_wp2_with fail
     go_roundw
     case rel=>exact⟨i+1,hs++[z],by omega,zA (by have:=HHl.out;simp;omega),by go_num,HM6,HB6,hs6,HE4⟩
     case measure=>simp[intOf];omega
    ·have HE5:Hid (pI hs root=ans):=by have:=HEz.out;rw[tu (by omega)]at this;have h9:=HE3.out;rw[<-this]at h9;exact h9
     have d4:=zD x0 4;simp only[cy,cg,cw]at d4
     have HI:Hid (Calls Tryz.prog 251 #[.slice (some ⟨wq.heap.size,0,none⟩) gd.length gd.length,.int .i64 root] wr fun e w'=>e=.returned (.bool ans)/\w'=wr):=by
      have h9:=sH wr (some ⟨wq.heap.size,0,none⟩) gd.length (hs++List.replicate (gd.length-i) false) root HBo.out;rw[K3,HE5.out,HLen.out]at h9;exact h9
     clear x0 x1;go_wp2_with fail
     refine HI.out.mono ?_;rintro e w' ⟨rfl,hw⟩;obtain rfl:=hw.symm;go_wp2_with fail
     go_ret
     exact⟨rfl,HBy.out⟩
end Go.Proofs.YtnbpdffdnphbeaaGreatDoor
