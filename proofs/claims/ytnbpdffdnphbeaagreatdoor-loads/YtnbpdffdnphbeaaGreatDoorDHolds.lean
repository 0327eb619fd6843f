import Derived.Test.YtnbpdffdnphbeaaGreatDoorDBase
set_option maxHeartbeats 4000000
set_option maxRecDepth 100000
namespace Go.Proofs.YtnbpdffdnphbeaaGreatDoor
open Go.RowKit
variable{w:World}(vs:List Int)(l:List vQ)(i:Nat)(st:List Bool)
def zHI:Bs:=[60,32,60,61,32,33,61]
def zHK:Bs:=[60,61,32,61,32,62,61]
def zHJ:Bs:=[62,32,62,61,32,33,61]
def dA(x:Int)(m:Bs)(y:Int):Bool:=if x<y then xZ zHI m else if x=y then xZ zHK m else xZ zHJ m
theorem Qf(x y:Int)(m:Bs)(w:World):Calls Tryz.prog 139 #[.int .i64 x,.string ⟨m.toArray⟩,.int .i64 y] w fun e w'=>e=.returned (.bool (dA x m y))/\w'=w:=by
 have H1:Hid (∀w:World,Calls Tryz.prog 180 #[.string ⟨#[60,32,60,61,32,33,61]⟩,.string ⟨m.toArray⟩] w fun e w'=>e=.returned (.bool (xZ zHI m))/\w'=w):=fun w=>nN zHI m w (by decide);have H2:Hid (∀w:World,Calls Tryz.prog 180 #[.string ⟨#[60,61,32,61,32,62,61]⟩,.string ⟨m.toArray⟩] w fun e w'=>e=.returned (.bool (xZ zHK m))/\w'=w):=fun w=>nN zHK m w (by decide);have H3:Hid (∀w:World,Calls Tryz.prog 180 #[.string ⟨#[62,32,62,61,32,33,61]⟩,.string ⟨m.toArray⟩] w fun e w'=>e=.returned (.bool (xZ zHJ m))/\w'=w):=fun w=>nN zHJ m w (by decide);by_cases k1:x<y
 ·have HR:Hid (dA x m y=xZ zHI m):=by unfold Hid dA;rw[tj k1]
  have k2:¬x=y:=by omega
  have b2:(x==y)=false:=by simpa using k2
  have k3:¬y<x:=by omega
  clear k2;generalize xZ zHI m=p at *;generalize dA x m y=q at *
  go_enter Tryz.func139,Tryz.ntmps139
  go_wp2_with fail
  refine(H1.out w).mono ?_;rintro e w' ⟨rfl,hw⟩;obtain rfl:=hw.symm;cases p
  ·go_wp2_with fail
   go_ret
   exact⟨zE HR.out.symm,rfl⟩
  ·go_wp2_with fail
   go_ret
   exact⟨zE HR.out.symm,rfl⟩
 by_cases k2:x=y
 ·have HR:Hid (dA x m y=xZ zHK m):=by unfold Hid dA;rw[tg k1,tj k2]
  have b2:(x==y)=true:=by simpa using k2
  have k3:¬y<x:=by omega
  clear k2;generalize xZ zHK m=p at *;generalize dA x m y=q at *
  go_enter Tryz.func139,Tryz.ntmps139
  go_wp2_with fail
  refine(H2.out w).mono ?_;rintro e w' ⟨rfl,hw⟩;obtain rfl:=hw.symm;cases p
  ·go_wp2_with fail
   go_ret
   exact⟨zE HR.out.symm,rfl⟩
  ·go_wp2_with fail
   go_ret
   exact⟨zE HR.out.symm,rfl⟩
 ·have HR:Hid (dA x m y=xZ zHJ m):=by unfold Hid dA;rw[tg k1,tg k2]
  have b2:(x==y)=false:=by simpa using k2
  have k3:y<x:=by omega
  clear k2;generalize xZ zHJ m=p at *;generalize dA x m y=q at *
  go_enter Tryz.func139,Tryz.ntmps139
  go_wp2_with fail
  refine(H3.out w).mono ?_;rintro e w' ⟨rfl,hw⟩;obtain rfl:=hw.symm;cases p
  ·go_wp2_with fail
   go_ret
   exact⟨zE HR.out.symm,rfl⟩
  ·go_wp2_with fail
   go_ret
   exact⟨zE HR.out.symm,rfl⟩
def pC(l:List Bool):List Value:=l.map Value.bool
def vC(l:List Int):List Value:=l.map (Value.int .i64)
theorem uZ(a b:List Bool):pC (a++b)=pC a++pC b:=by simp[pC]
theorem vF(a:List Bool):(pC a).length=a.length:=by simp[pC]
theorem G7(a:List Int):(vC a).length=a.length:=by simp[vC]
theorem bU(l:List Int)(i:Nat)(h:i<l.length):(vC l)[i]? = some (.int .i64 (l.getD i 0)):=by simp[vC,List.getD,h]
structure lD(w:World)(a:Option Addr)(l:List Int):Prop where
 cel:pE w a (vC l)
 few:l.length<=10000
theorem lD.below{w':World}{a:Option Addr}{l:List Int}(h:lD w a l)(hb:Below w.heap.size w w'):lD w' a l:=⟨h.cel.below hb,h.few⟩
theorem lD.at{a:Option Addr}{l:List Int}(h:lD w a l){i:Nat}(hi:i<l.length):∃g,a=some ⟨g,0,none⟩/\w.cell? ⟨g,i,none⟩=some (.int .i64 (l.getD i 0)):=h.cel.at (bU l i hi)
abbrev C2(vs:List Int)(a:Int):Prop:=0<=a/\a<vs.length
abbrev YZ(vs:List Int)(a:Int):Int:=vs.getD a.toNat 0
def dW(vs:List Int)(s:vQ):Bool:=if s.kind=0 then true else if s.kind=1 then decide (YZ vs s.a=1) else if s.kind=2 then dA (YZ vs s.a) s.mark s.n else dA (YZ vs s.a) s.mark (YZ vs s.b)
def qO(vs:List Int)(s:vQ)(st:List Bool):List Bool :=
 if s.kind<4 then st++[dW vs s]
 else if s.kind=4 then st.dropLast++[!st.getLastD false]
 else if s.kind=5 then st.dropLast.dropLast++[st.dropLast.getLastD false&&st.getLastD false]
 else st.dropLast.dropLast++[st.dropLast.getLastD false || st.getLastD false]
def Bl(vs:List Int)(s:vQ)(st:List Bool):Prop :=
 0<=s.kind/\(s.kind=1->C2 vs s.a)/\(s.kind=2->C2 vs s.a)/\(s.kind=3->C2 vs s.a/\C2 vs s.b)/\(s.kind=4->1<=st.length)/\(5<=s.kind->2<=st.length)
def gX(vs:List Int):List vQ->List Bool->List Bool
 | [],st=>st
 | s::r,st=>gX vs r (qO vs s st)
def eA(vs:List Int):List vQ->List Bool->Prop
 | [],_=>True
 | s::r,st=>Bl vs s st/\eA vs r (qO vs s st)
def bV(vs:List Int)(l:List vQ):Bool:=decide ((gX vs l []).length=1)&&(gX vs l []).getD 0 false
def YX:vQ:=⟨0,0,0,[],0⟩
theorem FD(h:i<l.length):gX vs (l.drop i) st=gX vs (l.drop (i+1)) (qO vs (l.getD i YX) st):=by
 rw[pb h,gX];simp[List.getD,h]
theorem By(h:i<l.length):eA vs (l.drop i) st=(Bl vs (l.getD i YX) st/\eA vs (l.drop (i+1)) (qO vs (l.getD i YX) st)):=by
 rw[pb h,eA];simp[List.getD,h]
theorem D1{B k n g c m:Nat}{t:TypeId}{xs:List Value}(h:w.ownsRow B t k (.slice (some ⟨g,0,none⟩) n c) n xs)(hn:0<n)(hm:m<=n):w.ownsRow B t k (.slice (some ⟨g,0,none⟩) m c) m (xs.take (m*k)):=by
 have hl:=h.1;have hmk:m*k<=n*k:=Nat.mul_le_mul_right k hm;rcases h.2 with ⟨_,h2⟩|⟨g',cap,yV,h1,hB,h3,h4,h5,h6,h7⟩
 ·omega
 ·obtain⟨rfl,rfl⟩:g=g'/\c=cap:=by simpa using h1
  exact⟨by rw[p9,hl];omega,.inr ⟨g,c,yV,rfl,hB,h3,by omega,h5,h6,by rw[<-h7,List.take_take,da hmk]⟩⟩
theorem GE:(Tryz.prog.info? 4).map (fun i=>(i.zero,i.size,i.bytes))=some (some (.bool false),1,1):=by kernel_rfl
theorem F5(s:vQ)(st:List Bool):(qO vs s st).length<=st.length+1:=by
 unfold qO;split
 ·simp
 ·split
  ·simp only[tq,List.length_dropLast,pd];omega
  ·split <;> (simp only[tq,List.length_dropLast,pd];omega)
theorem zER(w:World)(sa va:Option Addr)(sc vc:Nat)(l:List vQ)(vs:List Int)(hs:pE w sa (kC l))(hl:l.length<=10000)(hv:lD w va vs)(zIV:eA vs l []) :
 Calls Tryz.prog 85 #[.slice sa l.length sc,.slice va vs.length vc] w fun e w'=>e=.returned (.bool (bV vs l))/\Below w.heap.size w w':=by
 obtain⟨i0,hi0,hz0,hz1,hz2⟩:=dp GE;have HS:=zA hs;have HV:=zA hv;have hfv:=hv.few;have HK0:=zA zIV;obtain⟨B,hB⟩:∃B,B=w.heap.size:=⟨_,rfl⟩;have HB0:=zA hB;clear hs hv zIV hB
 go_enter Tryz.func85,Tryz.ntmps85
 go_wp2_with fail
 go_loopw [5,6] (fun ov iv wr=>∃(i:Nat) (st:List Bool),i<=l.length/\st.length<=i/\iv=.int .i64 i/\Hid (wr.ownsRow B 4 1 ov st.length (pC st))/\Hid (Below B w wr)/\Hid (eA vs (l.drop i) st)/\Hid (gX vs (l.drop i) st=gX vs l [])) (fun _ iv _=>l.length-(intOf iv).toNat)
 case atStart=>exact⟨0,[],tr _,t9 _,rfl,zA (lq _ _ _ _),zA (tl _ _),HK0,zA rfl⟩
 case round =>
  obtain⟨i,st,hi,zIU,rfl,HO,HB,HK,HE⟩:=hrel;have zIQ:B<=wr.heap.size:=by have:=HB.out.size;have h2:=HB0.out;omega
  by_cases zIB:i<l.length
  ·have hbw:Below w.heap.size w wr:=by have:=HB.out;rwa [HB0.out]at this
   have hsr:=HS.out.below hbw;have HVr:=zA (HV.out.below hbw);have hget:=fun r (hr:r<5)=>zW mG 5 (fun _=>rfl) YX l i r zIB hr;have hE:=HE.out;rw[FD vs l i st zIB]at hE;have hK:=HK.out;rw[By vs l i st zIB]at hK;have HE2:=zA hE;have HK2:=zA hK;have zIH:=F5 vs (l.getD i YX) st;obtain⟨gs,rfl,q0⟩:=hsr.at (hget 0 (by decide));have q1:=(hsr.at (hget 1 (by decide))).elim fun g' h=>(show gs=g' by simpa using h.1) ▸ h.2;have q2:=(hsr.at (hget 2 (by decide))).elim fun g' h=>(show gs=g' by simpa using h.1) ▸ h.2;have q3:=(hsr.at (hget 3 (by decide))).elim fun g' h=>(show gs=g' by simpa using h.1) ▸ h.2;have q4:=(hsr.at (hget 4 (by decide))).elim fun g' h=>(show gs=g' by simpa using h.1) ▸ h.2;rw[pq]at q0;have hgs:=zT q0;obtain⟨ov1,ov2,rfl⟩:=yG HO.out;clear HE HK hE hK hsr hget hbw;generalize hs:l.getD i YX=s at *;obtain⟨kd,a,b,mk,nn⟩:=s;clear hs;by_cases k0:kd=0
   ·subst k0
    have e1:qO vs ⟨0,a,b,mk,nn⟩ st=st++[true]:=by simp[qO,dW]
    have HE3:=HE2.out;rw[e1]at HE3;have HK3:=zA HK2.out.2;have hOk:=HK2.out.1;rw[e1]at HK3 zIH
    replace HE3:=zA HE3
    clear HE2 HK2 e1;clear hOk HVr
    go_wp2_with (at_builtin;refine wpList_append_own _ rfl _ _ 180 rfl B 4 i0 _ 1 1 Tryz.underlying180 hi0 hz0 hz1 hz2 rfl (by decide) _ _ _ rfl ((HO.out.alloc _).alloc _) ⟨wr.heap.size+1,0,none⟩ 1 1 [.bool (true)] rfl rfl (uO _ _ _ _ rfl (by simp)) ?c2 ?c3 ?c4 ?c5 ?_)
    case c2=>rfl
    case c3=>unfold maxLen;omega
    case c4=>omega
    case c5=>omega
    intro v' w2 zIG zIS _;have HB2:Hid (Below B w w2):=((HB.out.alloc zIQ _).alloc (by simp;omega) _).grown zIS (by simp;omega) (zN HO.out);have HO2:Hid (w2.ownsRow B 4 1 v' (st++[true]).length (pC (st++[true]))):=by unfold Hid;rw[uZ,tq];exact zIG
    clear zIG zIS;go_wp2_with fail
    go_roundw
    case rel=>exact⟨i+1,st++[true],by omega,by simp;omega,by go_num,HO2,HB2,HK3,HE3⟩
    case measure=>simp[intOf];omega
   by_cases k1:kd=1
   ·subst k1
    have e1:qO vs ⟨1,a,b,mk,nn⟩ st=st++[YZ vs a==1]:=by simp[qO,dW];rfl
    have HE3:=HE2.out;rw[e1]at HE3;have HK3:=zA HK2.out.2;have hOk:=HK2.out.1;rw[e1]at HK3 zIH
    replace HE3:=zA HE3
    clear HE2 HK2 e1;have ia:C2 vs a:=hOk.2.1 rfl;clear hOk;obtain⟨na,rfl⟩:∃n:Nat,a=(n:Int):=⟨a.toNat,by have:=ia.1;omega⟩;have hna:na<vs.length:=by have:=ia.2;omega
    obtain⟨gna,rfl,cna⟩:=HVr.out.at hna;have lna:=zT cna;have mna:wr.heap.size≠gna:=by omega
    simp only[YZ,Int.toNat_natCast]at HE3 HK3 zIH;generalize vs.getD na 0=xna at *;clear ia HVr
    go_wp2_with (at_builtin;refine wpList_append_own _ rfl _ _ 180 rfl B 4 i0 _ 1 1 Tryz.underlying180 hi0 hz0 hz1 hz2 rfl (by decide) _ _ _ rfl ((HO.out.alloc _).alloc _) ⟨wr.heap.size+1,0,none⟩ 1 1 [.bool (xna==1)] rfl rfl (uO _ _ _ _ rfl (by simp)) ?c2 ?c3 ?c4 ?c5 ?_)
    case c2=>rfl
    case c3=>unfold maxLen;omega
    case c4=>omega
    case c5=>omega
    intro v' w2 zIG zIS _;have HB2:Hid (Below B w w2):=((HB.out.alloc zIQ _).alloc (by simp;omega) _).grown zIS (by simp;omega) (zN HO.out);have HO2:Hid (w2.ownsRow B 4 1 v' (st++[xna==1]).length (pC (st++[xna==1]))):=by unfold Hid;rw[uZ,tq];exact zIG
    clear zIG zIS;go_wp2_with fail
    go_roundw
    case rel=>exact⟨i+1,st++[xna==1],by omega,by simp;omega,by go_num,HO2,HB2,HK3,HE3⟩
    case measure=>simp[intOf];omega
   by_cases k2:kd=2
   ·subst k2
    have e1:qO vs ⟨2,a,b,mk,nn⟩ st=st++[dA (YZ vs a) mk nn]:=by simp[qO,dW]
    have HE3:=HE2.out;rw[e1]at HE3;have HK3:=zA HK2.out.2;have hOk:=HK2.out.1;rw[e1]at HK3 zIH
    replace HE3:=zA HE3
    clear HE2 HK2 e1;have ia:C2 vs a:=hOk.2.2.1 rfl;clear hOk;obtain⟨na,rfl⟩:∃n:Nat,a=(n:Int):=⟨a.toNat,by have:=ia.1;omega⟩;have hna:na<vs.length:=by have:=ia.2;omega
    obtain⟨gna,rfl,cna⟩:=HVr.out.at hna;have lna:=zT cna;have mna:wr.heap.size≠gna:=by omega
    simp only[YZ,Int.toNat_natCast]at HE3 HK3 zIH;generalize vs.getD na 0=xna at *;clear ia HVr;have HC:=zA (fun w=>Qf xna nn mk w);generalize dA xna mk nn=z at *;go_wp2_with fail
    go_region_law (first
     | (refine step_append_lies _ (by rfl) _ _ _ (by rfl) B 4 i0 _ 1 1 Tryz.underlying180 hi0 hz0 hz1 hz2 rfl (by decide) _ st.length (pC st) (by rfl) ((HO.out.alloc _).drew.alloc _) ⟨wr.heap.size+1,0,none⟩ 1 1 [.bool z] (by rfl) (by rfl) (uO _ _ _ _ rfl (by simp)) (by simp[Value.oneCell']) (by decide) (by unfold maxLen;omega) (by omega) (by simp;omega) (wr.heap.size+1+1) (by simp) ?_;intro gg cap w2 zIG zIS hat zJ0)
     | (go_simp;go_at_call 139;refine(HC.out _).mono ?_;rintro e w4 ⟨rfl,hw⟩;obtain rfl:=hw.symm;show _))
    all_goals
     have HB2:Hid (Below B w w2):=((HB.out.alloc zIQ _).drew.alloc (by show B<=(wr.alloc _).heap.size;simp;omega) _).grown zIS (by show B<=((wr.alloc _).drew.alloc _).heap.size;simp;omega) (zN HO.out);have HO2:Hid (w2.ownsRow B 4 1 (.slice (some ⟨gg,0,none⟩) (st.length+1) cap) (st++[z]).length (pC (st++[z]))):=by unfold Hid;rw[uZ,tq];exact zIG
     clear zIG zIS;go_wp2_with fail
     go_roundw
     case rel=>exact⟨i+1,st++[z],by omega,by simp;omega,by go_num,HO2,HB2,HK3,HE3⟩
     case measure=>simp[intOf];omega
   by_cases k3:kd=3
   ·subst k3
    have e1:qO vs ⟨3,a,b,mk,nn⟩ st=st++[dA (YZ vs a) mk (YZ vs b)]:=by simp[qO,dW]
    have HE3:=HE2.out;rw[e1]at HE3;have HK3:=zA HK2.out.2;have hOk:=HK2.out.1;rw[e1]at HK3 zIH
    replace HE3:=zA HE3
    clear HE2 HK2 e1;have ia:C2 vs a:=(hOk.2.2.2.1 rfl).1;have ib:C2 vs b:=(hOk.2.2.2.1 rfl).2;clear hOk;obtain⟨na,rfl⟩:∃n:Nat,a=(n:Int):=⟨a.toNat,by have:=ia.1;omega⟩;have hna:na<vs.length:=by have:=ia.2;omega
    obtain⟨gna,rfl,cna⟩:=HVr.out.at hna;have lna:=zT cna;have mna:wr.heap.size≠gna:=by omega
    simp only[YZ,Int.toNat_natCast]at HE3 HK3 zIH;generalize vs.getD na 0=xna at *;obtain⟨nb,rfl⟩:∃n:Nat,b=(n:Int):=⟨b.toNat,by have:=ib.1;omega⟩;have hnb:nb<vs.length:=by have:=ib.2;omega
    obtain⟨gnb,hgg,cnb⟩:=HVr.out.at hnb;obtain rfl:gna=gnb:=by simpa using hgg
    have lnb:=zT cnb;have mnb:wr.heap.size≠gna:=by omega
    simp only[Int.toNat_natCast]at HE3 HK3 zIH;generalize vs.getD nb 0=xnb at *;clear ia ib HVr;have HC:=zA (fun w=>Qf xna xnb mk w);generalize dA xna mk xnb=z at *;go_wp2_with fail
    go_region_law (first
     | (refine step_append_lies _ (by rfl) _ _ _ (by rfl) B 4 i0 _ 1 1 Tryz.underlying180 hi0 hz0 hz1 hz2 rfl (by decide) _ st.length (pC st) (by rfl) ((HO.out.alloc _).drew.alloc _) ⟨wr.heap.size+1,0,none⟩ 1 1 [.bool z] (by rfl) (by rfl) (uO _ _ _ _ rfl (by simp)) (by simp[Value.oneCell']) (by decide) (by unfold maxLen;omega) (by omega) (by simp;omega) (wr.heap.size+1+1) (by simp) ?_;intro gg cap w2 zIG zIS hat zJ0)
     | (go_simp;go_at_call 139;refine(HC.out _).mono ?_;rintro e w4 ⟨rfl,hw⟩;obtain rfl:=hw.symm;show _))
    all_goals
     have HB2:Hid (Below B w w2):=((HB.out.alloc zIQ _).drew.alloc (by show B<=(wr.alloc _).heap.size;simp;omega) _).grown zIS (by show B<=((wr.alloc _).drew.alloc _).heap.size;simp;omega) (zN HO.out);have HO2:Hid (w2.ownsRow B 4 1 (.slice (some ⟨gg,0,none⟩) (st.length+1) cap) (st++[z]).length (pC (st++[z]))):=by unfold Hid;rw[uZ,tq];exact zIG
     clear zIG zIS;go_wp2_with fail
     go_roundw
     case rel=>exact⟨i+1,st++[z],by omega,by simp;omega,by go_num,HO2,HB2,HK3,HE3⟩
     case measure=>simp[intOf];omega
   by_cases k4:kd=4
   ·subst k4
    have e1:qO vs ⟨4,a,b,mk,nn⟩ st=st.dropLast++[!st.getLastD false]:=by simp[qO]
    have HE3:=HE2.out;rw[e1]at HE3;have HK3:=zA HK2.out.2;have hOk:=HK2.out.1;rw[e1]at HK3 zIH
    replace HE3:=zA HE3
    clear HE2 HK2 e1;have h1:1<=st.length:=hOk.2.2.2.2.1 rfl;obtain⟨st',bb,rfl⟩:∃a b,st=a++[b]:=⟨_,_,(dd (dw h1)).symm⟩;simp only[List.dropLast_concat,List.getLastD_concat]at HE3 HK3 zIH;rw[tq,pd]at HO zIU;obtain⟨og,oc,hov,-⟩:=nY HO.out (by omega);obtain⟨rfl,rfl⟩:ov1=some ⟨og,0,none⟩/\ov2=oc:=by simpa using hov
    have hput:=fun u=>dI HO.out (by omega) (j:=st'.length) (by omega) u;have hp0:=dI HO.out (by omega) (j:=st'.length) (by omega) (.bool true);have hfz:=hp0.2.1;have hcl:wr.cell? ⟨og,st'.length,none⟩=some (.bool bb):=by rw[hp0.2.2.1,uZ,pf (by rw[vF];exact t9 _),vF,bj];rfl
    have hBg:=hp0.2.2.2.1;have log:=hp0.2.2.2.2;have mog:wr.heap.size≠og:=by omega
    have zJ4:Hid (∀x,(pC (st'++[bb])).set st'.length (.bool x)=pC (st'++[x])):=fun x=>by
     rw[uZ,uZ,List.set_append_right _ _ (by rw[vF];exact t9 _),vF,bj];rfl
    have HPut:=zA hput;clear hput hp0 hOk HVr hov h1;go_wp2_with fail
    go_roundw
    case rel=>exact⟨i+1,st'++[!bb],by omega,by simp;omega,by go_num,by unfold Hid;rw[tq,tq,pd,pd,<-zJ4.out];exact(HPut.out _).1.alloc _,zA ((HB.out.setCell (p:=⟨og,st'.length,none⟩) hBg _).alloc (by simpa[World.setCell] using zIQ) _),HK3,HE3⟩
    case measure=>simp[intOf];omega
   by_cases k5:kd=5
   ·subst k5
    have e1:qO vs ⟨5,a,b,mk,nn⟩ st=st.dropLast.dropLast++[st.dropLast.getLastD false&&st.getLastD false]:=by simp[qO]
    have HE3:=HE2.out;rw[e1]at HE3;have HK3:=zA HK2.out.2;have hOk:=HK2.out.1;rw[e1]at HK3 zIH
    replace HE3:=zA HE3
    clear HE2 HK2 e1;have h1:2<=st.length:=hOk.2.2.2.2.2 (show (5:Int)<=5 from dk _)
    obtain⟨st',xx,yy,rfl⟩:∃a b c,st=a++[b,c]:=by
     obtain⟨s1,y,rfl⟩:∃a b,st=a++[b]:=⟨_,_,(dd (dw (by omega))).symm⟩;rw[tq,pd]at h1;obtain⟨s2,x,rfl⟩:∃a b,s1=a++[b]:=⟨_,_,(dd (dw (by omega))).symm⟩;exact⟨s2,x,y,by simp⟩
    rw[show st'++[xx,yy]=st'++[xx]++[yy] by simp]at HE3 HK3 zIH;simp only[List.dropLast_concat,List.getLastD_concat]at HE3 HK3 zIH;rw[tq,show [xx,yy].length=2 from rfl]at HO zIU;obtain⟨og,oc,hov,-⟩:=nY HO.out (by omega);obtain⟨rfl,rfl⟩:ov1=some ⟨og,0,none⟩/\ov2=oc:=by simpa using hov
    have hput:=fun u=>dI HO.out (by omega) (j:=st'.length) (by omega) u;have hp0:=dI HO.out (by omega) (j:=st'.length) (by omega) (.bool true);have hp1:=dI HO.out (by omega) (j:=st'.length+1) (by omega) (.bool true);have hfz:=hp0.2.1;have hcl:wr.cell? ⟨og,st'.length,none⟩=some (.bool xx):=by rw[hp0.2.2.1,uZ,pf (by rw[vF];exact t9 _),vF,bj];rfl
    have hcm:wr.cell? ⟨og,st'.length+1,none⟩=some (.bool yy):=by rw[hp1.2.2.1,uZ,pf (by rw[vF];omega),vF,show st'.length+1-st'.length=1 by omega];rfl
    have hBg:=hp0.2.2.2.1;have log:=hp0.2.2.2.2;have mog:wr.heap.size≠og:=by omega
    have hoc:st'.length+2<=ov2:=by
     obtain⟨a9,c9,e9,_,h9,_⟩:=dJ HO.out;obtain⟨-,rfl⟩:_/\ov2=c9:=by simpa using e9
     exact h9
    have HPut:Hid (∀x,(wr.setCell ⟨og,st'.length,none⟩ (.bool x)).ownsRow B 4 1 (.slice (some ⟨og,0,none⟩) (st'.length+1) ov2) (st'.length+1) (pC (st'++[x]))):=fun x=>by
     have h8:=D1 (m:=st'.length+1) (hput (.bool x)).1 (by omega) (by omega);rw[uZ,List.set_append_right _ _ (by rw[vF];exact t9 _),vF,bj,show (pC [xx,yy]).set 0 (.bool x)=[.bool x,.bool yy] from rfl,List.take_append,vF,cf (by rw[vF];omega),show (st'.length+1)*1-st'.length=1 by omega]at h8;rw[uZ];exact h8
    clear hput hp0 hp1 hOk HVr hov h1;cases xx
    ·go_wp2_with fail
     go_roundw
     case rel=>exact⟨i+1,st'++[false],by omega,by simp;omega,by go_num,by unfold Hid;rw[tq,pd];exact(HPut.out _).alloc _,zA ((HB.out.setCell (p:=⟨og,st'.length,none⟩) hBg _).alloc (by simpa[World.setCell] using zIQ) _),HK3,HE3⟩
     case measure=>simp[intOf];omega
    ·go_wp2_with fail
     go_roundw
     case rel=>exact⟨i+1,st'++[yy],by omega,by simp;omega,by go_num,by unfold Hid;rw[tq,pd];exact(HPut.out _).alloc _,zA ((HB.out.setCell (p:=⟨og,st'.length,none⟩) hBg _).alloc (by simpa[World.setCell] using zIQ) _),HK3,HE3⟩
     case measure=>simp[intOf];omega
   ·have hk0:0<=kd:=HK2.out.1.1
    have e1:qO vs ⟨kd,a,b,mk,nn⟩ st=st.dropLast.dropLast++[st.dropLast.getLastD false || st.getLastD false]:=by
     unfold qO;rw[tg (by show ¬kd<4;omega),tg k4,tg k5]
    have HE3:=HE2.out;rw[e1]at HE3;have HK3:=zA HK2.out.2;have hOk:=HK2.out.1;rw[e1]at HK3 zIH
    replace HE3:=zA HE3
    have h1:2<=st.length:=hOk.2.2.2.2.2 (by show 5<=kd;omega);have b0:(kd==0)=false:=by simpa using k0
    have b1:(kd==1)=false:=by simpa using k1
    have b2:(kd==2)=false:=by simpa using k2
    have b3:(kd==3)=false:=by simpa using k3
    have b4:(kd==4)=false:=by simpa using k4
    have b5:(kd==5)=false:=by simpa using k5
    clear HE2 HK2 e1 k0 k1 k2 k3 k4 k5 hk0
    obtain⟨st',xx,yy,rfl⟩:∃a b c,st=a++[b,c]:=by
     obtain⟨s1,y,rfl⟩:∃a b,st=a++[b]:=⟨_,_,(dd (dw (by omega))).symm⟩;rw[tq,pd]at h1;obtain⟨s2,x,rfl⟩:∃a b,s1=a++[b]:=⟨_,_,(dd (dw (by omega))).symm⟩;exact⟨s2,x,y,by simp⟩
    rw[show st'++[xx,yy]=st'++[xx]++[yy] by simp]at HE3 HK3 zIH;simp only[List.dropLast_concat,List.getLastD_concat]at HE3 HK3 zIH;rw[tq,show [xx,yy].length=2 from rfl]at HO zIU;obtain⟨og,oc,hov,-⟩:=nY HO.out (by omega);obtain⟨rfl,rfl⟩:ov1=some ⟨og,0,none⟩/\ov2=oc:=by simpa using hov
    have hput:=fun u=>dI HO.out (by omega) (j:=st'.length) (by omega) u;have hp0:=dI HO.out (by omega) (j:=st'.length) (by omega) (.bool true);have hp1:=dI HO.out (by omega) (j:=st'.length+1) (by omega) (.bool true);have hfz:=hp0.2.1;have hcl:wr.cell? ⟨og,st'.length,none⟩=some (.bool xx):=by rw[hp0.2.2.1,uZ,pf (by rw[vF];exact t9 _),vF,bj];rfl
    have hcm:wr.cell? ⟨og,st'.length+1,none⟩=some (.bool yy):=by rw[hp1.2.2.1,uZ,pf (by rw[vF];omega),vF,show st'.length+1-st'.length=1 by omega];rfl
    have hBg:=hp0.2.2.2.1;have log:=hp0.2.2.2.2;have mog:wr.heap.size≠og:=by omega
    have hoc:st'.length+2<=ov2:=by
     obtain⟨a9,c9,e9,_,h9,_⟩:=dJ HO.out;obtain⟨-,rfl⟩:_/\ov2=c9:=by simpa using e9
     exact h9
    have HPut:Hid (∀x,(wr.setCell ⟨og,st'.length,none⟩ (.bool x)).ownsRow B 4 1 (.slice (some ⟨og,0,none⟩) (st'.length+1) ov2) (st'.length+1) (pC (st'++[x]))):=fun x=>by
     have h8:=D1 (m:=st'.length+1) (hput (.bool x)).1 (by omega) (by omega);rw[uZ,List.set_append_right _ _ (by rw[vF];exact t9 _),vF,bj,show (pC [xx,yy]).set 0 (.bool x)=[.bool x,.bool yy] from rfl,List.take_append,vF,cf (by rw[vF];omega),show (st'.length+1)*1-st'.length=1 by omega]at h8;rw[uZ];exact h8
    clear hput hp0 hp1 hOk HVr hov h1;cases xx
    ·go_wp2_with fail
     go_roundw
     case rel=>exact⟨i+1,st'++[yy],by omega,by simp;omega,by go_num,by unfold Hid;rw[tq,pd];exact(HPut.out _).alloc _,zA ((HB.out.setCell (p:=⟨og,st'.length,none⟩) hBg _).alloc (by simpa[World.setCell] using zIQ) _),HK3,HE3⟩
     case measure=>simp[intOf];omega
    ·go_wp2_with fail
     go_roundw
     case rel=>exact⟨i+1,st'++[true],by omega,by simp;omega,by go_num,by unfold Hid;rw[tq,pd];exact(HPut.out _).alloc _,zA ((HB.out.setCell (p:=⟨og,st'.length,none⟩) hBg _).alloc (by simpa[World.setCell] using zIQ) _),HK3,HE3⟩
     case measure=>simp[intOf];omega
  ·have HE3:Hid (bV vs l=(decide (st.length=1)&&st.getD 0 false)):=by have:=HE.out;rw[tu (by omega)]at this;unfold Hid bV;rw[<-this];rfl
   clear HE HK;obtain⟨ov1,ov2,rfl⟩:=yG HO.out;by_cases h1:st.length=1
   ·obtain⟨x,rfl⟩:∃x,st=[x]:=List.length_eq_one_iff.1 h1
    have HE4:Hid (bV vs l=x):=by have:=HE3.out;unfold Hid;rw[this];rfl
    obtain⟨og,oc,hov,hsrc⟩:=nY HO.out (Nat.zero_lt_one);obtain⟨rfl,rfl⟩:ov1=some ⟨og,0,none⟩/\ov2=oc:=by simpa using hov
    have hcl:wr.cell? ⟨og,0,none⟩=some (.bool x):=by have:=hsrc 0 _ rfl;rwa [Qo]at this
    clear hsrc h1 hov HE3;go_wp2_with fail
    go_ret
    exact⟨zE HE4.out.symm,by rw[<-HB0.out];exact HB.out⟩
   ·have HE4:Hid (bV vs l=false):=by have:=HE3.out;rw[th h1]at this;exact this
    have b1:((st.length:Int)==1)=false:=by simpa using (by omega:¬(st.length:Int)=1)
    clear h1 HE3;go_wp2_with fail
    go_ret
    exact⟨zE HE4.out.symm,by rw[<-HB0.out];exact HB.out⟩
end Go.Proofs.YtnbpdffdnphbeaaGreatDoor
