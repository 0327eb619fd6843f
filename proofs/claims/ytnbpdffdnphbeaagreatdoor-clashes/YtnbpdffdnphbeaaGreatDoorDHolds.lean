import Derived.Test.YtnbpdffdnphbeaaGreatDoorDBase
set_option maxHeartbeats 4000000
set_option maxRecDepth 100000
namespace Go.Proofs.YtnbpdffdnphbeaaGreatDoor
open Go.RowKit
variable{w:World}(vs:List Int)(l:List vS)(i:Nat)(st:List Bool)
def zHB:Bs:=[60,32,60,61,32,33,61]
def zHD:Bs:=[60,61,32,61,32,62,61]
def zHC:Bs:=[62,32,62,61,32,33,61]
def dE(x:Int)(m:Bs)(y:Int):Bool:=if x<y then xY zHB m else if x=y then xY zHD m else xY zHC m
theorem Qn(x y:Int)(m:Bs)(w:World):Calls Tryz.prog 139 #[.int .i64 x,.string ⟨m.toArray⟩,.int .i64 y] w fun e w'=>e=.returned (.bool (dE x m y))/\w'=w:=by
 have H1:Hid (∀w:World,Calls Tryz.prog 180 #[.string ⟨#[60,32,60,61,32,33,61]⟩,.string ⟨m.toArray⟩] w fun e w'=>e=.returned (.bool (xY zHB m))/\w'=w):=fun w=>nT zHB m w (by decide);have H2:Hid (∀w:World,Calls Tryz.prog 180 #[.string ⟨#[60,61,32,61,32,62,61]⟩,.string ⟨m.toArray⟩] w fun e w'=>e=.returned (.bool (xY zHD m))/\w'=w):=fun w=>nT zHD m w (by decide);have H3:Hid (∀w:World,Calls Tryz.prog 180 #[.string ⟨#[62,32,62,61,32,33,61]⟩,.string ⟨m.toArray⟩] w fun e w'=>e=.returned (.bool (xY zHC m))/\w'=w):=fun w=>nT zHC m w (by decide);by_cases k1:x<y
 ·have HR:Hid (dE x m y=xY zHB m):=by unfold Hid dE;rw[tl k1]
  have k2:¬x=y:=by omega
  have b2:(x==y)=false:=by simpa using k2
  have k3:¬y<x:=by omega
  clear k2;generalize xY zHB m=p at *;generalize dE x m y=q at *
  go_enter Tryz.func139,Tryz.ntmps139
  go_wp2_with fail
  refine(H1.out w).mono ?_;rintro e w' ⟨rfl,hw⟩;obtain rfl:=hw.symm;cases p
  ·go_wp2_with fail
   go_ret
   exact⟨zE HR.out.symm,rfl⟩
  ·go_wp2_with fail
   go_ret
   exact⟨zE HR.out.symm,rfl⟩
 by_cases k2:x=y
 ·have HR:Hid (dE x m y=xY zHD m):=by unfold Hid dE;rw[tg k1,tl k2]
  have b2:(x==y)=true:=by simpa using k2
  have k3:¬y<x:=by omega
  clear k2;generalize xY zHD m=p at *;generalize dE x m y=q at *
  go_enter Tryz.func139,Tryz.ntmps139
  go_wp2_with fail
  refine(H2.out w).mono ?_;rintro e w' ⟨rfl,hw⟩;obtain rfl:=hw.symm;cases p
  ·go_wp2_with fail
   go_ret
   exact⟨zE HR.out.symm,rfl⟩
  ·go_wp2_with fail
   go_ret
   exact⟨zE HR.out.symm,rfl⟩
 ·have HR:Hid (dE x m y=xY zHC m):=by unfold Hid dE;rw[tg k1,tg k2]
  have b2:(x==y)=false:=by simpa using k2
  have k3:y<x:=by omega
  clear k2;generalize xY zHC m=p at *;generalize dE x m y=q at *
  go_enter Tryz.func139,Tryz.ntmps139
  go_wp2_with fail
  refine(H3.out w).mono ?_;rintro e w' ⟨rfl,hw⟩;obtain rfl:=hw.symm;cases p
  ·go_wp2_with fail
   go_ret
   exact⟨zE HR.out.symm,rfl⟩
  ·go_wp2_with fail
   go_ret
   exact⟨zE HR.out.symm,rfl⟩
def pF(l:List Bool):List Value:=l.map Value.bool
def vD(l:List Int):List Value:=l.map (Value.int .i64)
theorem qF(a b:List Bool):pF (a++b)=pF a++pF b:=by simp[pF]
theorem vH(a:List Bool):(pF a).length=a.length:=by simp[pF]
theorem GB(a:List Int):(vD a).length=a.length:=by simp[vD]
theorem bW(l:List Int)(i:Nat)(h:i<l.length):(vD l)[i]? = some (.int .i64 (l.getD i 0)):=by simp[vD,List.getD,h]
structure mM(w:World)(a:Option Addr)(l:List Int):Prop where
 cel:jX w a (vD l)
 few:l.length<=10000
theorem mM.below{w':World}{a:Option Addr}{l:List Int}(h:mM w a l)(hb:Below w.heap.size w w'):mM w' a l:=⟨h.cel.below hb,h.few⟩
theorem mM.at{a:Option Addr}{l:List Int}(h:mM w a l){i:Nat}(hi:i<l.length):∃g,a=some ⟨g,0,none⟩/\w.cell? ⟨g,i,none⟩=some (.int .i64 (l.getD i 0)):=h.cel.at (bW l i hi)
abbrev CC(vs:List Int)(a:Int):Prop:=0<=a/\a<vs.length
abbrev Xf(vs:List Int)(a:Int):Int:=vs.getD a.toNat 0
def dZ(vs:List Int)(s:vS):Bool:=if s.kind=0 then true else if s.kind=1 then decide (Xf vs s.a=1) else if s.kind=2 then dE (Xf vs s.a) s.mark s.n else dE (Xf vs s.a) s.mark (Xf vs s.b)
def qS(vs:List Int)(s:vS)(st:List Bool):List Bool :=
 if s.kind<4 then st++[dZ vs s]
 else if s.kind=4 then st.dropLast++[!st.getLastD false]
 else if s.kind=5 then st.dropLast.dropLast++[st.dropLast.getLastD false&&st.getLastD false]
 else st.dropLast.dropLast++[st.dropLast.getLastD false || st.getLastD false]
def Bu(vs:List Int)(s:vS)(st:List Bool):Prop :=
 0<=s.kind/\(s.kind=1->CC vs s.a)/\(s.kind=2->CC vs s.a)/\(s.kind=3->CC vs s.a/\CC vs s.b)/\(s.kind=4->1<=st.length)/\(5<=s.kind->2<=st.length)
def nB(vs:List Int):List vS->List Bool->List Bool
 | [],st=>st
 | s::r,st=>nB vs r (qS vs s st)
def eB(vs:List Int):List vS->List Bool->Prop
 | [],_=>True
 | s::r,st=>Bu vs s st/\eB vs r (qS vs s st)
def bX(vs:List Int)(l:List vS):Bool:=decide ((nB vs l []).length=1)&&(nB vs l []).getD 0 false
def Xd:vS:=⟨0,0,0,[],0⟩
theorem FI(h:i<l.length):nB vs (l.drop i) st=nB vs (l.drop (i+1)) (qS vs (l.getD i Xd) st):=by
 rw[pb h,nB];simp[List.getD,h]
theorem B8(h:i<l.length):eB vs (l.drop i) st=(Bu vs (l.getD i Xd) st/\eB vs (l.drop (i+1)) (qS vs (l.getD i Xd) st)):=by
 rw[pb h,eB];simp[List.getD,h]
theorem D6{B k n g c m:Nat}{t:TypeId}{xs:List Value}(h:w.ownsRow B t k (.slice (some ⟨g,0,none⟩) n c) n xs)(hn:0<n)(hm:m<=n):w.ownsRow B t k (.slice (some ⟨g,0,none⟩) m c) m (xs.take (m*k)):=by
 have hl:=h.1;have hmk:m*k<=n*k:=Nat.mul_le_mul_right k hm;rcases h.2 with ⟨_,h2⟩|⟨g',cap,yW,h1,hB,h3,h4,h5,h6,h7⟩
 ·omega
 ·obtain⟨rfl,rfl⟩:g=g'/\c=cap:=by simpa using h1
  exact⟨by rw[p9,hl];omega,.inr ⟨g,c,yW,rfl,hB,h3,by omega,h5,h6,by rw[<-h7,List.take_take,da hmk]⟩⟩
theorem GI:(Tryz.prog.info? 4).map (fun i=>(i.zero,i.size,i.bytes))=some (some (.bool false),1,1):=by kernel_rfl
theorem F9(s:vS)(st:List Bool):(qS vs s st).length<=st.length+1:=by
 unfold qS;split
 ·simp
 ·split
  ·simp only[tq,List.length_dropLast,pd];omega
  ·split <;> (simp only[tq,List.length_dropLast,pd];omega)
theorem zEJ(w:World)(sa va:Option Addr)(sc vc:Nat)(l:List vS)(vs:List Int)(hs:jX w sa (kG l))(hl:l.length<=10000)(hv:mM w va vs)(zIP:eB vs l []) :
 Calls Tryz.prog 85 #[.slice sa l.length sc,.slice va vs.length vc] w fun e w'=>e=.returned (.bool (bX vs l))/\Below w.heap.size w w':=by
 obtain⟨i0,hi0,hz0,hz1,hz2⟩:=dp GI;have HS:=zA hs;have HV:=zA hv;have hfv:=hv.few;have HK0:=zA zIP;obtain⟨B,hB⟩:∃B,B=w.heap.size:=⟨_,rfl⟩;have HB0:=zA hB;clear hs hv zIP hB
 go_enter Tryz.func85,Tryz.ntmps85
 go_wp2_with fail
 go_loopw [5,6] (fun ov iv wr=>∃(i:Nat) (st:List Bool),i<=l.length/\st.length<=i/\iv=.int .i64 i/\Hid (wr.ownsRow B 4 1 ov st.length (pF st))/\Hid (Below B w wr)/\Hid (eB vs (l.drop i) st)/\Hid (nB vs (l.drop i) st=nB vs l [])) (fun _ iv _=>l.length-(intOf iv).toNat)
 case atStart=>exact⟨0,[],tr _,t9 _,rfl,zA (lk _ _ _ _),zA (tj _ _),HK0,zA rfl⟩
 case round =>
  obtain⟨i,st,hi,zIO,rfl,HO,HB,HK,HE⟩:=hrel;have zIJ:B<=wr.heap.size:=by have:=HB.out.size;have h2:=HB0.out;omega
  by_cases zI6:i<l.length
  ·have hbw:Below w.heap.size w wr:=by have:=HB.out;rwa [HB0.out]at this
   have hsr:=HS.out.below hbw;have HVr:=zA (HV.out.below hbw);have hget:=fun r (hr:r<5)=>zV mH 5 (fun _=>rfl) Xd l i r zI6 hr;have hE:=HE.out;rw[FI vs l i st zI6]at hE;have hK:=HK.out;rw[B8 vs l i st zI6]at hK;have HE2:=zA hE;have HK2:=zA hK;have zIC:=F9 vs (l.getD i Xd) st;obtain⟨gs,rfl,q0⟩:=hsr.at (hget 0 (by decide));have q1:=(hsr.at (hget 1 (by decide))).elim fun g' h=>(show gs=g' by simpa using h.1) ▸ h.2;have q2:=(hsr.at (hget 2 (by decide))).elim fun g' h=>(show gs=g' by simpa using h.1) ▸ h.2;have q3:=(hsr.at (hget 3 (by decide))).elim fun g' h=>(show gs=g' by simpa using h.1) ▸ h.2;have q4:=(hsr.at (hget 4 (by decide))).elim fun g' h=>(show gs=g' by simpa using h.1) ▸ h.2;rw[pq]at q0;have hgs:=zP q0;obtain⟨ov1,ov2,rfl⟩:=yH HO.out;clear HE HK hE hK hsr hget hbw;generalize hs:l.getD i Xd=s at *;obtain⟨kd,a,b,mk,nn⟩:=s;clear hs;by_cases k0:kd=0
   ·subst k0
    have e1:qS vs ⟨0,a,b,mk,nn⟩ st=st++[true]:=by simp[qS,dZ]
    have HE3:=HE2.out;rw[e1]at HE3;have HK3:=zA HK2.out.2;have hOk:=HK2.out.1;rw[e1]at HK3 zIC
    replace HE3:=zA HE3
    clear HE2 HK2 e1;clear hOk HVr
    go_wp2_with (at_builtin;refine wpList_append_own _ rfl _ _ 180 rfl B 4 i0 _ 1 1 Tryz.underlying180 hi0 hz0 hz1 hz2 rfl (by decide) _ _ _ rfl ((HO.out.alloc _).alloc _) ⟨wr.heap.size+1,0,none⟩ 1 1 [.bool (true)] rfl rfl (uT _ _ _ _ rfl (by simp)) ?c2 ?c3 ?c4 ?c5 ?_)
    case c2=>rfl
    case c3=>unfold maxLen;omega
    case c4=>omega
    case c5=>omega
    intro v' w2 zIB zIN _;have HB2:Hid (Below B w w2):=((HB.out.alloc zIJ _).alloc (by simp;omega) _).grown zIN (by simp;omega) (zN HO.out);have HO2:Hid (w2.ownsRow B 4 1 v' (st++[true]).length (pF (st++[true]))):=by unfold Hid;rw[qF,tq];exact zIB
    clear zIB zIN;go_wp2_with fail
    go_roundw
    case rel=>exact⟨i+1,st++[true],by omega,by simp;omega,by go_num,HO2,HB2,HK3,HE3⟩
    case measure=>simp[intOf];omega
   by_cases k1:kd=1
   ·subst k1
    have e1:qS vs ⟨1,a,b,mk,nn⟩ st=st++[Xf vs a==1]:=by simp[qS,dZ];rfl
    have HE3:=HE2.out;rw[e1]at HE3;have HK3:=zA HK2.out.2;have hOk:=HK2.out.1;rw[e1]at HK3 zIC
    replace HE3:=zA HE3
    clear HE2 HK2 e1;have ia:CC vs a:=hOk.2.1 rfl;clear hOk;obtain⟨na,rfl⟩:∃n:Nat,a=(n:Int):=⟨a.toNat,by have:=ia.1;omega⟩;have hna:na<vs.length:=by have:=ia.2;omega
    obtain⟨gna,rfl,cna⟩:=HVr.out.at hna;have lna:=zP cna;have mna:wr.heap.size≠gna:=by omega
    simp only[Xf,Int.toNat_natCast]at HE3 HK3 zIC;generalize vs.getD na 0=xna at *;clear ia HVr
    go_wp2_with (at_builtin;refine wpList_append_own _ rfl _ _ 180 rfl B 4 i0 _ 1 1 Tryz.underlying180 hi0 hz0 hz1 hz2 rfl (by decide) _ _ _ rfl ((HO.out.alloc _).alloc _) ⟨wr.heap.size+1,0,none⟩ 1 1 [.bool (xna==1)] rfl rfl (uT _ _ _ _ rfl (by simp)) ?c2 ?c3 ?c4 ?c5 ?_)
    case c2=>rfl
    case c3=>unfold maxLen;omega
    case c4=>omega
    case c5=>omega
    intro v' w2 zIB zIN _;have HB2:Hid (Below B w w2):=((HB.out.alloc zIJ _).alloc (by simp;omega) _).grown zIN (by simp;omega) (zN HO.out);have HO2:Hid (w2.ownsRow B 4 1 v' (st++[xna==1]).length (pF (st++[xna==1]))):=by unfold Hid;rw[qF,tq];exact zIB
    clear zIB zIN;go_wp2_with fail
    go_roundw
    case rel=>exact⟨i+1,st++[xna==1],by omega,by simp;omega,by go_num,HO2,HB2,HK3,HE3⟩
    case measure=>simp[intOf];omega
   by_cases k2:kd=2
   ·subst k2
    have e1:qS vs ⟨2,a,b,mk,nn⟩ st=st++[dE (Xf vs a) mk nn]:=by simp[qS,dZ]
    have HE3:=HE2.out;rw[e1]at HE3;have HK3:=zA HK2.out.2;have hOk:=HK2.out.1;rw[e1]at HK3 zIC
    replace HE3:=zA HE3
    clear HE2 HK2 e1;have ia:CC vs a:=hOk.2.2.1 rfl;clear hOk;obtain⟨na,rfl⟩:∃n:Nat,a=(n:Int):=⟨a.toNat,by have:=ia.1;omega⟩;have hna:na<vs.length:=by have:=ia.2;omega
    obtain⟨gna,rfl,cna⟩:=HVr.out.at hna;have lna:=zP cna;have mna:wr.heap.size≠gna:=by omega
    simp only[Xf,Int.toNat_natCast]at HE3 HK3 zIC;generalize vs.getD na 0=xna at *;clear ia HVr;have HC:=zA (fun w=>Qn xna nn mk w);generalize dE xna mk nn=z at *;go_wp2_with fail
    go_region_law (first
     | (refine step_append_lies _ (by rfl) _ _ _ (by rfl) B 4 i0 _ 1 1 Tryz.underlying180 hi0 hz0 hz1 hz2 rfl (by decide) _ st.length (pF st) (by rfl) ((HO.out.alloc _).drew.alloc _) ⟨wr.heap.size+1,0,none⟩ 1 1 [.bool z] (by rfl) (by rfl) (uT _ _ _ _ rfl (by simp)) (by simp[Value.oneCell']) (by decide) (by unfold maxLen;omega) (by omega) (by simp;omega) (wr.heap.size+1+1) (by simp) ?_;intro gg cap w2 zIB zIN zJ8 zIV)
     | (go_simp;go_at_call 139;refine(HC.out _).mono ?_;rintro e w4 ⟨rfl,hw⟩;obtain rfl:=hw.symm;show _))
    all_goals
     have HB2:Hid (Below B w w2):=((HB.out.alloc zIJ _).drew.alloc (by show B<=(wr.alloc _).heap.size;simp;omega) _).grown zIN (by show B<=((wr.alloc _).drew.alloc _).heap.size;simp;omega) (zN HO.out);have HO2:Hid (w2.ownsRow B 4 1 (.slice (some ⟨gg,0,none⟩) (st.length+1) cap) (st++[z]).length (pF (st++[z]))):=by unfold Hid;rw[qF,tq];exact zIB
     clear zIB zIN;go_wp2_with fail
     go_roundw
     case rel=>exact⟨i+1,st++[z],by omega,by simp;omega,by go_num,HO2,HB2,HK3,HE3⟩
     case measure=>simp[intOf];omega
   by_cases k3:kd=3
   ·subst k3
    have e1:qS vs ⟨3,a,b,mk,nn⟩ st=st++[dE (Xf vs a) mk (Xf vs b)]:=by simp[qS,dZ]
    have HE3:=HE2.out;rw[e1]at HE3;have HK3:=zA HK2.out.2;have hOk:=HK2.out.1;rw[e1]at HK3 zIC
    replace HE3:=zA HE3
    clear HE2 HK2 e1;have ia:CC vs a:=(hOk.2.2.2.1 rfl).1;have ib:CC vs b:=(hOk.2.2.2.1 rfl).2;clear hOk;obtain⟨na,rfl⟩:∃n:Nat,a=(n:Int):=⟨a.toNat,by have:=ia.1;omega⟩;have hna:na<vs.length:=by have:=ia.2;omega
    obtain⟨gna,rfl,cna⟩:=HVr.out.at hna;have lna:=zP cna;have mna:wr.heap.size≠gna:=by omega
    simp only[Xf,Int.toNat_natCast]at HE3 HK3 zIC;generalize vs.getD na 0=xna at *;obtain⟨nb,rfl⟩:∃n:Nat,b=(n:Int):=⟨b.toNat,by have:=ib.1;omega⟩;have hnb:nb<vs.length:=by have:=ib.2;omega
    obtain⟨gnb,hgg,cnb⟩:=HVr.out.at hnb;obtain rfl:gna=gnb:=by simpa using hgg
    have lnb:=zP cnb;have mnb:wr.heap.size≠gna:=by omega
    simp only[Int.toNat_natCast]at HE3 HK3 zIC;generalize vs.getD nb 0=xnb at *;clear ia ib HVr;have HC:=zA (fun w=>Qn xna xnb mk w);generalize dE xna mk xnb=z at *;go_wp2_with fail
    go_region_law (first
     | (refine step_append_lies _ (by rfl) _ _ _ (by rfl) B 4 i0 _ 1 1 Tryz.underlying180 hi0 hz0 hz1 hz2 rfl (by decide) _ st.length (pF st) (by rfl) ((HO.out.alloc _).drew.alloc _) ⟨wr.heap.size+1,0,none⟩ 1 1 [.bool z] (by rfl) (by rfl) (uT _ _ _ _ rfl (by simp)) (by simp[Value.oneCell']) (by decide) (by unfold maxLen;omega) (by omega) (by simp;omega) (wr.heap.size+1+1) (by simp) ?_;intro gg cap w2 zIB zIN zJ8 zIV)
     | (go_simp;go_at_call 139;refine(HC.out _).mono ?_;rintro e w4 ⟨rfl,hw⟩;obtain rfl:=hw.symm;show _))
    all_goals
     have HB2:Hid (Below B w w2):=((HB.out.alloc zIJ _).drew.alloc (by show B<=(wr.alloc _).heap.size;simp;omega) _).grown zIN (by show B<=((wr.alloc _).drew.alloc _).heap.size;simp;omega) (zN HO.out);have HO2:Hid (w2.ownsRow B 4 1 (.slice (some ⟨gg,0,none⟩) (st.length+1) cap) (st++[z]).length (pF (st++[z]))):=by unfold Hid;rw[qF,tq];exact zIB
     clear zIB zIN;go_wp2_with fail
     go_roundw
     case rel=>exact⟨i+1,st++[z],by omega,by simp;omega,by go_num,HO2,HB2,HK3,HE3⟩
     case measure=>simp[intOf];omega
   by_cases k4:kd=4
   ·subst k4
    have e1:qS vs ⟨4,a,b,mk,nn⟩ st=st.dropLast++[!st.getLastD false]:=by simp[qS]
    have HE3:=HE2.out;rw[e1]at HE3;have HK3:=zA HK2.out.2;have hOk:=HK2.out.1;rw[e1]at HK3 zIC
    replace HE3:=zA HE3
    clear HE2 HK2 e1;have h1:1<=st.length:=hOk.2.2.2.2.1 rfl;obtain⟨st',bb,rfl⟩:∃a b,st=a++[b]:=⟨_,_,(dd (dv h1)).symm⟩;simp only[List.dropLast_concat,List.getLastD_concat]at HE3 HK3 zIC;rw[tq,pd]at HO zIO;obtain⟨og,oc,hov,-⟩:=oC HO.out (by omega);obtain⟨rfl,rfl⟩:ov1=some ⟨og,0,none⟩/\ov2=oc:=by simpa using hov
    have hput:=fun u=>dM HO.out (by omega) (j:=st'.length) (by omega) u;have hp0:=dM HO.out (by omega) (j:=st'.length) (by omega) (.bool true);have hfz:=hp0.2.1;have hcl:wr.cell? ⟨og,st'.length,none⟩=some (.bool bb):=by rw[hp0.2.2.1,qF,pf (by rw[vH];exact t9 _),vH,bj];rfl
    have hBg:=hp0.2.2.2.1;have log:=hp0.2.2.2.2;have mog:wr.heap.size≠og:=by omega
    have zJ0:Hid (∀x,(pF (st'++[bb])).set st'.length (.bool x)=pF (st'++[x])):=fun x=>by
     rw[qF,qF,List.set_append_right _ _ (by rw[vH];exact t9 _),vH,bj];rfl
    have HPut:=zA hput;clear hput hp0 hOk HVr hov h1;go_wp2_with fail
    go_roundw
    case rel=>exact⟨i+1,st'++[!bb],by omega,by simp;omega,by go_num,by unfold Hid;rw[tq,tq,pd,pd,<-zJ0.out];exact(HPut.out _).1.alloc _,zA ((HB.out.setCell (p:=⟨og,st'.length,none⟩) hBg _).alloc (by simpa[World.setCell] using zIJ) _),HK3,HE3⟩
    case measure=>simp[intOf];omega
   by_cases k5:kd=5
   ·subst k5
    have e1:qS vs ⟨5,a,b,mk,nn⟩ st=st.dropLast.dropLast++[st.dropLast.getLastD false&&st.getLastD false]:=by simp[qS]
    have HE3:=HE2.out;rw[e1]at HE3;have HK3:=zA HK2.out.2;have hOk:=HK2.out.1;rw[e1]at HK3 zIC
    replace HE3:=zA HE3
    clear HE2 HK2 e1;have h1:2<=st.length:=hOk.2.2.2.2.2 (show (5:Int)<=5 from dk _)
    obtain⟨st',xx,yy,rfl⟩:∃a b c,st=a++[b,c]:=by
     obtain⟨s1,y,rfl⟩:∃a b,st=a++[b]:=⟨_,_,(dd (dv (by omega))).symm⟩;rw[tq,pd]at h1;obtain⟨s2,x,rfl⟩:∃a b,s1=a++[b]:=⟨_,_,(dd (dv (by omega))).symm⟩;exact⟨s2,x,y,by simp⟩
    rw[show st'++[xx,yy]=st'++[xx]++[yy] by simp]at HE3 HK3 zIC;simp only[List.dropLast_concat,List.getLastD_concat]at HE3 HK3 zIC;rw[tq,show [xx,yy].length=2 from rfl]at HO zIO;obtain⟨og,oc,hov,-⟩:=oC HO.out (by omega);obtain⟨rfl,rfl⟩:ov1=some ⟨og,0,none⟩/\ov2=oc:=by simpa using hov
    have hput:=fun u=>dM HO.out (by omega) (j:=st'.length) (by omega) u;have hp0:=dM HO.out (by omega) (j:=st'.length) (by omega) (.bool true);have hp1:=dM HO.out (by omega) (j:=st'.length+1) (by omega) (.bool true);have hfz:=hp0.2.1;have hcl:wr.cell? ⟨og,st'.length,none⟩=some (.bool xx):=by rw[hp0.2.2.1,qF,pf (by rw[vH];exact t9 _),vH,bj];rfl
    have hcm:wr.cell? ⟨og,st'.length+1,none⟩=some (.bool yy):=by rw[hp1.2.2.1,qF,pf (by rw[vH];omega),vH,show st'.length+1-st'.length=1 by omega];rfl
    have hBg:=hp0.2.2.2.1;have log:=hp0.2.2.2.2;have mog:wr.heap.size≠og:=by omega
    have hoc:st'.length+2<=ov2:=by
     obtain⟨a9,c9,e9,_,h9,_⟩:=dN HO.out;obtain⟨-,rfl⟩:_/\ov2=c9:=by simpa using e9
     exact h9
    have HPut:Hid (∀x,(wr.setCell ⟨og,st'.length,none⟩ (.bool x)).ownsRow B 4 1 (.slice (some ⟨og,0,none⟩) (st'.length+1) ov2) (st'.length+1) (pF (st'++[x]))):=fun x=>by
     have h8:=D6 (m:=st'.length+1) (hput (.bool x)).1 (by omega) (by omega);rw[qF,List.set_append_right _ _ (by rw[vH];exact t9 _),vH,bj,show (pF [xx,yy]).set 0 (.bool x)=[.bool x,.bool yy] from rfl,List.take_append,vH,cf (by rw[vH];omega),show (st'.length+1)*1-st'.length=1 by omega]at h8;rw[qF];exact h8
    clear hput hp0 hp1 hOk HVr hov h1;cases xx
    ·go_wp2_with fail
     go_roundw
     case rel=>exact⟨i+1,st'++[false],by omega,by simp;omega,by go_num,by unfold Hid;rw[tq,pd];exact(HPut.out _).alloc _,zA ((HB.out.setCell (p:=⟨og,st'.length,none⟩) hBg _).alloc (by simpa[World.setCell] using zIJ) _),HK3,HE3⟩
     case measure=>simp[intOf];omega
    ·go_wp2_with fail
     go_roundw
     case rel=>exact⟨i+1,st'++[yy],by omega,by simp;omega,by go_num,by unfold Hid;rw[tq,pd];exact(HPut.out _).alloc _,zA ((HB.out.setCell (p:=⟨og,st'.length,none⟩) hBg _).alloc (by simpa[World.setCell] using zIJ) _),HK3,HE3⟩
     case measure=>simp[intOf];omega
   ·have hk0:0<=kd:=HK2.out.1.1
    have e1:qS vs ⟨kd,a,b,mk,nn⟩ st=st.dropLast.dropLast++[st.dropLast.getLastD false || st.getLastD false]:=by
     unfold qS;rw[tg (by show ¬kd<4;omega),tg k4,tg k5]
    have HE3:=HE2.out;rw[e1]at HE3;have HK3:=zA HK2.out.2;have hOk:=HK2.out.1;rw[e1]at HK3 zIC
    replace HE3:=zA HE3
    have h1:2<=st.length:=hOk.2.2.2.2.2 (by show 5<=kd;omega);have b0:(kd==0)=false:=by simpa using k0
    have b1:(kd==1)=false:=by simpa using k1
    have b2:(kd==2)=false:=by simpa using k2
    have b3:(kd==3)=false:=by simpa using k3
    have b4:(kd==4)=false:=by simpa using k4
    have b5:(kd==5)=false:=by simpa using k5
    clear HE2 HK2 e1 k0 k1 k2 k3 k4 k5 hk0
    obtain⟨st',xx,yy,rfl⟩:∃a b c,st=a++[b,c]:=by
     obtain⟨s1,y,rfl⟩:∃a b,st=a++[b]:=⟨_,_,(dd (dv (by omega))).symm⟩;rw[tq,pd]at h1;obtain⟨s2,x,rfl⟩:∃a b,s1=a++[b]:=⟨_,_,(dd (dv (by omega))).symm⟩;exact⟨s2,x,y,by simp⟩
    rw[show st'++[xx,yy]=st'++[xx]++[yy] by simp]at HE3 HK3 zIC;simp only[List.dropLast_concat,List.getLastD_concat]at HE3 HK3 zIC;rw[tq,show [xx,yy].length=2 from rfl]at HO zIO;obtain⟨og,oc,hov,-⟩:=oC HO.out (by omega);obtain⟨rfl,rfl⟩:ov1=some ⟨og,0,none⟩/\ov2=oc:=by simpa using hov
    have hput:=fun u=>dM HO.out (by omega) (j:=st'.length) (by omega) u;have hp0:=dM HO.out (by omega) (j:=st'.length) (by omega) (.bool true);have hp1:=dM HO.out (by omega) (j:=st'.length+1) (by omega) (.bool true);have hfz:=hp0.2.1;have hcl:wr.cell? ⟨og,st'.length,none⟩=some (.bool xx):=by rw[hp0.2.2.1,qF,pf (by rw[vH];exact t9 _),vH,bj];rfl
    have hcm:wr.cell? ⟨og,st'.length+1,none⟩=some (.bool yy):=by rw[hp1.2.2.1,qF,pf (by rw[vH];omega),vH,show st'.length+1-st'.length=1 by omega];rfl
    have hBg:=hp0.2.2.2.1;have log:=hp0.2.2.2.2;have mog:wr.heap.size≠og:=by omega
    have hoc:st'.length+2<=ov2:=by
     obtain⟨a9,c9,e9,_,h9,_⟩:=dN HO.out;obtain⟨-,rfl⟩:_/\ov2=c9:=by simpa using e9
     exact h9
    have HPut:Hid (∀x,(wr.setCell ⟨og,st'.length,none⟩ (.bool x)).ownsRow B 4 1 (.slice (some ⟨og,0,none⟩) (st'.length+1) ov2) (st'.length+1) (pF (st'++[x]))):=fun x=>by
     have h8:=D6 (m:=st'.length+1) (hput (.bool x)).1 (by omega) (by omega);rw[qF,List.set_append_right _ _ (by rw[vH];exact t9 _),vH,bj,show (pF [xx,yy]).set 0 (.bool x)=[.bool x,.bool yy] from rfl,List.take_append,vH,cf (by rw[vH];omega),show (st'.length+1)*1-st'.length=1 by omega]at h8;rw[qF];exact h8
    clear hput hp0 hp1 hOk HVr hov h1;cases xx
    ·go_wp2_with fail
     go_roundw
     case rel=>exact⟨i+1,st'++[yy],by omega,by simp;omega,by go_num,by unfold Hid;rw[tq,pd];exact(HPut.out _).alloc _,zA ((HB.out.setCell (p:=⟨og,st'.length,none⟩) hBg _).alloc (by simpa[World.setCell] using zIJ) _),HK3,HE3⟩
     case measure=>simp[intOf];omega
    ·go_wp2_with fail
     go_roundw
     case rel=>exact⟨i+1,st'++[true],by omega,by simp;omega,by go_num,by unfold Hid;rw[tq,pd];exact(HPut.out _).alloc _,zA ((HB.out.setCell (p:=⟨og,st'.length,none⟩) hBg _).alloc (by simpa[World.setCell] using zIJ) _),HK3,HE3⟩
     case measure=>simp[intOf];omega
  ·have HE3:Hid (bX vs l=(decide (st.length=1)&&st.getD 0 false)):=by have:=HE.out;rw[tu (by omega)]at this;unfold Hid bX;rw[<-this];rfl
   clear HE HK;obtain⟨ov1,ov2,rfl⟩:=yH HO.out;by_cases h1:st.length=1
   ·obtain⟨x,rfl⟩:∃x,st=[x]:=List.length_eq_one_iff.1 h1
    have HE4:Hid (bX vs l=x):=by have:=HE3.out;unfold Hid;rw[this];rfl
    obtain⟨og,oc,hov,hsrc⟩:=oC HO.out (Nat.zero_lt_one);obtain⟨rfl,rfl⟩:ov1=some ⟨og,0,none⟩/\ov2=oc:=by simpa using hov
    have hcl:wr.cell? ⟨og,0,none⟩=some (.bool x):=by have:=hsrc 0 _ rfl;rwa [Qv]at this
    clear hsrc h1 hov HE3;go_wp2_with fail
    go_ret
    exact⟨zE HE4.out.symm,by rw[<-HB0.out];exact HB.out⟩
   ·have HE4:Hid (bX vs l=false):=by have:=HE3.out;rw[th h1]at this;exact this
    have b1:((st.length:Int)==1)=false:=by simpa using (by omega:¬(st.length:Int)=1)
    clear h1 HE3;go_wp2_with fail
    go_ret
    exact⟨zE HE4.out.symm,by rw[<-HB0.out];exact HB.out⟩
end Go.Proofs.YtnbpdffdnphbeaaGreatDoor
