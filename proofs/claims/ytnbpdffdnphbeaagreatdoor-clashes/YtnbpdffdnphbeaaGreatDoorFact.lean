import Derived.Test.YtnbpdffdnphbeaaGreatDoorTerms
set_option maxHeartbeats 1000000
namespace Go.Proofs.YtnbpdffdnphbeaaGreatDoor
open Go.RowKit
variable{tests dep:Int}{nd:List zX}{G:Nat}{w:World}(R g cap:Nat)(P:List PT)
theorem Uq{root:Int}(h:Gd w G nd root tests dep):w.cell? ⟨G,2,none⟩=some (.int .i64 tests)/\w.cell? ⟨G,3,none⟩=some (.int .i64 dep)/\(∀o,w.frozen? ⟨G,o,none⟩=false):=by
 obtain⟨nv,h1,_⟩:=h;unfold sK at h1;exact⟨by rw[fg w G 2 _ _ _ h1];rfl,by rw[fg w G 3 _ _ _ h1];rfl,fun o=>by simp[World.frozen?,h1]⟩
theorem J0{root:Int}(h:Gd w G nd root tests dep):Gd (w.setCell ⟨G,2,none⟩ (.int .i64 (tests+1))) G nd root (tests+1) dep:=by
 obtain⟨nv,h1,h2⟩:=h;refine⟨nv,?_,xA h2 (mh G)⟩;unfold sK at h1 ⊢;rw[m6 w G 2 _ _ _ h1];simp
theorem zDT{root d:Int}(h:Gd w G nd root tests dep):Gd (w.setCell ⟨G,3,none⟩ (.int .i64 d)) G nd root tests d:=by
 obtain⟨nv,h1,h2⟩:=h;refine⟨nv,?_,xA h2 (mh G)⟩;unfold sK at h1 ⊢;rw[m6 w G 3 _ _ _ h1];simp
theorem Below.setG{o:Nat}{u:Value}:Below G w (w.setCell ⟨G,o,none⟩ u):=(tj _ _).setCell (p:=⟨G,o,none⟩) (t9 _) u
theorem Gd.alloc{root:Int}(h:Gd w G nd root tests dep)(o:Obj):Gd (w.alloc o) G nd root tests dep:=by
 have zI6:=h.lt;obtain⟨nv,h1,h2⟩:=h;exact⟨nv,by rw[mq _ _ _ zI6];exact h1,h2.alloc _⟩
theorem zAB(G:Nat)(root:Int)(n:Nat)(hf:QA R g cap P G root n)(w:World)(q:GS)(d:Int)(zIK:Yi w R g cap P G root q)(zIP:zBN P q d)(hn:P.length-q.s.1<=n+1)(h1:(zC P yY q.s).1=true) :
 Calls Tryz.prog 259 #[.pointer (some ⟨R,0,none⟩),.pointer (some ⟨G,0,none⟩),.int .i64 d] w fun e w'=>e=.returned (.int .i64 (xF P (n+1) q d).1)/\Yi w' R g cap P G root (xF P (n+1) q d).2/\zB G R w w'/\Z7 P q (xF P (n+1) q d).2:=by
 have hGl:=zIK.gd.lt;have zJ8:=zIK.ctx.at';have hmany:=zIK.ctx.many;have zIO:=qU h1;have hps:=X2 h1 zJ8
 have HF:Hid (xF P (n+1) q d=((((xF P n (q.to (zC P yY q.s).2) (d+1)).2.nd.length:Nat):Int),(xF P n (q.to (zC P yY q.s).2) (d+1)).2.add ⟨3,(xF P n (q.to (zC P yY q.s).2) (d+1)).1,0,[],[],[],0⟩)):=by
  unfold Hid;rw[xF,h1]
 have hok1:zBN P (q.to (zC P yY q.s).2) (d+1):=⟨zIP.t0,zIP.t1,by have:=zIP.room;omega,by have:=zIP.d0;omega,by have:=zIP.d1;show d+1<=(((zC P yY q.s).2.1:Nat):Int);rw[zIO];omega⟩;have hn1:P.length-(q.to (zC P yY q.s).2).s.1<=n:=by show P.length-(zC P yY q.s).2.1<=n;rw[zIO];omega
 have hs1:(q.to (zC P yY q.s).2).s.1=q.s.1+1:=zIO;have HFa:=zA hf;have HIn:=zA zIK;have HOk:=zA zIP;have H1:=zA h1;have hd0:=zIP.d0;have hd1:=zIP.d1;generalize xF P (n+1) q d=F at *;clear hf zIK zIP h1 zIO
 go_enter Tryz.func259,Tryz.ntmps259
 go_wp2_with fail
 refine(vJ R g cap P _ q.s yY HIn.out.ctx).mono ?_;rintro e w1 ⟨rfl,hc1,hk1⟩;rw[H1.out];have hi1:=HIn.out.read hc1 hk1;have HK1:Hid (zB G R w w1):=hk1.of_size (p8 hGl);have hG1:=hi1.gd.lt;generalize q.to (zC P yY q.s).2=q1 at *;have HI1:=zA (HFa.out w1 q1 (d+1) hi1 hok1 hn1);clear hc1 hk1 hi1 hok1 hn1;go_wp2_with fail
 refine HI1.out.mono ?_;rintro e w2 ⟨rfl,hi2,hk2,hg2⟩;have HI2:=zA hi2;have HK2:Hid (zB G R w w2):=HK1.out.trans hk2;have HG2:=zA hg2;generalize xF P n q1 (d+1)=y at *;obtain⟨r,q2⟩:=y;simp only at HF HI2 HG2;have hp2:=HG2.out.pot';have hro:=HOk.out.room;have hnd2:q2.nd.length<=Yr P q2:=by unfold Yr;omega
 have hnd:q2.nd.length<=10000:=by omega
 clear hi2 hk2 hg2 HI1;go_wp2_with fail
 refine(UK w2 G q2.nd root q2.tests q2.dep ⟨3,r,0,[],[],[],0⟩ HI2.out.gd hnd).mono ?_;rintro e w3 ⟨rfl,hgd3,hb3⟩;have HI3:=zA (HI2.out.added hgd3 hb3);have HK3:Hid (zB G R w w3):=HK2.out.trans (zB.of_belowG hb3);have hmo:=HG2.out.mono;have HGo:Hid (Z7 P q (q2.add ⟨3,r,0,[],[],[],0⟩)):=⟨by show q.s.1<=q2.s.1;omega,by show (q2.nd++[_]).length+2*(P.length-q2.s.1)<=_;rw[tq,pd];unfold Yr at hp2 hps ⊢;omega,HG2.out.t0,by show q2.tests<=((q2.nd++[_]).length:Int);rw[tq];have:=HG2.out.t1;omega⟩;clear hgd3 hb3;go_wp2_with fail
 go_ret
 rw[HF.out];exact⟨rfl,HI3.out,HK3.out,HGo.out⟩
theorem zb(G:Nat)(root:Int)(n:Nat)(ha:Va R g cap P G root n)(w:World)(q:GS)(d:Int)(zIK:Yi w R g cap P G root q)(zIP:zBN P q d)(hn:P.length-q.s.1<=n+1)(h1:(zC P yY q.s).1=false)(h2:(zC P yQ (zC P yY q.s).2).1=true) :
 Calls Tryz.prog 259 #[.pointer (some ⟨R,0,none⟩),.pointer (some ⟨G,0,none⟩),.int .i64 d] w fun e w'=>e=.returned (.int .i64 (xF P (n+1) q d).1)/\Yi w' R g cap P G root (xF P (n+1) q d).2/\zB G R w w'/\Z7 P q (xF P (n+1) q d).2:=by
 have hGl:=zIK.gd.lt;have zJ8:=zIK.ctx.at';have hmany:=zIK.ctx.many;have hs0:(zC P yY q.s).2.1=q.s.1:=by simp only[zC]at h1 ⊢;rw[h1];rfl
 have zIO:=qU h2
 have HF:Hid (xF P (n+1) q d=((ZG P n (q.to (zC P yQ (zC P yY q.s).2).2) (d+1)).1,(ZG P n (q.to (zC P yQ (zC P yY q.s).2).2) (d+1)).2.to (zU P xS (ZG P n (q.to (zC P yQ (zC P yY q.s).2).2) (d+1)).2.s))):=by
  unfold Hid;rw[xF,h1];simp only[h2];rfl
 have hs1:(q.to (zC P yQ (zC P yY q.s).2).2).s.1=q.s.1+1:=by show (zC P yQ (zC P yY q.s).2).2.1=_;rw[zIO,hs0]
 have hpp:Yr P (q.to (zC P yQ (zC P yY q.s).2).2)+2=Yr P q:=by unfold Yr;rw[hs1];show q.nd.length+_+2=_;omega
 have hok1:zBN P (q.to (zC P yQ (zC P yY q.s).2).2) (d+1):=⟨zIP.t0,zIP.t1,by have:=zIP.room;omega,by have:=zIP.d0;omega,by have:=zIP.d1;rw[hs1];omega⟩;have hn1:P.length-(q.to (zC P yQ (zC P yY q.s).2).2).s.1<=n:=by rw[hs1];omega
 have HA:=zA ha;have HIn:=zA zIK;have HOk:=zA zIP;have H1:=zA h1;have H2:=zA h2;have hd0:=zIP.d0;have hd1:=zIP.d1;generalize xF P (n+1) q d=F at *;clear ha zIK zIP h1 h2 zIO hs0
 go_enter Tryz.func259,Tryz.ntmps259
 go_wp2_with fail
 refine(vJ R g cap P _ q.s yY HIn.out.ctx).mono ?_;rintro e w1 ⟨rfl,hc1,hk1⟩;rw[H1.out];have hi1:=HIn.out.read hc1 hk1;have HK1:Hid (zB G R w w1):=hk1.of_size (p8 hGl);have hG1:=hi1.gd.lt;have HC1:=zA hc1;have HI1:=zA hi1;clear hc1 hk1 hi1;go_wp2_with fail
 refine(vJ R g cap P _ (zC P yY q.s).2 yQ HC1.out).mono ?_;rintro e w2 ⟨rfl,hc2,hk2⟩;rw[H2.out];have hi2:Yi w2 R g cap P G root (q.to (zC P yQ (zC P yY q.s).2).2):=HI1.out.read hc2 hk2;have HK2:Hid (zB G R w w2):=HK1.out.trans (hk2.of_size (p8 hG1));generalize q.to (zC P yQ (zC P yY q.s).2).2=q1 at *;have HI2:=zA (HA.out w2 q1 (d+1) hi2 hok1 hn1);clear hc2 hk2 hi2 hok1 hn1 HI1 HC1;go_wp2_with fail
 refine HI2.out.mono ?_;rintro e w3 ⟨rfl,hi3,hk3,hg3⟩;have HI3:=zA hi3;have HK3:Hid (zB G R w w3):=HK2.out.trans hk3;have HG3:=zA hg3;generalize ZG P n q1 (d+1)=y at *;obtain⟨r,q2⟩:=y;simp only at HF HI3 HG3;have hG3:=HI3.out.gd.lt;have hp3:=HG3.out.pot';clear hi3 hk3 hg3 HI2;go_wp2_with fail
 refine(gH R g cap P _ q2.s xS HI3.out.ctx).mono ?_;rintro e w4 ⟨rfl,hc4,hk4⟩;have HI4:=zA (HI3.out.read hc4 hk4);have HK4:Hid (zB G R w w4):=HK3.out.trans (hk4.of_size (p8 hG3));have hmo:=HG3.out.mono;have hwm:q2.s.1<=(zU P xS q2.s).1:=fP _ _;have HGo:Hid (Z7 P q (q2.to (zU P xS q2.s))):=⟨by show q.s.1<=(zU P xS q2.s).1;omega,by have h9:=BT (P:=P) (q:=q2) hwm;omega,HG3.out.t0,HG3.out.t1⟩;clear hc4 hk4;go_wp2_with fail
 go_ret
 rw[HF.out];exact⟨rfl,HI4.out,HK4.out,HGo.out⟩
theorem iB(s:St):s.1<=(vA P s).2.1:=by
 have k1:=fun t s=>xN P t s;have k2:∀s,s.1<=(zI P s).2.1:=fun s=>fP _ _;have k3:∀s,s.1<=(yM P s).2.1:=fun s=>fP _ _
 have k4:∀s,s.1<=(vV P s).2.1:=by
  intro s;unfold vV;split
  ·split <;> exact xN P _ s
  ·exact t9 _
 unfold vA;split
 ·exact k1 _ _
 ·split
  ·exact tx (k1 _ _) (tx (k1 _ _) (k2 _))
  ·split
   ·exact tx (k1 _ _) (tx (k1 _ _) (tx (k2 _) (k4 _)))
   ·split
    ·exact tx (k1 _ _) (tx (k1 _ _) (tx (k2 _) (tx (k4 _) (k3 _))))
    ·exact tx (k1 _ _) (tx (k1 _ _) (tx (k2 _) (tx (k4 _) (k2 _))))
theorem GZ(G:Nat)(root:Int)(n:Nat)(w:World)(q:GS)(d:Int)(zIK:Yi w R g cap P G root q)(zIP:zBN P q d)(h1:(zC P yY q.s).1=false)(h2:(zC P yQ (zC P yY q.s).2).1=false) :
 Calls Tryz.prog 259 #[.pointer (some ⟨R,0,none⟩),.pointer (some ⟨G,0,none⟩),.int .i64 d] w fun e w'=>e=.returned (.int .i64 (xF P (n+1) q d).1)/\Yi w' R g cap P G root (xF P (n+1) q d).2/\zB G R w w'/\Z7 P q (xF P (n+1) q d).2:=by
 have hGl:=zIK.gd.lt;have zJ8:=zIK.ctx.at';have hmany:=zIK.ctx.many
 have HF:Hid (xF P (n+1) q d=(((q.nd.length:Nat):Int),(((q.tested d).to (vA P (zC P yQ (zC P yY q.s).2).2).2).add (vA P (zC P yQ (zC P yY q.s).2).2).1))):=by
  unfold Hid;rw[xF,h1];simp only[h2]
 have hs2:(zC P yQ (zC P yY q.s).2).2.1=q.s.1:=by
  simp only[zC]at h1 h2 ⊢;rw[h2,h1];rfl
 have HM:=zA (iB P);have hnd:q.nd.length<=10000:=by have:=zIP.room;unfold Yr at this;omega
 have ht0:=zIP.t0;have ht1:=zIP.t1;have hd0:=zIP.d0;have hd1:=zIP.d1;have nR:G≠R:=by have:=zIK.rG;omega
 have ng:G≠g:=by have:=zIK.gG;omega
 have HIn:=zA zIK;have H1:=zA h1;have H2:=zA h2;generalize xF P (n+1) q d=F at *;clear zIK zIP h1 h2;by_cases hdp:q.dep<d
 ·have hEx:∀(s:St) (x:zX),((q.tested d).to s).add x=⟨s,q.nd++[x],q.tests+1,d⟩:=by intro s x;simp only[GS.tested,GS.to,GS.add];rw[tl hdp]
  have HEx:=zA hEx;clear hEx
  go_enter Tryz.func259,Tryz.ntmps259
  go_wp2_with fail
  refine(vJ R g cap P _ q.s yY HIn.out.ctx).mono ?_;rintro e w1 ⟨rfl,hc1,hk1⟩;rw[H1.out];have hi1:=HIn.out.read hc1 hk1;have HK1:Hid (zB G R w w1):=hk1.of_size (p8 hGl);have hG1:=hi1.gd.lt;have HC1:=zA hc1;have HI1:=zA hi1;clear hc1 hk1 hi1;go_wp2_with fail
  refine(vJ R g cap P _ (zC P yY q.s).2 yQ HC1.out).mono ?_;rintro e w2 ⟨rfl,hc2,hk2⟩;rw[H2.out];have hi2:Yi w2 R g cap P G root (q.to (zC P yQ (zC P yY q.s).2).2):=HI1.out.read hc2 hk2;have HK2:Hid (zB G R w w2):=HK1.out.trans (hk2.of_size (p8 hG1));obtain⟨gc2,gc3,gfz⟩:=Uq hi2.gd;have hG2:=hi2.gd.lt;have HI2:=zA hi2;clear hc2 hk2 hi2 HI1 HC1;generalize (zC P yQ (zC P yY q.s).2).2=s2 at *;simp only[GS.to]at gc2 gc3;go_wp2_with fail
  refine(vt _ R g cap P s2 (yO.set (yO.set HI2.out.ctx nR ng) nR ng)).mono ?_;rintro e w3 ⟨rfl,hc3,hk3⟩;have hgd3:Gd w3 G q.nd root (q.tests+1) d:=Gd.keeps (zDT (J0 HI2.out.gd)) hk3 HIn.out.rG;have HK3:Hid (zB G R w w3):=HK2.out.trans ((zB.of_belowG (Below.setG.trans Below.setG)).trans (hk3.of_size (by simp only[zL];omega)));have HC3:=zA hc3;have HGd3:=zA hgd3;have hmo:=HM.out s2;clear hc3 hk3 hgd3 gc2 gc3 gfz HM;have hG3:=HGd3.out.lt;generalize hpt:vA P s2=y at *;obtain⟨x,s3⟩:=y;simp only at HF HC3 hmo;obtain⟨xk,xl,xr,xn,xm,xo,xu⟩:=x;simp only[jQ];clear hpt;go_wp2_with fail
  refine(UK (w3.alloc _) G q.nd root (q.tests+1) d ⟨xk,xl,xr,xn,xm,xo,xu⟩ (Gd.alloc HGd3.out _) hnd).mono ?_;rintro e w4 ⟨rfl,hgd4,hb4⟩;have hi4:Yi w4 R g cap P G root ⟨s3,q.nd++[⟨xk,xl,xr,xn,xm,xo,xu⟩],q.tests+1,d⟩:=⟨(yO.alloc HC3.out _).belowG hb4 HIn.out.rG HIn.out.gG,hgd4,HIn.out.rG,HIn.out.gG⟩;have HI4:=zA hi4;have HK4:Hid (zB G R w w4):=HK3.out.trans ((zB.alloc (zB.refl _ _ _) (p8 hG3) _).trans (zB.of_belowG hb4));clear hgd4 hb4 hi4;go_wp2_with fail
  go_ret
  rw[HF.out,HEx.out];refine⟨rfl,HI4.out,HK4.out,⟨by show q.s.1<=s3.1;omega,?_,by show 0<=q.tests+1;omega,?_⟩⟩
  ·show (q.nd++[_]).length+2*(P.length-s3.1)<=Yr P q+1
   unfold Yr;rw[tq,pd];omega
  ·show q.tests+1<=((q.nd++[_]).length:Int)
   rw[tq,pd];omega
 ·have hEx:∀(s:St) (x:zX),((q.tested d).to s).add x=⟨s,q.nd++[x],q.tests+1,q.dep⟩:=by intro s x;simp only[GS.tested,GS.to,GS.add];rw[tg hdp]
  have HEx:=zA hEx;clear hEx
  go_enter Tryz.func259,Tryz.ntmps259
  go_wp2_with fail
  refine(vJ R g cap P _ q.s yY HIn.out.ctx).mono ?_;rintro e w1 ⟨rfl,hc1,hk1⟩;rw[H1.out];have hi1:=HIn.out.read hc1 hk1;have HK1:Hid (zB G R w w1):=hk1.of_size (p8 hGl);have hG1:=hi1.gd.lt;have HC1:=zA hc1;have HI1:=zA hi1;clear hc1 hk1 hi1;go_wp2_with fail
  refine(vJ R g cap P _ (zC P yY q.s).2 yQ HC1.out).mono ?_;rintro e w2 ⟨rfl,hc2,hk2⟩;rw[H2.out];have hi2:Yi w2 R g cap P G root (q.to (zC P yQ (zC P yY q.s).2).2):=HI1.out.read hc2 hk2;have HK2:Hid (zB G R w w2):=HK1.out.trans (hk2.of_size (p8 hG1));obtain⟨gc2,gc3,gfz⟩:=Uq hi2.gd;have hG2:=hi2.gd.lt;have HI2:=zA hi2;clear hc2 hk2 hi2 HI1 HC1;generalize (zC P yQ (zC P yY q.s).2).2=s2 at *;simp only[GS.to]at gc2 gc3;go_wp2_with fail
  refine(vt _ R g cap P s2 (yO.set HI2.out.ctx nR ng)).mono ?_;rintro e w3 ⟨rfl,hc3,hk3⟩;have hgd3:Gd w3 G q.nd root (q.tests+1) q.dep:=Gd.keeps (J0 HI2.out.gd) hk3 HIn.out.rG;have HK3:Hid (zB G R w w3):=HK2.out.trans ((zB.of_belowG (Below.setG)).trans (hk3.of_size (by simp only[zL];omega)));have HC3:=zA hc3;have HGd3:=zA hgd3;have hmo:=HM.out s2;clear hc3 hk3 hgd3 gc2 gc3 gfz HM;have hG3:=HGd3.out.lt;generalize hpt:vA P s2=y at *;obtain⟨x,s3⟩:=y;simp only at HF HC3 hmo;obtain⟨xk,xl,xr,xn,xm,xo,xu⟩:=x;simp only[jQ];clear hpt;go_wp2_with fail
  refine(UK (w3.alloc _) G q.nd root (q.tests+1) q.dep ⟨xk,xl,xr,xn,xm,xo,xu⟩ (Gd.alloc HGd3.out _) hnd).mono ?_;rintro e w4 ⟨rfl,hgd4,hb4⟩;have hi4:Yi w4 R g cap P G root ⟨s3,q.nd++[⟨xk,xl,xr,xn,xm,xo,xu⟩],q.tests+1,q.dep⟩:=⟨(yO.alloc HC3.out _).belowG hb4 HIn.out.rG HIn.out.gG,hgd4,HIn.out.rG,HIn.out.gG⟩;have HI4:=zA hi4;have HK4:Hid (zB G R w w4):=HK3.out.trans ((zB.alloc (zB.refl _ _ _) (p8 hG3) _).trans (zB.of_belowG hb4));clear hgd4 hb4 hi4;go_wp2_with fail
  go_ret
  rw[HF.out,HEx.out];refine⟨rfl,HI4.out,HK4.out,⟨by show q.s.1<=s3.1;omega,?_,by show 0<=q.tests+1;omega,?_⟩⟩
  ·show (q.nd++[_]).length+2*(P.length-s3.1)<=Yr P q+1
   unfold Yr;rw[tq,pd];omega
  ·show q.tests+1<=((q.nd++[_]).length:Int)
   rw[tq,pd];omega
theorem zAC(G:Nat)(root:Int)(n:Nat):QA R g cap P G root n:=by
 induction n with
 | zero=>intro w q d zIK _ hn;have:=zIK.ctx.at';omega
 | succ n ih =>
   intro w q d zIK zIP hn;cases h1:(zC P yY q.s).1
   ·cases h2:(zC P yQ (zC P yY q.s).2).1
    ·exact GZ R g cap P G root n w q d zIK zIP h1 h2
    ·exact zb R g cap P G root n (zEV R g cap P G root n (Dq R g cap P G root n ih)) w q d zIK zIP hn h1 h2
   ·exact zAB R g cap P G root n ih w q d zIK zIP hn h1
theorem zED(G:Nat)(root:Int)(n:Nat):Va R g cap P G root n :=
 zEV R g cap P G root n (Dq R g cap P G root n (zAC R g cap P G root n))
def vY(P:List PT)(s:St):Int × GS:=ZG P P.length ⟨s,[],0,0⟩ 0
def ZQ(nv:Value)(y:Int × GS):Value:=.agg #[nv,.int .i64 y.1,.int .i64 y.2.tests,.int .i64 y.2.dep]
theorem xC{b b':Nat}{e:TypeId}{size:Nat}{v:Value}{n:Nat}{xs:List Value}(h:w.ownsRow b e size v n xs)(hb:b'<=b):w.ownsRow b' e size v n xs:=by
 refine⟨h.1,?_⟩;rcases h.2 with h1|⟨g,cap,yW,h1,h2,r⟩
 ·exact .inl h1
 ·exact .inr ⟨g,cap,yW,h1,tx hb h2,r⟩
theorem zDO(w:World)(R g cap:Nat)(P:List PT)(s:St)(h:vK w R g cap P s) :
 Calls Tryz.prog 214 #[.pointer (some ⟨R,0,none⟩)] w fun e w'=>∃nv,e=.returned (ZQ nv (vY P s))/\w'.ownsRow w.heap.size 304 7 nv (vY P s).2.nd.length (fZ (vY P s).2.nd)/\vK w' R g cap P (vY P s).2.s/\zB w.heap.size R w w':=by
 have hR:=h.rlt;have hg:=h.glt;have hmany:=h.many;have zJ8:=h.at';have HC:=zA h;have HAlt:=zA (zED R g cap P (w.heap.size+1) 0 P.length);have n0:w.heap.size≠R:=by omega
 have n1:w.heap.size+1≠R:=by omega
 have HF:Hid (vY P s=ZG P P.length ⟨s,[],0,0⟩ 0):=rfl;generalize vY P s=F at *;clear h
 go_enter Tryz.func214,Tryz.ntmps214
 go_wp2_with fail
 have zIM:Gd ((w.alloc (.cells #[.slice none 0 0,.int .i64 0,.int .i64 0,.int .i64 0] 232)).alloc (.cells #[.slice none 0 0,.int .i64 0,.int .i64 0,.int .i64 0] 232)) (w.heap.size+1) [] 0 0 0 :=
  ⟨.slice none 0 0,by
   have h1:=zM (w.alloc (.cells #[.slice none 0 0,.int .i64 0,.int .i64 0,.int .i64 0] 232)) (.cells #[.slice none 0 0,.int .i64 0,.int .i64 0,.int .i64 0] 232);rw[show (w.alloc (.cells #[.slice none 0 0,.int .i64 0,.int .i64 0,.int .i64 0] 232)).heap.size=w.heap.size+1 by simp]at h1;exact h1,lk _ _ _ _⟩
 refine(HAlt.out _ ⟨s,[],0,0⟩ 0 ⟨yO.alloc (yO.alloc HC.out _) _,zIM,by omega,by omega⟩ ⟨dk 0,dk 0,by show 0+2*(P.length-s.1)<=9000;omega,by decide,by omega⟩ (by omega)).mono ?_;rintro e w1 ⟨rfl,hi1,hk1,_⟩;rw[<-HF.out];rw[<-HF.out]at hi1;have HT1:Hid (zB w.heap.size R w w1):=zB.trans (zB.new (zB.new (zB.refl _ _ _))) (hk1.mono (by omega));have q0:=fun o=>hk1.cell (p:=⟨w.heap.size,o,none⟩) (by simp) n0;have r0:=fun o=>hk1.frozen (p:=⟨w.heap.size,o,none⟩) (by simp) n0;obtain⟨hc1,⟨nv,hgb,zI8⟩,_,_⟩:=hi1;unfold sK at hgb;have cz:=fun j=>fg _ _ j _ _ _ hgb;have fz:∀o,w1.frozen? ⟨w.heap.size+1,o,none⟩=false:=fun o=>by simp[World.frozen?,hgb]
 have HC1:=zA hc1;have HO1:=zA zI8;have m0:w.heap.size≠g:=by omega
 have m1:w.heap.size+1≠g:=by omega
 have hform:nv=.slice none 0 0\/∃gg n c,nv=.slice (some ⟨gg,0,none⟩) n c:=by
  rcases zI8.2 with ⟨h1,_⟩|⟨gg,c,_,h1,_⟩
  ·exact .inl h1
  ·exact .inr ⟨gg,_,c,h1⟩
 clear zIM hk1 hgb zI8 hc1 HAlt;rcases hform with rfl|⟨gg,gn,gc,rfl⟩
 ·go_wp2_with fail
  refine ph (v:=ZQ (.slice none 0 0) F) (by simp (maxDischargeDepth:=8) [results,Tryz.results214,go_sem,ZQ,q0]) rfl ⟨_,rfl,?_,?_,?_⟩
  ·exact xC (xA (xA (xA (xA (xA HO1.out (by omega)) (by omega)) (by omega)) (by omega)) (by omega)) (by omega)
  ·exact(yO.set (yO.set (yO.set (yO.set (yO.set HC1.out n1 m1) n0 m0) n0 m0) n0 m0) n0 m0)
  ·exact(zB.set (zB.set (zB.set (zB.set (zB.set HT1.out (mc _ _)) (t9 _)) (t9 _)) (t9 _)) (t9 _))
 ·go_wp2_with fail
  refine ph (v:=ZQ (.slice (some ⟨gg,0,none⟩) gn gc) F) (by simp (maxDischargeDepth:=8) [results,Tryz.results214,go_sem,ZQ,q0]) rfl ⟨_,rfl,?_,?_,?_⟩
  ·exact xC (xA (xA (xA (xA (xA HO1.out (by omega)) (by omega)) (by omega)) (by omega)) (by omega)) (by omega)
  ·exact(yO.set (yO.set (yO.set (yO.set (yO.set HC1.out n1 m1) n0 m0) n0 m0) n0 m0) n0 m0)
  ·exact(zB.set (zB.set (zB.set (zB.set (zB.set HT1.out (mc _ _)) (t9 _)) (t9 _)) (t9 _)) (t9 _))
end Go.Proofs.YtnbpdffdnphbeaaGreatDoor
