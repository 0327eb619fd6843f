import Derived.Test.YtnbpdffdnphbeabGreatDoorTerms
set_option maxHeartbeats 1000000
namespace Go.Proofs.YtnbpdffdnphbeabGreatDoor
open Go.RowKit
variable{tests dep:Int}{nd:List zN}{G:Nat}{w:World}(R g cap:Nat)(P:List PT)
theorem Vx{root:Int}(h:Gd w G nd root tests dep):w.cell? ⟨G,2,none⟩=some (.int .i64 tests)/\w.cell? ⟨G,3,none⟩=some (.int .i64 dep)/\(∀o,w.frozen? ⟨G,o,none⟩=false):=by
 obtain⟨nv,h1,_⟩:=h;unfold oI at h1;exact⟨by rw[f0 w G 2 _ _ _ h1];rfl,by rw[f0 w G 3 _ _ _ h1];rfl,fun o=>by simp[World.frozen?,h1]⟩
theorem QE{root:Int}(h:Gd w G nd root tests dep):Gd (w.setCell ⟨G,2,none⟩ (.int .i64 (tests+1))) G nd root (tests+1) dep:=by
 obtain⟨nv,h1,h2⟩:=h;refine⟨nv,?_,xA h2 (mt G)⟩;unfold oI at h1 ⊢;rw[p9 w G 2 _ _ _ h1];simp
theorem zEL{root d:Int}(h:Gd w G nd root tests dep):Gd (w.setCell ⟨G,3,none⟩ (.int .i64 d)) G nd root tests d:=by
 obtain⟨nv,h1,h2⟩:=h;refine⟨nv,?_,xA h2 (mt G)⟩;unfold oI at h1 ⊢;rw[p9 w G 3 _ _ _ h1];simp
theorem Below.setG{o:Nat}{u:Value}:Below G w (w.setCell ⟨G,o,none⟩ u):=(tl _ _).setCell (p:=⟨G,o,none⟩) (tg _) u
theorem Gd.alloc{root:Int}(h:Gd w G nd root tests dep)(o:Obj):Gd (w.alloc o) G nd root tests dep:=by
 have zJS:=h.lt;obtain⟨nv,h1,h2⟩:=h;exact⟨nv,by rw[l5 _ _ _ zJS];exact h1,h2.alloc _⟩
theorem jp(G:Nat)(root:Int)(n:Nat)(hf:XH R g cap P G root n)(w:World)(q:GS)(d:Int)(zK3:Zn w R g cap P G root q)(zK4:zBV P q d)(hn:P.length-q.s.1<=n+1)(h1:(zD P yX q.s).1=true) :
 Calls Tryz.prog 190 #[.pointer (some ⟨R,0,none⟩),.pointer (some ⟨G,0,none⟩),.int .i64 d] w fun e w'=>e=.returned (.int .i64 (yJ P (n+1) q d).1)/\Zn w' R g cap P G root (yJ P (n+1) q d).2/\zB G R w w'/\iV P q (yJ P (n+1) q d).2:=by
 have hGl:=zK3.gd.lt;have hat:=zK3.ctx.at';have hmany:=zK3.ctx.many;have hst:=uW h1;have hps:=YD h1 hat
 have HF:Hid (yJ P (n+1) q d=((((yJ P n (q.to (zD P yX q.s).2) (d+1)).2.nd.length:Nat):Int),(yJ P n (q.to (zD P yX q.s).2) (d+1)).2.add ⟨3,(yJ P n (q.to (zD P yX q.s).2) (d+1)).1,0,[],[],[],0⟩)):=by
  unfold Hid;rw[yJ,h1]
 have hok1:zBV P (q.to (zD P yX q.s).2) (d+1):=⟨zK4.t0,zK4.t1,by have:=zK4.room;omega,by have:=zK4.d0;omega,by have:=zK4.d1;show d+1<=(((zD P yX q.s).2.1:Nat):Int);rw[hst];omega⟩;have hn1:P.length-(q.to (zD P yX q.s).2).s.1<=n:=by show P.length-(zD P yX q.s).2.1<=n;rw[hst];omega
 have hs1:(q.to (zD P yX q.s).2).s.1=q.s.1+1:=hst;have HFa:=zA hf;have zKD:=zA zK3;have HOk:=zA zK4;have H1:=zA h1;have hd0:=zK4.d0;have hd1:=zK4.d1;generalize yJ P (n+1) q d=F at *;clear hf zK3 zK4 h1 hst
 go_enter Tryz.func190,Tryz.ntmps190
 go_wp2_with fail
 refine(xV R g cap P _ q.s yX zKD.out.ctx).mono ?_;rintro e w1 ⟨rfl,hc1,hk1⟩;rw[H1.out];have hi1:=zKD.out.read hc1 hk1;have HK1:Hid (zB G R w w1):=hk1.of_size (pb hGl);have hG1:=hi1.gd.lt;generalize q.to (zD P yX q.s).2=q1 at *;have HI1:=zA (HFa.out w1 q1 (d+1) hi1 hok1 hn1);clear hc1 hk1 hi1 hok1 hn1;go_wp2_with fail
 refine HI1.out.mono ?_;rintro e w2 ⟨rfl,hi2,hk2,hg2⟩;have HI2:=zA hi2;have HK2:Hid (zB G R w w2):=HK1.out.trans hk2;have HG2:=zA hg2;generalize yJ P n q1 (d+1)=y at *;obtain⟨r,q2⟩:=y;simp only at HF HI2 HG2;have hp2:=HG2.out.pot';have hro:=HOk.out.room;have hnd2:q2.nd.length<=Zu P q2:=by unfold Zu;omega
 have hnd:q2.nd.length<=10000:=by omega
 clear hi2 hk2 hg2 HI1;go_wp2_with fail
 refine(VU w2 G q2.nd root q2.tests q2.dep ⟨3,r,0,[],[],[],0⟩ HI2.out.gd hnd).mono ?_;rintro e w3 ⟨rfl,hgd3,hb3⟩;have HI3:=zA (HI2.out.added hgd3 hb3);have HK3:Hid (zB G R w w3):=HK2.out.trans (zB.of_belowG hb3);have hmo:=HG2.out.mono;have HGo:Hid (iV P q (q2.add ⟨3,r,0,[],[],[],0⟩)):=⟨by show q.s.1<=q2.s.1;omega,by show (q2.nd++[_]).length+2*(P.length-q2.s.1)<=_;rw[tq,mh];unfold Zu at hp2 hps ⊢;omega,HG2.out.t0,by show q2.tests<=((q2.nd++[_]).length:Int);rw[tq];have:=HG2.out.t1;omega⟩;clear hgd3 hb3;go_wp2_with fail
 go_ret
 rw[HF.out];exact⟨rfl,HI3.out,HK3.out,HGo.out⟩
theorem Gh(G:Nat)(root:Int)(n:Nat)(ha:Kj R g cap P G root n)(w:World)(q:GS)(d:Int)(zK3:Zn w R g cap P G root q)(zK4:zBV P q d)(hn:P.length-q.s.1<=n+1)(h1:(zD P yX q.s).1=false)(h2:(zD P yO (zD P yX q.s).2).1=true) :
 Calls Tryz.prog 190 #[.pointer (some ⟨R,0,none⟩),.pointer (some ⟨G,0,none⟩),.int .i64 d] w fun e w'=>e=.returned (.int .i64 (yJ P (n+1) q d).1)/\Zn w' R g cap P G root (yJ P (n+1) q d).2/\zB G R w w'/\iV P q (yJ P (n+1) q d).2:=by
 have hGl:=zK3.gd.lt;have hat:=zK3.ctx.at';have hmany:=zK3.ctx.many;have hs0:(zD P yX q.s).2.1=q.s.1:=by simp only[zD]at h1 ⊢;rw[h1];rfl
 have hst:=uW h2
 have HF:Hid (yJ P (n+1) q d=((wF P n (q.to (zD P yO (zD P yX q.s).2).2) (d+1)).1,(wF P n (q.to (zD P yO (zD P yX q.s).2).2) (d+1)).2.to (zP P vJ (wF P n (q.to (zD P yO (zD P yX q.s).2).2) (d+1)).2.s))):=by
  unfold Hid;rw[yJ,h1];simp only[h2];rfl
 have hs1:(q.to (zD P yO (zD P yX q.s).2).2).s.1=q.s.1+1:=by show (zD P yO (zD P yX q.s).2).2.1=_;rw[hst,hs0]
 have hpp:Zu P (q.to (zD P yO (zD P yX q.s).2).2)+2=Zu P q:=by unfold Zu;rw[hs1];show q.nd.length+_+2=_;omega
 have hok1:zBV P (q.to (zD P yO (zD P yX q.s).2).2) (d+1):=⟨zK4.t0,zK4.t1,by have:=zK4.room;omega,by have:=zK4.d0;omega,by have:=zK4.d1;rw[hs1];omega⟩;have hn1:P.length-(q.to (zD P yO (zD P yX q.s).2).2).s.1<=n:=by rw[hs1];omega
 have HA:=zA ha;have zKD:=zA zK3;have HOk:=zA zK4;have H1:=zA h1;have H2:=zA h2;have hd0:=zK4.d0;have hd1:=zK4.d1;generalize yJ P (n+1) q d=F at *;clear ha zK3 zK4 h1 h2 hst hs0
 go_enter Tryz.func190,Tryz.ntmps190
 go_wp2_with fail
 refine(xV R g cap P _ q.s yX zKD.out.ctx).mono ?_;rintro e w1 ⟨rfl,hc1,hk1⟩;rw[H1.out];have hi1:=zKD.out.read hc1 hk1;have HK1:Hid (zB G R w w1):=hk1.of_size (pb hGl);have hG1:=hi1.gd.lt;have HC1:=zA hc1;have HI1:=zA hi1;clear hc1 hk1 hi1;go_wp2_with fail
 refine(xV R g cap P _ (zD P yX q.s).2 yO HC1.out).mono ?_;rintro e w2 ⟨rfl,hc2,hk2⟩;rw[H2.out];have hi2:Zn w2 R g cap P G root (q.to (zD P yO (zD P yX q.s).2).2):=HI1.out.read hc2 hk2;have HK2:Hid (zB G R w w2):=HK1.out.trans (hk2.of_size (pb hG1));generalize q.to (zD P yO (zD P yX q.s).2).2=q1 at *;have HI2:=zA (HA.out w2 q1 (d+1) hi2 hok1 hn1);clear hc2 hk2 hi2 hok1 hn1 HI1 HC1;go_wp2_with fail
 refine HI2.out.mono ?_;rintro e w3 ⟨rfl,hi3,hk3,hg3⟩;have HI3:=zA hi3;have HK3:Hid (zB G R w w3):=HK2.out.trans hk3;have HG3:=zA hg3;generalize wF P n q1 (d+1)=y at *;obtain⟨r,q2⟩:=y;simp only at HF HI3 HG3;have hG3:=HI3.out.gd.lt;have hp3:=HG3.out.pot';clear hi3 hk3 hg3 HI2;go_wp2_with fail
 refine(dI R g cap P _ q2.s vJ HI3.out.ctx).mono ?_;rintro e w4 ⟨rfl,hc4,hk4⟩;have HI4:=zA (HI3.out.read hc4 hk4);have HK4:Hid (zB G R w w4):=HK3.out.trans (hk4.of_size (pb hG3));have hmo:=HG3.out.mono;have hwm:q2.s.1<=(zP P vJ q2.s).1:=cJ _ _;have HGo:Hid (iV P q (q2.to (zP P vJ q2.s))):=⟨by show q.s.1<=(zP P vJ q2.s).1;omega,by have h9:=UK (P:=P) (q:=q2) hwm;omega,HG3.out.t0,HG3.out.t1⟩;clear hc4 hk4;go_wp2_with fail
 go_ret
 rw[HF.out];exact⟨rfl,HI4.out,HK4.out,HGo.out⟩
theorem sY(s:St):s.1<=(yZ P s).2.1:=by
 have k1:=fun t s=>xD P t s;have k2:∀s,s.1<=(zG P s).2.1:=fun s=>cJ _ _;have k3:∀s,s.1<=(yC P s).2.1:=fun s=>cJ _ _
 have k4:∀s,s.1<=(xY P s).2.1:=by
  intro s;unfold xY;split
  ·split <;> exact xD P _ s
  ·exact tg _
 unfold yZ;split
 ·exact k1 _ _
 ·split
  ·exact p8 (k1 _ _) (p8 (k1 _ _) (k2 _))
  ·split
   ·exact p8 (k1 _ _) (p8 (k1 _ _) (p8 (k2 _) (k4 _)))
   ·split
    ·exact p8 (k1 _ _) (p8 (k1 _ _) (p8 (k2 _) (p8 (k4 _) (k3 _))))
    ·exact p8 (k1 _ _) (p8 (k1 _ _) (p8 (k2 _) (p8 (k4 _) (k2 _))))
theorem Gg(G:Nat)(root:Int)(n:Nat)(w:World)(q:GS)(d:Int)(zK3:Zn w R g cap P G root q)(zK4:zBV P q d)(h1:(zD P yX q.s).1=false)(h2:(zD P yO (zD P yX q.s).2).1=false) :
 Calls Tryz.prog 190 #[.pointer (some ⟨R,0,none⟩),.pointer (some ⟨G,0,none⟩),.int .i64 d] w fun e w'=>e=.returned (.int .i64 (yJ P (n+1) q d).1)/\Zn w' R g cap P G root (yJ P (n+1) q d).2/\zB G R w w'/\iV P q (yJ P (n+1) q d).2:=by
 have hGl:=zK3.gd.lt;have hat:=zK3.ctx.at';have hmany:=zK3.ctx.many
 have HF:Hid (yJ P (n+1) q d=(((q.nd.length:Nat):Int),(((q.tested d).to (yZ P (zD P yO (zD P yX q.s).2).2).2).add (yZ P (zD P yO (zD P yX q.s).2).2).1))):=by
  unfold Hid;rw[yJ,h1];simp only[h2]
 have hs2:(zD P yO (zD P yX q.s).2).2.1=q.s.1:=by
  simp only[zD]at h1 h2 ⊢;rw[h2,h1];rfl
 have HM:=zA (sY P);have hnd:q.nd.length<=10000:=by have:=zK4.room;unfold Zu at this;omega
 have ht0:=zK4.t0;have ht1:=zK4.t1;have hd0:=zK4.d0;have hd1:=zK4.d1;have nR:G≠R:=by have:=zK3.rG;omega
 have ng:G≠g:=by have:=zK3.gG;omega
 have zKD:=zA zK3;have H1:=zA h1;have H2:=zA h2;generalize yJ P (n+1) q d=F at *;clear zK3 zK4 h1 h2;by_cases hdp:q.dep<d
 ·have hEx:∀(s:St) (x:zN),((q.tested d).to s).add x=⟨s,q.nd++[x],q.tests+1,d⟩:=by intro s x;simp only[GS.tested,GS.to,GS.add];rw[tr hdp]
  have HEx:=zA hEx;clear hEx
  go_enter Tryz.func190,Tryz.ntmps190
  go_wp2_with fail
  refine(xV R g cap P _ q.s yX zKD.out.ctx).mono ?_;rintro e w1 ⟨rfl,hc1,hk1⟩;rw[H1.out];have hi1:=zKD.out.read hc1 hk1;have HK1:Hid (zB G R w w1):=hk1.of_size (pb hGl);have hG1:=hi1.gd.lt;have HC1:=zA hc1;have HI1:=zA hi1;clear hc1 hk1 hi1;go_wp2_with fail
  refine(xV R g cap P _ (zD P yX q.s).2 yO HC1.out).mono ?_;rintro e w2 ⟨rfl,hc2,hk2⟩;rw[H2.out];have hi2:Zn w2 R g cap P G root (q.to (zD P yO (zD P yX q.s).2).2):=HI1.out.read hc2 hk2;have HK2:Hid (zB G R w w2):=HK1.out.trans (hk2.of_size (pb hG1));obtain⟨gc2,gc3,gfz⟩:=Vx hi2.gd;have hG2:=hi2.gd.lt;have HI2:=zA hi2;clear hc2 hk2 hi2 HI1 HC1;generalize (zD P yO (zD P yX q.s).2).2=s2 at *;simp only[GS.to]at gc2 gc3;go_wp2_with fail
  refine(zu _ R g cap P s2 (yG.set (yG.set HI2.out.ctx nR ng) nR ng)).mono ?_;rintro e w3 ⟨rfl,hc3,hk3⟩;have hgd3:Gd w3 G q.nd root (q.tests+1) d:=Gd.keeps (zEL (QE HI2.out.gd)) hk3 zKD.out.rG;have HK3:Hid (zB G R w w3):=HK2.out.trans ((zB.of_belowG (Below.setG.trans Below.setG)).trans (hk3.of_size (by simp only[zK];omega)));have HC3:=zA hc3;have HGd3:=zA hgd3;have hmo:=HM.out s2;clear hc3 hk3 hgd3 gc2 gc3 gfz HM;have hG3:=HGd3.out.lt;generalize hpt:yZ P s2=y at *;obtain⟨x,s3⟩:=y;simp only at HF HC3 hmo;obtain⟨xk,xl,xr,xn,xm,xo,xu⟩:=x;simp only[kN];clear hpt;go_wp2_with fail
  refine(VU (w3.alloc _) G q.nd root (q.tests+1) d ⟨xk,xl,xr,xn,xm,xo,xu⟩ (Gd.alloc HGd3.out _) hnd).mono ?_;rintro e w4 ⟨rfl,hgd4,hb4⟩;have hi4:Zn w4 R g cap P G root ⟨s3,q.nd++[⟨xk,xl,xr,xn,xm,xo,xu⟩],q.tests+1,d⟩:=⟨(yG.alloc HC3.out _).belowG hb4 zKD.out.rG zKD.out.gG,hgd4,zKD.out.rG,zKD.out.gG⟩;have HI4:=zA hi4;have HK4:Hid (zB G R w w4):=HK3.out.trans ((zB.alloc (zB.refl _ _ _) (pb hG3) _).trans (zB.of_belowG hb4));clear hgd4 hb4 hi4;go_wp2_with fail
  go_ret
  rw[HF.out,HEx.out];refine⟨rfl,HI4.out,HK4.out,⟨by show q.s.1<=s3.1;omega,?_,by show 0<=q.tests+1;omega,?_⟩⟩
  ·show (q.nd++[_]).length+2*(P.length-s3.1)<=Zu P q+1
   unfold Zu;rw[tq,mh];omega
  ·show q.tests+1<=((q.nd++[_]).length:Int)
   rw[tq,mh];omega
 ·have hEx:∀(s:St) (x:zN),((q.tested d).to s).add x=⟨s,q.nd++[x],q.tests+1,q.dep⟩:=by intro s x;simp only[GS.tested,GS.to,GS.add];rw[tj hdp]
  have HEx:=zA hEx;clear hEx
  go_enter Tryz.func190,Tryz.ntmps190
  go_wp2_with fail
  refine(xV R g cap P _ q.s yX zKD.out.ctx).mono ?_;rintro e w1 ⟨rfl,hc1,hk1⟩;rw[H1.out];have hi1:=zKD.out.read hc1 hk1;have HK1:Hid (zB G R w w1):=hk1.of_size (pb hGl);have hG1:=hi1.gd.lt;have HC1:=zA hc1;have HI1:=zA hi1;clear hc1 hk1 hi1;go_wp2_with fail
  refine(xV R g cap P _ (zD P yX q.s).2 yO HC1.out).mono ?_;rintro e w2 ⟨rfl,hc2,hk2⟩;rw[H2.out];have hi2:Zn w2 R g cap P G root (q.to (zD P yO (zD P yX q.s).2).2):=HI1.out.read hc2 hk2;have HK2:Hid (zB G R w w2):=HK1.out.trans (hk2.of_size (pb hG1));obtain⟨gc2,gc3,gfz⟩:=Vx hi2.gd;have hG2:=hi2.gd.lt;have HI2:=zA hi2;clear hc2 hk2 hi2 HI1 HC1;generalize (zD P yO (zD P yX q.s).2).2=s2 at *;simp only[GS.to]at gc2 gc3;go_wp2_with fail
  refine(zu _ R g cap P s2 (yG.set HI2.out.ctx nR ng)).mono ?_;rintro e w3 ⟨rfl,hc3,hk3⟩;have hgd3:Gd w3 G q.nd root (q.tests+1) q.dep:=Gd.keeps (QE HI2.out.gd) hk3 zKD.out.rG;have HK3:Hid (zB G R w w3):=HK2.out.trans ((zB.of_belowG (Below.setG)).trans (hk3.of_size (by simp only[zK];omega)));have HC3:=zA hc3;have HGd3:=zA hgd3;have hmo:=HM.out s2;clear hc3 hk3 hgd3 gc2 gc3 gfz HM;have hG3:=HGd3.out.lt;generalize hpt:yZ P s2=y at *;obtain⟨x,s3⟩:=y;simp only at HF HC3 hmo;obtain⟨xk,xl,xr,xn,xm,xo,xu⟩:=x;simp only[kN];clear hpt;go_wp2_with fail
  refine(VU (w3.alloc _) G q.nd root (q.tests+1) q.dep ⟨xk,xl,xr,xn,xm,xo,xu⟩ (Gd.alloc HGd3.out _) hnd).mono ?_;rintro e w4 ⟨rfl,hgd4,hb4⟩;have hi4:Zn w4 R g cap P G root ⟨s3,q.nd++[⟨xk,xl,xr,xn,xm,xo,xu⟩],q.tests+1,q.dep⟩:=⟨(yG.alloc HC3.out _).belowG hb4 zKD.out.rG zKD.out.gG,hgd4,zKD.out.rG,zKD.out.gG⟩;have HI4:=zA hi4;have HK4:Hid (zB G R w w4):=HK3.out.trans ((zB.alloc (zB.refl _ _ _) (pb hG3) _).trans (zB.of_belowG hb4));clear hgd4 hb4 hi4;go_wp2_with fail
  go_ret
  rw[HF.out,HEx.out];refine⟨rfl,HI4.out,HK4.out,⟨by show q.s.1<=s3.1;omega,?_,by show 0<=q.tests+1;omega,?_⟩⟩
  ·show (q.nd++[_]).length+2*(P.length-s3.1)<=Zu P q+1
   unfold Zu;rw[tq,mh];omega
  ·show q.tests+1<=((q.nd++[_]).length:Int)
   rw[tq,mh];omega
theorem jq(G:Nat)(root:Int)(n:Nat):XH R g cap P G root n:=by
 induction n with
 | zero=>intro w q d zK3 _ hn;have:=zK3.ctx.at';omega
 | succ n ih =>
   intro w q d zK3 zK4 hn;cases h1:(zD P yX q.s).1
   ·cases h2:(zD P yO (zD P yX q.s).2).1
    ·exact Gg R g cap P G root n w q d zK3 zK4 h1 h2
    ·exact Gh R g cap P G root n (zFR R g cap P G root n (Cz R g cap P G root n ih)) w q d zK3 zK4 hn h1 h2
   ·exact jp R g cap P G root n ih w q d zK3 zK4 hn h1
theorem zF7(G:Nat)(root:Int)(n:Nat):Kj R g cap P G root n :=
 zFR R g cap P G root n (Cz R g cap P G root n (jq R g cap P G root n))
def vL(P:List PT)(s:St):Int × GS:=wF P P.length ⟨s,[],0,0⟩ 0
def wT(nv:Value)(y:Int × GS):Value:=.agg #[nv,.int .i64 y.1,.int .i64 y.2.tests,.int .i64 y.2.dep]
theorem yS{b b':Nat}{e:TypeId}{size:Nat}{v:Value}{n:Nat}{xs:List Value}(h:w.ownsRow b e size v n xs)(hb:b'<=b):w.ownsRow b' e size v n xs:=by
 refine⟨h.1,?_⟩;rcases h.2 with h1|⟨g,cap,yT,h1,h2,r⟩
 ·exact .inl h1
 ·exact .inr ⟨g,cap,yT,h1,p8 hb h2,r⟩
theorem zEE(w:World)(R g cap:Nat)(P:List PT)(s:St)(h:xX w R g cap P s) :
 Calls Tryz.prog 152 #[.pointer (some ⟨R,0,none⟩)] w fun e w'=>∃nv,e=.returned (wT nv (vL P s))/\w'.ownsRow w.heap.size 238 7 nv (vL P s).2.nd.length (dB (vL P s).2.nd)/\xX w' R g cap P (vL P s).2.s/\zB w.heap.size R w w':=by
 have hR:=h.rlt;have hg:=h.glt;have hmany:=h.many;have hat:=h.at';have HC:=zA h;have HAlt:=zA (zF7 R g cap P (w.heap.size+1) 0 P.length);have n0:w.heap.size≠R:=by omega
 have n1:w.heap.size+1≠R:=by omega
 have HF:Hid (vL P s=wF P P.length ⟨s,[],0,0⟩ 0):=rfl;generalize vL P s=F at *;clear h
 go_enter Tryz.func152,Tryz.ntmps152
 go_wp2_with fail
 have zJW:Gd ((w.alloc (.cells #[.slice none 0 0,.int .i64 0,.int .i64 0,.int .i64 0] 182)).alloc (.cells #[.slice none 0 0,.int .i64 0,.int .i64 0,.int .i64 0] 182)) (w.heap.size+1) [] 0 0 0 :=
  ⟨.slice none 0 0,by
   have h1:=zH (w.alloc (.cells #[.slice none 0 0,.int .i64 0,.int .i64 0,.int .i64 0] 182)) (.cells #[.slice none 0 0,.int .i64 0,.int .i64 0,.int .i64 0] 182);rw[show (w.alloc (.cells #[.slice none 0 0,.int .i64 0,.int .i64 0,.int .i64 0] 182)).heap.size=w.heap.size+1 by simp]at h1;exact h1,bi _ _ _ _⟩
 refine(HAlt.out _ ⟨s,[],0,0⟩ 0 ⟨yG.alloc (yG.alloc HC.out _) _,zJW,by omega,by omega⟩ ⟨dr 0,dr 0,by show 0+2*(P.length-s.1)<=9000;omega,by decide,by omega⟩ (by omega)).mono ?_;rintro e w1 ⟨rfl,hi1,hk1,_⟩;rw[<-HF.out];rw[<-HF.out]at hi1;have HT1:Hid (zB w.heap.size R w w1):=zB.trans (zB.new (zB.new (zB.refl _ _ _))) (hk1.mono (by omega));have q0:=fun o=>hk1.cell (p:=⟨w.heap.size,o,none⟩) (by simp) n0;have r0:=fun o=>hk1.frozen (p:=⟨w.heap.size,o,none⟩) (by simp) n0;obtain⟨hc1,⟨nv,hgb,zJU⟩,_,_⟩:=hi1;unfold oI at hgb;have cz:=fun j=>f0 _ _ j _ _ _ hgb;have fz:∀o,w1.frozen? ⟨w.heap.size+1,o,none⟩=false:=fun o=>by simp[World.frozen?,hgb]
 have HC1:=zA hc1;have HO1:=zA zJU;have m0:w.heap.size≠g:=by omega
 have m1:w.heap.size+1≠g:=by omega
 have hform:nv=.slice none 0 0\/∃gg n c,nv=.slice (some ⟨gg,0,none⟩) n c:=by
  rcases zJU.2 with ⟨h1,_⟩|⟨gg,c,_,h1,_⟩
  ·exact .inl h1
  ·exact .inr ⟨gg,_,c,h1⟩
 clear zJW hk1 hgb zJU hc1 HAlt;rcases hform with rfl|⟨gg,gn,gc,rfl⟩
 ·go_wp2_with fail
  refine pm (v:=wT (.slice none 0 0) F) (by simp (maxDischargeDepth:=8) [results,Tryz.results152,go_sem,wT,q0]) rfl ⟨_,rfl,?_,?_,?_⟩
  ·exact yS (xA (xA (xA (xA (xA HO1.out (by omega)) (by omega)) (by omega)) (by omega)) (by omega)) (by omega)
  ·exact(yG.set (yG.set (yG.set (yG.set (yG.set HC1.out n1 m1) n0 m0) n0 m0) n0 m0) n0 m0)
  ·exact(zB.set (zB.set (zB.set (zB.set (zB.set HT1.out (ml _ _)) (tg _)) (tg _)) (tg _)) (tg _))
 ·go_wp2_with fail
  refine pm (v:=wT (.slice (some ⟨gg,0,none⟩) gn gc) F) (by simp (maxDischargeDepth:=8) [results,Tryz.results152,go_sem,wT,q0]) rfl ⟨_,rfl,?_,?_,?_⟩
  ·exact yS (xA (xA (xA (xA (xA HO1.out (by omega)) (by omega)) (by omega)) (by omega)) (by omega)) (by omega)
  ·exact(yG.set (yG.set (yG.set (yG.set (yG.set HC1.out n1 m1) n0 m0) n0 m0) n0 m0) n0 m0)
  ·exact(zB.set (zB.set (zB.set (zB.set (zB.set HT1.out (ml _ _)) (tg _)) (tg _)) (tg _)) (tg _))
end Go.Proofs.YtnbpdffdnphbeabGreatDoor
