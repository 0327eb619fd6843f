import Derived.Test.YtnbpdffdnphbeaaGreatDoorDBase
set_option maxHeartbeats 4000000
set_option maxRecDepth 100000
namespace Go.Proofs.YtnbpdffdnphbeaaGreatDoor
open Go.RowKit
theorem zH1(l:Bs)(w:World)(hl4:l.length<=4000)(ls:List zF)(hA:yQ ls (jZ l))(zIV:∀u∈jZ l,cA u 0=zQ->zH2 u) :
 Calls Tryz.prog 40 #[.string ⟨l.toArray⟩] w fun e w'=>∃b rs,e=.returned (.pointer (some ⟨b,0,none⟩))/\nP w' b (jZ l) (tJ (jZ l)++jB (jZ l)) (tJ (jZ l)).length rs/\rs.map Prod.fst=kT (tJ (jZ l)++jB (jZ l)) (jZ l)/\Below w.heap.size w w':=by
 obtain⟨i0,hi0,hz0,hz1,hz2⟩:=dp Zq;obtain⟨i1,hj0,hj1,hj2,hj3⟩:=dp zA1
 have HL:Hid (∀w:World,Calls Tryz.prog 63 #[.string ⟨l.toArray⟩] w fun e w'=>∃a c,e=.returned (.slice a (jZ l).length c)/\bF w' a (jZ l)/\Below w.heap.size w w'):=fun w=>by
  refine(JL l w hl4).mono ?_;rintro e w' ⟨v,rfl,h1,h2⟩;obtain⟨a,c,rfl,h3⟩:=Ds h1 (tx (kW l 0) hl4);exact⟨a,c,rfl,h3,h2⟩
 have hus:(jZ l).length<=4000:=by
  have h1:=XJ (yR l 0) 0 0;have h2:=kW l 0;unfold jZ;rw[ms];exact tx h1 (tx h2 hl4)
 generalize jZ l=us at *;have HA:=zA hA;have HOk:=zA zIV;clear hA zIV hl4
 go_enter Tryz.func40,Tryz.ntmps40
 go_wp2_with fail
 refine(HL.out _).mono ?_;rintro e w1 ⟨la,lc,rfl,zIY,hb1⟩;have HRw:=zA zIY;have HB1:=zA hb1;have zIP:=zIY.few;have hs1:=hb1.size;clear zIY hb1 HL;go_wp2_with fail
 go_loopw [4] (fun iv wr=>∃(i:Nat) (acc:List Bs) (nv:Value),i<=us.length/\acc.length<=i/\iv=.int .i64 i/\Hid (wr.heap[w1.heap.size]? = some (bB (.slice la us.length lc) nv 0 (.slice none 0 0)))/\Hid (wr.ownsRow (w1.heap.size+1) 9 1 nv acc.length (mF acc))/\Hid (Below w1.heap.size w1 wr)/\Hid (XR us (us.length-i) i acc=tJ us)) (fun iv _=>us.length-(intOf iv).toNat)
 case atStart =>
  refine⟨0,[],.slice none 0 0,tr _,t9 _,rfl,?_,zA (lq _ _ _ _),?_,zA rfl⟩
  ·exact zM _ _
  ·exact gj (t9 _) _
 case round =>
  obtain⟨i,acc,nv,hi,hacc,rfl,HG,HO,HB,HE⟩:=hrel;obtain⟨d0,d1,d2,d3,dz⟩:=fY HG.out;have hbl:=zT d0;by_cases zIB:i<us.length
  ·have hRr:=HRw.out.below HB.out
   obtain⟨gl,g,o,cu,rfl,zIW,zIF,hlc,hcm,hsm⟩:=hRr.at zIB;have hx:=HA.out.get i zIB;have h2:=hx.two;have hc0:=(zIF.tok (show 0<(uA us i).length by omega)).2;have hc1:=(zIF.tok (show 1<(uA us i).length by omega)).1;rw[my,pq]at hc0;rw[dv]at hc1;have il0:(0:Int)<((uA us i).length:Int):=by omega
   have il1:(1:Int)<((uA us i).length:Int):=by omega
   have hE:=HE.out;rw[G8 us i acc zIB]at hE;have HE2:=zA hE;clear HE hE hRr hx zIF;by_cases k1:cA (uA us i) 0=xK\/cA (uA us i) 0=xW
   ·have HE3:Hid (XR us (us.length-(i+1)) (i+1) (acc++[tA (uA us i) 1])=tJ us):=by have:=HE2.out;rw[tj k1]at this;exact this
    clear HE2;generalize tA (uA us i) 1=nm at *;by_cases k2:cA (uA us i) 0=xK
    ·rw[k2]at hc0
     simp only[xK]at hc0;clear k1 k2;have a1:some w1.heap.size≠nv.ownBlock:=fun e=>by have h1:=(zP HO.out w1.heap.size e.symm).1;omega
     go_wp2_with fail
     go_region_law ((refine step_append_lies _ (by rfl) _ _ _ (by rfl) (w1.heap.size+1) 9 i0 _ 1 16 Tryz.underlying37 hi0 hz0 hz1 hz2 rfl (by decide) nv acc.length (mF acc) (by rfl) (HO.out.drew.alloc _) ⟨wr.heap.size,0,none⟩ 1 1 [.string ⟨nm.toArray⟩] (by rfl) (by rfl) (zZ _ _ _ _ rfl) (by simp[Value.oneCell']) (by decide) (by unfold maxLen;omega) (by omega) (by simp;omega) (wr.heap.size+1) (by simp) ?_;intro gg cap w2 zIE zIC hat zIB;have hG2:=Qj zIC HG.out a1;obtain⟨-,c1',-,-,fzz⟩:=fY hG2;have fz1:=fzz 1))
     all_goals
      have HG2:=zA (KE (v:=.slice (some ⟨gg,0,none⟩) (acc.length+1) cap) hG2)
      have HO2:Hid ((w2.setCell ⟨w1.heap.size,1,none⟩ (.slice (some ⟨gg,0,none⟩) (acc.length+1) cap)).ownsRow (w1.heap.size+1) 9 1 (.slice (some ⟨gg,0,none⟩) (acc.length+1) cap) (acc++[nm]).length (mF (acc++[nm]))):=by
       unfold Hid;rw[dO,tq];exact yY zIE (mh _)
      have HB2:Hid (Below w1.heap.size w1 (w2.setCell ⟨w1.heap.size,1,none⟩ (.slice (some ⟨gg,0,none⟩) (acc.length+1) cap))) :=
       ((HB.out.drew.alloc (p8 hbl) _).grown zIC (by show w1.heap.size<=(wr.drew.alloc _).heap.size;simp;omega) (fun k hk=>by have h1:=(zP HO.out k hk).1;omega)).setCell (p:=⟨w1.heap.size,1,none⟩) (t9 _) _
      clear hG2 zIE zIC c1' fzz fz1;go_wp2_with fail
      go_roundw
      case rel=>exact⟨i+1,acc++[nm],_,by omega,by simp;omega,by go_num,HG2,HO2,HB2,HE3⟩
      case measure=>simp[intOf];omega
    ·have k3:cA (uA us i) 0=xW:=k1.resolve_left k2
     rw[k3]at hc0;simp only[xW]at hc0;clear k1 k2 k3;have a1:some w1.heap.size≠nv.ownBlock:=fun e=>by have h1:=(zP HO.out w1.heap.size e.symm).1;omega
     go_wp2_with fail
     go_region_law ((refine step_append_lies _ (by rfl) _ _ _ (by rfl) (w1.heap.size+1) 9 i0 _ 1 16 Tryz.underlying37 hi0 hz0 hz1 hz2 rfl (by decide) nv acc.length (mF acc) (by rfl) (HO.out.drew.alloc _) ⟨wr.heap.size,0,none⟩ 1 1 [.string ⟨nm.toArray⟩] (by rfl) (by rfl) (zZ _ _ _ _ rfl) (by simp[Value.oneCell']) (by decide) (by unfold maxLen;omega) (by omega) (by simp;omega) (wr.heap.size+1) (by simp) ?_;intro gg cap w2 zIE zIC hat zIB;have hG2:=Qj zIC HG.out a1;obtain⟨-,c1',-,-,fzz⟩:=fY hG2;have fz1:=fzz 1))
     all_goals
      have HG2:=zA (KE (v:=.slice (some ⟨gg,0,none⟩) (acc.length+1) cap) hG2)
      have HO2:Hid ((w2.setCell ⟨w1.heap.size,1,none⟩ (.slice (some ⟨gg,0,none⟩) (acc.length+1) cap)).ownsRow (w1.heap.size+1) 9 1 (.slice (some ⟨gg,0,none⟩) (acc.length+1) cap) (acc++[nm]).length (mF (acc++[nm]))):=by
       unfold Hid;rw[dO,tq];exact yY zIE (mh _)
      have HB2:Hid (Below w1.heap.size w1 (w2.setCell ⟨w1.heap.size,1,none⟩ (.slice (some ⟨gg,0,none⟩) (acc.length+1) cap))) :=
       ((HB.out.drew.alloc (p8 hbl) _).grown zIC (by show w1.heap.size<=(wr.drew.alloc _).heap.size;simp;omega) (fun k hk=>by have h1:=(zP HO.out k hk).1;omega)).setCell (p:=⟨w1.heap.size,1,none⟩) (t9 _) _
      clear hG2 zIE zIC c1' fzz fz1;go_wp2_with fail
      go_roundw
      case rel=>exact⟨i+1,acc++[nm],_,by omega,by simp;omega,by go_num,HG2,HO2,HB2,HE3⟩
      case measure=>simp[intOf];omega
   ·have HE3:Hid (XR us (us.length-(i+1)) (i+1) acc=tJ us):=by have:=HE2.out;rw[tg k1]at this;exact this
    have b1:(cA (uA us i) 0==[110,117,109])=false:=by simpa[xK] using fun h=>k1 (.inl h)
    have b2:(cA (uA us i) 0==[102,108,97,103])=false:=by simpa[xW] using fun h=>k1 (.inr h)
    clear HE2 k1;generalize cA (uA us i) 0=cl at *;go_wp2_with fail
    go_roundw
    case rel=>exact⟨i+1,acc,nv,by omega,by omega,by go_num,HG,HO,HB,HE3⟩
    case measure=>simp[intOf];omega
  ·have HI:Hid (acc=tJ us):=by have:=HE.out;rw[show us.length-i=0 by omega]at this;exact this
   clear HE;obtain⟨na,nc,rfl⟩:=yG HO.out;have HH:=zA (fun w (h:bF w la us)=>Fk w la lc ls us h HA.out);have HG2:=zA (zED (n:=(acc.length:Int)) HG.out);have HO2:=zA (yY HO.out (b:=w1.heap.size) (o:=2) (u:=.int .i64 (acc.length:Int)) (mh _));have HB2:Hid (Below w1.heap.size w1 (wr.setCell ⟨w1.heap.size,2,none⟩ (.int .i64 (acc.length:Int)))):=HB.out.setCell (p:=⟨w1.heap.size,2,none⟩) (t9 _) _;have dz2:=dz 2;go_wp2_with fail
   clear HG HO HB;generalize wr.setCell ⟨w1.heap.size,2,none⟩ (.int .i64 (acc.length:Int))=wA at *;refine(HH.out wA (HRw.out.below HB2.out)).mono ?_;rintro e w2 ⟨v2,rfl,zIG,hle2,hb2⟩;have hG3:w2.heap[w1.heap.size]? = some (bB (.slice la us.length lc) (.slice na acc.length nc) (acc.length:Int) (.slice none 0 0)):=by rw[hb2.block _ (yI HG2.out)];exact HG2.out
   have HG3:=zA hG3;have HO3:=zA (kE HO2.out hb2);have HB3:Hid (Below w1.heap.size w1 w2):=HB2.out.trans (hb2.mono HB2.out.size);obtain⟨f0,f1,f2,f3,fz⟩:=fY hG3;have fz1:=fz 1;have hbl3:=yI hG3;have HHd:=zA zIG;generalize hHd:jB us=hd at *;have HHe:=zA hHd;clear hHd HG2 HO2 HB2 hb2 hG3 zIG d0 d1 d2 d3 dz dz2;have a1:some w1.heap.size≠(Value.slice na acc.length nc).ownBlock:=fun e=>by have h1:=(zP HO3.out w1.heap.size e.symm).1;omega
   obtain⟨oa2,oc2,rfl⟩:=yG HHd.out
   go_wp2_with (at_builtin;refine rB rfl _ _ 37 rfl (w1.heap.size+1) 9 i0 _ 1 16 Tryz.underlying37 hi0 hz0 hz1 hz2 rfl (by decide) _ _ _ rfl HO3.out _ hd.length (mF hd) _ rfl HHd.out ?c2 ?c3 ?c4 ?c5 ?_)
   case c2=>intro u hu;simp[mF]at hu;obtain⟨x,_,rfl⟩:=hu;rfl
   case c3=>unfold maxLen;omega
   case c4=>omega
   case c5=>omega
   intro v3 w3 zII hgrow3;obtain⟨na3,nc3,rfl⟩:=yG zII;have hG4:w3.heap[w1.heap.size]? = some (bB (.slice la us.length lc) (.slice na acc.length nc) (acc.length:Int) (.slice none 0 0)):=by rw[hgrow3.block _ hbl3 a1];exact HG3.out
   obtain⟨-,c1',-,-,fz4⟩:=fY hG4;have fz5:=fz4 1;have HG5:=zA (KE (v:=.slice na3 (acc.length+hd.length) nc3) hG4)
   have HO5:Hid ((w3.setCell ⟨w1.heap.size,1,none⟩ (.slice na3 (acc.length+hd.length) nc3)).ownsRow (w1.heap.size+1) 9 1 (.slice na3 (acc.length+hd.length) nc3) (acc++hd).length (mF (acc++hd))):=by
    unfold Hid;rw[tq,show mF (acc++hd)=mF acc++mF hd by simp[mF]];exact yY zII (mh _)
   have HB5:Hid (Below w1.heap.size w1 (w3.setCell ⟨w1.heap.size,1,none⟩ (.slice na3 (acc.length+hd.length) nc3))):=(HB3.out.grown hgrow3 (p8 hbl3) (fun k hk=>by have h1:=(zP HO3.out k hk).1;omega)).setCell (p:=⟨w1.heap.size,1,none⟩) (t9 _) _;clear HG3 HO3 HB3 hG4 zII hgrow3 fz4 fz f0 f1 f2 f3 fz1 hbl3 HHd a1 HH;go_wp2_with fail
   generalize w3.setCell ⟨w1.heap.size,1,none⟩ (.slice na3 (acc.length+hd.length) nc3)=wR at *;have hacl:acc.length+hd.length<=8000:=by omega
   have HI2:Hid (tJ us++jB us=acc++hd/\(tJ us).length=acc.length):=by rw[HHe.out,HI.out];exact⟨rfl,rfl⟩
   generalize hNm:acc++hd=names at *;have hnl:acc.length+hd.length=names.length:=by rw[<-hNm,tq]
   have hnl2:names.length<=8000:=by omega
   rw[hnl]at HG5 HO5;generalize hac:acc.length=insn at *;clear hNm HI hnl;have hsR:=HB5.out.size
   have HN5:Hid (∀wr,zB wR.heap.size w1.heap.size wR wr->oP wr na3 names):=by
    obtain⟨a9,c9,e9,hsv⟩:=nX HO5.out (by omega);obtain⟨rfl,rfl⟩:na3=a9/\nc3=c9:=by simpa using e9
    have hge:=zP HO5.out
    exact fun wr hk=>hsv.keeps hk (t9 _) (fun g hg=>by
     subst hg;have h1:=(hge g rfl).1;omega)
   have HRl:Hid (∀wr,zB wR.heap.size w1.heap.size wR wr->bF wr la us):=fun wr hk=>HRw.out.below (HB5.out.trans (hk.toBelow hsR))
   go_loopw [6] (fun iv wr=>∃(i:Nat) (acc:List RX) (rv:Value),i<=us.length/\acc.length<=i/\iv=.int .i64 i/\Hid (wr.heap[w1.heap.size]? = some (bB (.slice la us.length lc) (.slice na3 names.length nc3) (insn:Int) rv))/\Hid (wr.ownsRow wR.heap.size 115 4 rv acc.length (KB acc))/\Hid (zB wR.heap.size w1.heap.size wR wr)/\Hid (∀x∈acc,nO wr x)/\Hid (oU names us (us.length-i) i (acc.map Prod.fst)=kT names us)) (fun iv _=>us.length-(intOf iv).toNat)
   case atStart=>exact⟨0,[],.slice none 0 0,tr _,t9 _,rfl,HG5,zA (lq _ _ _ _),zA (zB.refl _ _ _),zA (fun x hx=>by simp at hx),zA rfl⟩
   case round =>
    clear hacc hac;obtain⟨i,acc,rv,hi,hacc,rfl,HG,HO,HKp,HRu,HE⟩:=hrel;obtain⟨d0,d1,d2,d3,dz⟩:=fY HG.out;have hbl:=zT d0;by_cases zIB:i<us.length
    ·obtain⟨gl,g,o,cu,rfl,zIW,zIF,hlc,hcm,hsm⟩:=(HRl.out wr HKp.out).at zIB
     have hx:=HA.out.get i zIB;have h2:=hx.two;have hc0:=(zIF.tok (show 0<(uA us i).length by omega)).2;have hc1:=(zIF.tok (show 1<(uA us i).length by omega)).1;rw[my,pq]at hc0;rw[dv]at hc1;have il0:(0:Int)<((uA us i).length:Int):=by omega
     have il1:(1:Int)<((uA us i).length:Int):=by omega
     have hE:=HE.out;rw[B1 names us i _ zIB]at hE;have HE2:=zA hE;have HSg:=zA zIF;clear HE hE hx zIF;by_cases k1:cA (uA us i) 0=zQ
     ·have HE3:Hid (oU names us (us.length-(i+1)) (i+1) (acc.map Prod.fst++[fO names (uA us i)])=kT names us):=by have:=HE2.out;rw[tj k1]at this;exact this
      have zIV:=HOk.out _ (Xd zIB) k1;rw[k1]at hc0;simp only[zQ]at hc0;have HWh:=zA (fun w h=>wF (uA us i) g o cu w h (by omega) hlc);rw[zIV.wh]at HWh;have w5:=zIV.lo;have wlt:=zIV.hi;have hc3:=(HSg.out.tok (show 3<(uA us i).length by omega)).1;rw[show 3*3=9 from rfl]at hc3;have il3:(3:Int)<((uA us i).length:Int):=by omega
      have HNam:Hid (∀w',Below wr.heap.size wr w'->aZ w' w1.heap.size names):=fun w' hb=>aZ.below ⟨na3,nc3,d1,HN5.out wr HKp.out⟩ hb;have HD:Hid (fO names (uA us i)=⟨tA (uA us i) 1,zH names (tA (uA us i) 3),rD names (((uA us i).drop 5).take (wC (uA us i)-5)),vM names ((uA us i).length+1) ((uA us i).drop (wC (uA us i)+1))⟩):=rfl;have HSum:=zA zIV.sum;have HGood:=zA zIV.good;have hgl:g<wr.heap.size:=zT hc0;have n0:wr.heap.size≠g:=by omega
      have n1:wr.heap.size≠w1.heap.size:=by omega
      clear k1 HE2 zIV;generalize fO names (uA us i)=dr at *;generalize wC (uA us i)=wh at *;generalize tA (uA us i) 1=lab at *;generalize tA (uA us i) 3=cc at *;have HAt:=zA (fun w' hb=>zEF w' w1.heap.size names cc (HNam.out w' hb));generalize zH names cc=hd1 at *;go_wp2_with fail
      refine(HWh.out wr HSg.out).mono ?_;rintro e w' ⟨rfl,hw⟩;obtain rfl:=hw.symm;go_wp2_with fail
      go_cut [9] from 88 to 144 (fun v wx=>v=.pointer (some ⟨wr.heap.size,0,none⟩)/\Hid (wx.heap[wr.heap.size]? = some (bM lab hd1 (.slice none 0 0) (.slice none 0 0)))/\Hid (Below wr.heap.size wr wx))
      case first =>
       go_region_with (go_at_call 79
                       first
                        | refine(HAt.out _ (me (tl _ _))).mono ?_
                        | refine(HAt.out _ (me (gj (t9 _) _))).mono ?_
                       rintro e w4 ⟨rfl,hw⟩;obtain rfl:=hw.symm)
       all_goals
        go_wp2_with fail
        go_meet
        exact⟨rfl,zA (zM _ _),zA (me (gj (t9 _) _))⟩
      case rest =>
       obtain⟨rfl,HRu1,HBc⟩:=hcut;have HPa:=zA (fun w' (hb:Below wr.heap.size wr w')=>zCP w' w1.heap.size names (((uA us i).drop 5).take (wh-5)) g (o+5*3) (cu-5) (((HSg.out.drop 5).take (wh-5)).below' hb) (by rw[p9,ty];omega) HSum.out (HNam.out w' hb));have HOf:=zA (fun w' (hb:Below wr.heap.size wr w')=>zCU ((uA us i).length+1) ((uA us i).drop (wh+1)) g (o+(wh+1)*3) (cu-(wh+1)) w' w1.heap.size names ((HSg.out.drop (wh+1)).below' hb) (by rw[ty];omega) (by rw[ty];omega) (by omega) HGood.out (HNam.out w' hb));have lOf:=nA names _ _ HGood.out;have lPa:(((uA us i).drop 5).take (wh-5)).length=wh-5:=by rw[p9,ty];omega
       rw[lPa]at HPa;rw[ty]at HOf lOf;generalize rD names (((uA us i).drop 5).take (wh-5))=PP at *;generalize vM names ((uA us i).length+1) ((uA us i).drop (wh+1))=SS at *;have r1:=HRu1.out;unfold bM at r1;have rz:∀j,wc.frozen? ⟨wr.heap.size,j,none⟩=false:=fun j=>by simp[World.frozen?,r1]
       have rc2:wc.cell? ⟨wr.heap.size,2,none⟩=some (.slice none 0 0):=(zD r1 2).trans rfl;have rz2:=rz 2;have hlc2:=yI r1;clear r1 rz HSum HGood HAt;go_wp2_with fail
       refine(HPa.out wc HBc.out).mono ?_;rintro e w5 ⟨pv,rfl,hownP,hleP,hbP⟩;obtain⟨pa,pc,rfl,hcP⟩:=jO hownP;have r5:w5.heap[wr.heap.size]? = some (bM lab hd1 (.slice none 0 0) (.slice none 0 0)):=by rw[hbP.block _ hlc2];exact HRu1.out
       have rz5:w5.frozen? ⟨wr.heap.size,2,none⟩=false:=by unfold bM at r5;simp[World.frozen?,r5]
       have rc5:w5.cell? ⟨wr.heap.size,2,none⟩=some (.slice none 0 0):=by unfold bM at r5;exact(zD r5 2).trans rfl
       have HR6:Hid ((w5.setCell ⟨wr.heap.size,2,none⟩ (.slice pa PP.length pc)).heap[wr.heap.size]? = some (bM lab hd1 (.slice pa PP.length pc) (.slice none 0 0))):=by
        unfold Hid bM;unfold bM at r5;rw[py w5 wr.heap.size 2 _ _ _ r5];simp
       have HC6:Hid (uN (w5.setCell ⟨wr.heap.size,2,none⟩ (.slice pa PP.length pc)) 202 pa (jL PP)):=zA (hcP.set (by unfold bM at r5;exact r5) (by decide));have HB6:Hid (Below wr.heap.size wr (w5.setCell ⟨wr.heap.size,2,none⟩ (.slice pa PP.length pc))):=(HBc.out.trans (hbP.mono (p8 hlc2))).setCell (p:=⟨wr.heap.size,2,none⟩) (t9 _) _;clear hownP hbP hcP r5 HRu1 HBc HPa rc2 rz2;go_wp2_with fail
       generalize w5.setCell ⟨wr.heap.size,2,none⟩ (.slice pa PP.length pc)=w6 at *;have hl6:=yI HR6.out;refine(HOf.out w6 HB6.out).mono ?_;rintro e w7 ⟨sv,rfl,hownS,hbS⟩;obtain⟨sa,sc,rfl,hcS⟩:=jO hownS;have r7:w7.heap[wr.heap.size]? = some (bM lab hd1 (.slice pa PP.length pc) (.slice none 0 0)):=by rw[hbS.block _ hl6];exact HR6.out
       have rz7:w7.frozen? ⟨wr.heap.size,3,none⟩=false:=by unfold bM at r7;simp[World.frozen?,r7]
       have rc7:w7.cell? ⟨wr.heap.size,3,none⟩=some (.slice none 0 0):=by unfold bM at r7;exact(zD r7 3).trans rfl
       have HR8:Hid ((w7.setCell ⟨wr.heap.size,3,none⟩ (.slice sa SS.length sc)).heap[wr.heap.size]? = some (bM lab hd1 (.slice pa PP.length pc) (.slice sa SS.length sc))):=by
        unfold Hid bM;unfold bM at r7;rw[py w7 wr.heap.size 3 _ _ _ r7];simp
       have HC8:Hid (uN (w7.setCell ⟨wr.heap.size,3,none⟩ (.slice sa SS.length sc)) 202 pa (jL PP)):=zA ((HC6.out.below hbS).set (by unfold bM at r7;exact r7) (by decide));have HS8:Hid (uN (w7.setCell ⟨wr.heap.size,3,none⟩ (.slice sa SS.length sc)) 275 sa (kC SS)):=zA (hcS.set (by unfold bM at r7;exact r7) (by decide));have HB8:Hid (Below wr.heap.size wr (w7.setCell ⟨wr.heap.size,3,none⟩ (.slice sa SS.length sc))):=(HB6.out.trans (hbS.mono (p8 hl6))).setCell (p:=⟨wr.heap.size,3,none⟩) (t9 _) _;clear hownS hbS hcS r7 HR6 HC6 HB6 HOf rz5 rc5;go_wp2_with fail
       generalize w7.setCell ⟨wr.heap.size,3,none⟩ (.slice sa SS.length sc)=w8 at *;clear rz7 rc7 hl6;have hg8:w8.heap[w1.heap.size]? = some (bB (.slice (some ⟨gl,0,none⟩) us.length lc) (.slice na3 names.length nc3) (insn:Int) rv):=by rw[HB8.out.block _ hbl];exact HG.out
       have HG8:=zA hg8;obtain⟨e0,e1,e2,e3,ez⟩:=fY hg8;have ez3:=ez 3;have r8:=HR8.out;unfold bM at r8;have q0:=(zD r8 0);have q1:=(zD r8 1);have q2:=(zD r8 2);have q3:=(zD r8 3);have hl8:=yI r8;have HO8:=zA (kE HO.out HB8.out);have HbR:Hid (w1.heap.size<wR.heap.size):=yI HG5.out;have a1:some w1.heap.size≠rv.ownBlock:=fun e=>by have h1:=(zP HO.out w1.heap.size e.symm).1;have h2:=HbR.out;omega
       have hszR:wR.heap.size<=wr.heap.size:=HKp.out.size;have hszR8:wR.heap.size<=w8.heap.size:=by omega
       have hb8:w1.heap.size<w8.heap.size:=by omega
       have n8:w8.heap.size≠w1.heap.size:=by omega
       have n8':¬w1.heap.size=w8.heap.size:=by omega
       have n9:w8.heap.size≠wr.heap.size:=by omega
       clear hg8 ez r8 zIW hc0 hc1 hc3;simp only[cy,cg,cw]at q0 q1 q2 q3
       go_region_law ((refine step_append_lies _ (by rfl) _ _ _ (by rfl) wR.heap.size 115 i1 _ 4 72 Tryz.underlying117 hj0 hj1 hj2 hj3 rfl (by decide) rv acc.length (KB acc) (by rfl) (HO8.out.drew.alloc _) ⟨w8.heap.size,0,none⟩ 1 1 [.string ⟨lab.toArray⟩,.int .i64 hd1,.slice pa PP.length pc,.slice sa SS.length sc] (by rfl) (by rfl) (zZ _ _ _ _ rfl) (by simp[Value.oneCell']) (by decide) (by unfold maxLen;omega) (by omega) (by simp;omega) (w8.heap.size+1) (by simp) ?_;intro gg cap w9 zIE zIC hat hlt9;have hG9:=Qj zIC HG8.out a1;obtain⟨-,-,-,c3',fzz⟩:=fY hG9;have fz3:=fzz 3))
       all_goals
        have HG9:=zA (zEC (v:=.slice (some ⟨gg,0,none⟩) (acc.length+1) cap) hG9)
        have HR9:Hid (∀x∈acc++[((⟨lab,hd1,PP,SS⟩,.slice pa PP.length pc,.slice sa SS.length sc):RX)],nO (w9.setCell ⟨w1.heap.size,3,none⟩ (.slice (some ⟨gg,0,none⟩) (acc.length+1) cap)) x):=fun x hx=>by
         rcases pt.1 hx with h|h
         ·exact((HRu.out x h).below HB8.out).step HO8.out zIC hG9
         ·obtain rfl:=pu.1 h
          exact nO.step (w8:=w8) ⟨⟨pa,pc,rfl,HC8.out⟩,⟨sa,sc,rfl,HS8.out⟩,(by show PP.length<=10000;omega),(by show SS.length<=10000;omega)⟩ HO8.out zIC hG9
        have HO9:Hid ((w9.setCell ⟨w1.heap.size,3,none⟩ (.slice (some ⟨gg,0,none⟩) (acc.length+1) cap)).ownsRow wR.heap.size 115 4 (.slice (some ⟨gg,0,none⟩) (acc.length+1) cap) (acc++[((⟨lab,hd1,PP,SS⟩,.slice pa PP.length pc,.slice sa SS.length sc):RX)]).length (KB (acc++[((⟨lab,hd1,PP,SS⟩,.slice pa PP.length pc,.slice sa SS.length sc):RX)]))):=by
         unfold Hid;rw[zAJ,tq];exact yY zIE HbR.out
        have HK9:Hid (zB wR.heap.size w1.heap.size wR (w9.setCell ⟨w1.heap.size,3,none⟩ (.slice (some ⟨gg,0,none⟩) (acc.length+1) cap))) :=
         (HKp.out.trans (zB.of_below ((((HB8.out.mono hszR).drew.alloc hszR8 _).grown zIC (by show wR.heap.size<=(w8.drew.alloc _).heap.size;simp;omega) (fun k hk=>(zP HO8.out k hk).1))))).setCell (p:=⟨w1.heap.size,3,none⟩) (.inr rfl) _
        have HE9:Hid (oU names us (us.length-(i+1)) (i+1) ((acc++[((⟨lab,hd1,PP,SS⟩,.slice pa PP.length pc,.slice sa SS.length sc):RX)]).map Prod.fst)=kT names us):=by
         have:=HE3.out;rw[HD.out]at this;unfold Hid;rw[List.map_append];exact this
        clear hG9 zIE zIC c3' fzz fz3;go_wp2_with fail
        go_roundw
        case rel=>exact⟨i+1,acc++[((⟨lab,hd1,PP,SS⟩,.slice pa PP.length pc,.slice sa SS.length sc):RX)],_,by omega,by simp;omega,by go_num,HG9,HO9,HK9,HR9,HE9⟩
        case measure=>simp[intOf];omega
     ·have HE3:Hid (oU names us (us.length-(i+1)) (i+1) (acc.map Prod.fst)=kT names us):=by have:=HE2.out;rw[tg k1]at this;exact this
      have b1:(cA (uA us i) 0==[114,117,108,101])=false:=by simpa[zQ] using k1
      have b2:(cA (uA us i) 0 != [114,117,108,101])=true:=by simpa[zQ] using k1
      clear HE2 k1;generalize cA (uA us i) 0=cl at *;go_wp2_with fail
      go_roundw
      case rel=>exact⟨i+1,acc,rv,by omega,by omega,by go_num,HG,HO,HKp,HRu,HE3⟩
      case measure=>simp[intOf];omega
    ·have HE3:Hid (acc.map Prod.fst=kT names us):=by have:=HE.out;rw[show us.length-i=0 by omega]at this;exact this
     clear HE;obtain⟨ra,rc,rfl⟩:=yG HO.out;go_wp2_with fail
     go_ret
     have hB9:Below w1.heap.size w1 wr:=HB5.out.trans (HKp.out.toBelow hsR);refine⟨w1.heap.size,acc,rfl,⟨⟨la,lc,d0,HRl.out wr HKp.out⟩,?_,?_,⟨ra,rc,d3,(jO HO.out).elim fun a h=>h.elim fun c h=>?_⟩,HRu.out,by omega⟩,?_,HB1.out.trans (hB9.mono hs1)⟩
     ·rw[HI2.out.1];exact⟨na3,nc3,d1,HN5.out wr HKp.out⟩
     ·rw[HI2.out.2];exact d2
     ·obtain⟨h1,h2⟩:=h
      obtain⟨rfl,-⟩:ra=a/\rc=c:=by simpa using h1
      exact h2.cel
     ·rw[HI2.out.1];exact HE3.out
end Go.Proofs.YtnbpdffdnphbeaaGreatDoor
