import Derived.Test.YtnbpdffdnphbeabGreatDoorFAbove
import Derived.Test.YtnbpdffdnphbeabGreatDoorPHear
set_option maxHeartbeats 1000000
set_option maxRecDepth 100000
namespace Go.Proofs.YtnbpdffdnphbeabGreatDoor
open Go.RowKit
theorem mL.setV{w:World}{g:Nat}{v:FV}(h:mL w g v)(k:Nat)(hk:k<4)(z:Int):mL (w.setCell ⟨g,9+k,none⟩ (.int .i64 z)) g ⟨v.inn,v.has,pA v.val k z⟩:=by
 obtain⟨cs,h1,h2,h3,h4,h5⟩:=h.blk;refine⟨_,tj _ _ _ _ _ _ h1,by simp[h2],fun i hi=>?_,fun i hi=>?_,fun i hi=>?_⟩
 ·rw[xW (by omega),t7 (by omega)];exact h3 i hi
 ·rw[xW (by omega),t7 (by omega)];exact h4 i hi
 ·rw[xW (by omega)];show _=some (Value.int .i64 (pA v.val k z i));unfold pA
  by_cases e:i=k
  ·rw[tg (by omega),tg e]
  ·rw[t7 (by omega),t7 e];exact h5 i hi
theorem mL.congr{w:World}{g:Nat}{v u:FV}(h:mL w g v)(h1:∀i,i<5->v.inn i=u.inn i)(h2:∀i,i<4->v.has i=u.has i)(h3:∀i,i<4->v.val i=u.val i):mL w g u:=by
 obtain⟨cs,a1,a2,a3,a4,a5⟩:=h.blk;exact⟨cs,a1,a2,fun i hi=>by rw[a3 i hi,h1 i hi],fun i hi=>by rw[a4 i hi,h2 i hi],fun i hi=>by rw[a5 i hi,h3 i hi]⟩
structure eQ(M:zT)(v:FV)(st av:Nat->Int)(i:Nat)(x:FV):Prop where
 inn:∀k,x.inn k=v.inn k
 yes:∀c,c<i->x.has (M.heads.getD c 0)=decide (st c=1)/\x.val (M.heads.getD c 0)=av c
 no:∀d,d<4->(∀c,c<i->M.heads.getD c 0≠d)->x.has d=false/\x.val d=0
theorem eQ.next{M:zT}(hO:yF M){v:FV}{st av:Nat->Int}{i:Nat}{x:FV}(h:eQ M v st av i x)(hi:i<M.heads.length):eQ M v st av (i+1) ⟨x.inn,pA x.has (M.heads.getD i 0) (decide (st i=1)),pA x.val (M.heads.getD i 0) (av i)⟩:=by
 refine⟨h.inn,fun c hc=>?_,fun d hd hn=>?_⟩
 ·show pA x.has _ _ _=_/\pA x.val _ _ _=_
  by_cases e:c=i
  ·subst e;exact⟨dD _ _ _,dD _ _ _⟩
  ·have zEB:M.heads.getD c 0≠M.heads.getD i 0:=fun q=>e (aG hO (by omega) hi q)
   rw[dC zEB,dC zEB];exact h.yes c (by omega)
 ·show pA x.has _ _ _=_/\pA x.val _ _ _=_
  have zEB:d≠M.heads.getD i 0:=fun q=>hn i (by omega) q.symm;rw[dC zEB,dC zEB];exact h.no d hd fun c hc=>hn c (by omega)
theorem qi(wm w:World)(g gv:Nat)(M:zT)(v u:FV)(na:Option Addr)(nc:Nat)(st av:Nat->Int)(hM:pC wm g M)(hb:Below wm.heap.size wm w)(hgv:wm.heap.size<=gv)(hO:yF M)(hV:mL w gv v)
 (hA:xB w 55 na (zCP M.heads.length (fun c=>xG 99 (M.heads.getD c 0)) st av)) (h0:∀c,c<M.heads.length->st c≠1->av c=0)
 (hu1:∀i,i<5->u.inn i=v.inn i) (hu2:∀c,c<M.heads.length->u.has (M.heads.getD c 0)=decide (st c=1)/\u.val (M.heads.getD c 0)=av c) (hu3:∀d,¬d∈M.heads->u.has d=false/\u.val d=0) :
 Calls Tryz.prog 17 #[.pointer (some ⟨g,0,none⟩),.slice na M.heads.length nc,.pointer (some ⟨gv,0,none⟩)] w fun e w'=>e=.returned (.bool true)/\mL w' gv u/\zB w.heap.size gv w w':=by
 have hgvl:=hV.lt
 have HMd:Hid (∀w',zB w.heap.size gv w w'->∃rv ha hc,uT w' g M.lo M.hi rv M.over (.slice ha M.heads.length hc)/\xB w' 3 ha (lV M.heads)):=fun w' hk=>by
  obtain⟨ra,ha,rc,hc,xs,h1,h2,h3,h4,h5⟩:=(hM.below (hb.trans (hk.below hb.size hgv))).mem;exact⟨_,ha,hc,h2,h5⟩
 have HAn:Hid (∀w',zB w.heap.size gv w w'->bQ w' na (zCP M.heads.length (fun c=>xG 99 (M.heads.getD c 0)) st av)):=fun w' hk=>by
  obtain⟨cs,h1,-⟩:=hV.blk;exact(hA.keeps hk h1 (by decide)).cel
 have HEnd:Hid (∀w' x,mL w' gv x->eQ M v st av M.heads.length x->mL w' gv u):=fun w' x hx hs=>by
  refine hx.congr (fun i hi=>by rw[hs.inn i,hu1 i hi]) (fun i hi=>?_) (fun i hi=>?_)
  ·by_cases hm:i∈M.heads
   ·obtain⟨c,hc,-,e⟩:=jY hO hm
    rw[<-e,(hs.yes c hc).1,(hu2 c hc).1]
   ·rw[(hu3 i hm).1,(hs.no i hi fun c hc e=>hm (by rw[<-e];simp[List.getD,hc])).1]
  ·by_cases hm:i∈M.heads
   ·obtain⟨c,hc,-,e⟩:=jY hO hm
    rw[<-e,(hs.yes c hc).2,(hu2 c hc).2]
   ·rw[(hu3 i hm).2,(hs.no i hi fun c hc e=>hm (by rw[<-e];simp[List.getD,hc])).2]
 have HNx:Hid (∀i x,eQ M v st av i x->i<M.heads.length->eQ M v st av (i+1) ⟨x.inn,pA x.has (M.heads.getD i 0) (decide (st i=1)),pA x.val (M.heads.getD i 0) (av i)⟩):=fun i x h hi=>h.next hO hi
 have HH4:Hid (∀k,k<M.heads.length->M.heads.getD k 0<4):=fun k hk=>sB hO (tR 0 hk);have H0:=zA h0;have HNm:=zA pW;have HV:=zA hV;have hh4:M.heads.length<=4:=by have:=bV (hs:=M.rules.map vF.head) (fun x hx=>by obtain⟨r,hr,rfl⟩:=p7.1 hx;exact(hO.rules r hr).head);rw[<-hO.heads]at this;omega
 clear hM hb hgv hO hV hA h0 hu1 hu2 hu3;obtain⟨rv,ha,hc,hmad,-⟩:=HMd.out w (zB.refl _ _ _);have c71:=hmad.cells.2.2.2.2;clear hmad
 go_enter Tryz.func17,Tryz.ntmps17
 go_wp2_with fail
 go_loopw [7] (fun hv wr=>∃(h:Nat) (x:FV),h<=4/\hv=.int .i64 (h:Int)/\Hid (mL wr gv x)/\Hid ((∀k,x.inn k=v.inn k)/\∀d,d<h->x.has d=false/\x.val d=0)/\Hid (zB w.heap.size gv w wr)) (fun hv _=>4-(intOf hv).toNat)
 case atStart=>exact⟨0,v,tq _,rfl,HV,zA ⟨fun _=>rfl,fun d hd=>by omega⟩,zA (zB.refl _ _ _)⟩
 case round =>
  clear HV c71;obtain⟨h,x,hh,rfl,HV,HX,HK⟩:=hrel;by_cases zE9:h<4
  ·have c1:(h:Int)<4:=by omega
   have f1:=HV.out.free (5+h);have f2:=HV.out.free (9+h);have m1:=HV.out.cells.2.1 h zE9;have m2:=HV.out.cells.2.2 h zE9;have HSt:=zA ((HV.out.setH h zE9 false).setV h zE9 0);have HKs:Hid (zB w.heap.size gv w ((wr.setCell ⟨gv,5+h,none⟩ (.bool false)).setCell ⟨gv,9+h,none⟩ (.int .i64 0))):=(HK.out.setCell (p:=⟨gv,5+h,none⟩) (.inr rfl) _).setCell (p:=⟨gv,9+h,none⟩) (.inr rfl) _
   have HX2:Hid ((∀k,(⟨x.inn,pA x.has h false,pA x.val h 0⟩:FV).inn k=v.inn k)/\∀d,d<h+1->(⟨x.inn,pA x.has h false,pA x.val h 0⟩:FV).has d=false/\(⟨x.inn,pA x.has h false,pA x.val h 0⟩:FV).val d=0):=⟨HX.out.1,fun d hd=>by
    show pA x.has h false d=false/\pA x.val h 0 d=0;by_cases e:d=h
    ·subst e;exact⟨dD _ _ _,dD _ _ _⟩
    ·rw[dC e,dC e];exact HX.out.2 d (by omega)⟩
   clear HV HX HK;go_wp2_with fail
   go_roundw
   case rel=>exact⟨h+1,_,by omega,by go_num,HSt,HX2,HKs⟩
   case measure=>simp[intOf];omega
  ·obtain rfl:h=4:=by omega
   have c1:¬((4:Nat):Int)<4:=by omega
   have HS0:Hid (eQ M v st av 0 x):=⟨HX.out.1,fun c hc=>by omega,fun d hd _=>HX.out.2 d hd⟩;clear HX;go_wp2_with fail
   go_loopw [8] (fun iv wr=>∃(i:Nat) (x:FV),i<=M.heads.length/\iv=.int .i64 (i:Int)/\Hid (mL wr gv x)/\Hid (eQ M v st av i x)/\Hid (zB w.heap.size gv w wr)) (fun iv _=>M.heads.length-(intOf iv).toNat)
   case atStart=>exact⟨0,x,tq _,rfl,HV,HS0,HK⟩
   case round =>
    clear HV HS0 HK;obtain⟨i,x,hi,rfl,HV,HS,HK⟩:=hrel;by_cases zEJ:i<M.heads.length
    ·have c2:(i:Int)<(M.heads.length:Int):=by omega
     obtain⟨rv,ha,hc,hmad,hlow⟩:=HMd.out wr HK.out;have c71:=hmad.cells.2.2.2.2;clear hmad;have hget:(lV M.heads)[i]? = some (.int .i64 ((M.heads.getD i 0:Nat):Int)):=by unfold lV;simp[List.getD,zEJ]
     obtain⟨gh,e0,ch⟩:=hlow.cel.at hget;subst e0;obtain⟨ga,e0,s0,s1,s2⟩:=G2 (HAn.out wr HK.out) zEJ;subst e0
     have HAc:Hid (∀w',zB w.heap.size gv w w'->w'.cell? ⟨ga,i*3,none⟩=some (.string ⟨(xG 99 (M.heads.getD i 0)).toArray⟩)/\w'.cell? ⟨ga,i*3+1,none⟩=some (.int .i64 (st i))/\w'.cell? ⟨ga,i*3+2,none⟩=some (.int .i64 (av i))):=fun w' hk=>by
      obtain⟨ga',e1,t0,t1,t2⟩:=G2 (HAn.out w' hk) zEJ;obtain rfl:ga=ga':=by simpa using e1
      exact⟨t0,t1,t2⟩
     have hd4:=HH4.out i zEJ;have HNi:=zA (HNx.out i x HS.out zEJ);have h0i:=H0.out i zEJ;have HStH:Hid (∀w' q y,mL w' gv y->mL (w'.setCell ⟨gv,5+M.heads.getD i 0,none⟩ (.bool q)) gv ⟨y.inn,pA y.has (M.heads.getD i 0) q,y.val⟩):=fun w' q y h=>h.setH _ hd4 q;have HStV:Hid (∀w' q y,mL w' gv y->mL (w'.setCell ⟨gv,9+M.heads.getD i 0,none⟩ (.int .i64 q)) gv ⟨y.inn,y.has,pA y.val (M.heads.getD i 0) q⟩):=fun w' q y h=>h.setV _ hd4 q;have HKn:=zA (fun w'=>HNm.out w' 99 (M.heads.getD i 0) (by omega));have d4:((M.heads.getD i 0:Nat):Int)<4:=by omega
     have HVw:=zA (fun w' (hb:Below wr.heap.size wr w')=>HV.out.below hb);have HKw:Hid (∀w',Below wr.heap.size wr w'->zB w.heap.size gv w w'):=fun w' hb=>HK.out.trans (zB.of_below (hb.mono HK.out.size));have zEE:=zEJ;generalize xG 99 (M.heads.getD i 0)=cnm at *;generalize M.heads.getD i 0=dd at *;generalize M.heads.length=nH at *;generalize st i=sv at *;generalize av i=zv at *;have t1:(cnm==cnm)=true:=by simp
     have t2:(cnm != cnm)=false:=by simp
     clear HV HS HMd HAn HEnd HNx HH4 H0 HNm
     go_upto_region 12 with fail
     go_cut [8,9,68] from 32 to 89 (fun v8 v9 v68 wx=>v8=.int .i64 (i:Int)/\v9=.int .i64 (dd:Int)/\v68=.bool false/\Hid (Below wr.heap.size wr wx))
     case first =>
      by_cases h1:sv=1
      ·have b1:(sv==1)=true:=by rw[beq_iff_eq];exact h1
       have b2:(sv != 1)=false:=by rw[bne_eq_false_iff_eq];exact h1
       clear h1 h0i
       first|(go_region_with (go_at_call 19;refine(HKn.out _).mono ?_;rintro e w4 ⟨rfl,hb4⟩;have hB4:Below wr.heap.size wr w4:=(pq (t9 _ _)).trans hb4;obtain⟨s0,s1,s2⟩:=HAc.out w4 (HKw.out w4 hB4)))|fail
       all_goals
        go_wp2_with fail
        go_meet
        exact⟨rfl,rfl,rfl,zA hB4⟩
      ·have hz:=h0i h1
       subst hz;have b1:(sv==1)=false:=by rw[py];exact h1
       have b2:(sv != 1)=true:=by rw[bne_iff_ne];exact h1
       go_region_held3 (fun w'=>w'.cell? ⟨ga,i*3,none⟩=some (.string ⟨cnm.toArray⟩)/\w'.cell? ⟨ga,i*3+1,none⟩=some (.int .i64 sv)/\w'.cell? ⟨ga,i*3+2,none⟩=some (.int .i64 0)) (go_keep) (
        first|(go_at_call 19;refine(HKn.out _).mono ?_;rintro e w4 ⟨rfl,hb4⟩;have hB4:Below wr.heap.size wr w4:=(pq (t9 _ _)).trans hb4;obtain⟨s0,s1,s2⟩:=HAc.out w4 (HKw.out w4 hB4))|fail)
       all_goals
        go_wp2_with fail
        go_meet
        exact⟨rfl,rfl,rfl,zA hB4⟩
     case rest =>
      obtain⟨rfl,rfl,rfl,zEU⟩:=hcut;clear h0i;have HVc:=zA (HVw.out wc zEU.out);have HKc:=zA (HKw.out wc zEU.out);obtain⟨s0,s1,s2⟩:=HAc.out wc HKc.out;have f1:=HVc.out.free (5+dd);have m1:=HVc.out.cells.2.1 dd hd4;have HK1:Hid (∀q,zB w.heap.size gv w (wc.setCell ⟨gv,5+dd,none⟩ q).drew):=fun q=>(HKc.out.setCell (p:=⟨gv,5+dd,none⟩) (.inr rfl) q).drew;have HA1:Hid (∀q,(wc.setCell ⟨gv,5+dd,none⟩ q).drew.cell? ⟨ga,i*3+1,none⟩=some (.int .i64 sv)):=fun q=>(HAc.out _ (HK1.out q)).2.1
      go_upto_region 14 with fail
      by_cases h1:sv=1
      ·have b1:(sv==1)=true:=by rw[beq_iff_eq];exact h1
       have HVs:Hid (mL (wc.setCell ⟨gv,5+dd,none⟩ (.bool true)).drew gv ⟨x.inn,pA x.has dd (decide (sv=1)),x.val⟩):=by unfold Hid;rw[tl h1];exact((HStH.out _ true _ HVc.out).drew)
       have HK2:=zA (HK1.out (.bool true));have HW:Hid (∀W,W=(wc.setCell ⟨gv,5+dd,none⟩ (.bool true)).drew->mL W gv ⟨x.inn,pA x.has dd (decide (sv=1)),x.val⟩/\zB w.heap.size gv w W):=fun W e=>by subst e;exact⟨HVs.out,HK2.out⟩
       go_region_held3 (fun w'=>w'.cell? ⟨ga,i*3+1,none⟩=some (.int .i64 sv)) (first|exact HA1.out _|go_keep) (fail)
       all_goals
        obtain⟨W5,hW5⟩:∃W,W=(wc.setCell ⟨gv,5+dd,none⟩ (.bool true)).drew:=⟨_,rfl⟩;obtain⟨hv5,hk5⟩:=HW.out W5 hW5;rw[<-hW5];have HV5:=zA hv5;have HK5:=zA hk5;clear hW5 hv5 hk5 HW HVs HK2 HA1 HK1 HVc HKc f1 m1 s0 s1 s2 zEU;obtain⟨-,-,s2⟩:=HAc.out _ HK5.out;have f2:=HV5.out.free (9+dd);have m2:=HV5.out.cells.2.2 dd hd4;have HK6:=zA (fun q=>(HK5.out.setCell (p:=⟨gv,9+dd,none⟩) (.inr rfl) q).drew);have HA2:=zA (fun q=>(HAc.out _ (HK6.out q)).2.2);have HV6:=zA ((HStV.out _ zv _ HV5.out).drew)
        go_upto_region 15 with fail
        go_region_held3 (fun w'=>w'.cell? ⟨ga,i*3+2,none⟩=some (.int .i64 zv)) (first|exact HA2.out _|go_keep) (fail)
        all_goals
         go_wp2_with fail
         go_roundw
         case rel=>exact⟨i+1,_,by omega,by go_num,HV6,HNi,zA (HK6.out _)⟩
         case measure=>simp[intOf];omega
      ·have b1:(sv==1)=false:=by rw[py];exact h1
       have HVs:Hid (mL (wc.setCell ⟨gv,5+dd,none⟩ (.bool false)).drew gv ⟨x.inn,pA x.has dd (decide (sv=1)),x.val⟩):=by unfold Hid;rw[tm h1];exact((HStH.out _ false _ HVc.out).drew)
       have HK2:=zA (HK1.out (.bool false));have HW:Hid (∀W,W=(wc.setCell ⟨gv,5+dd,none⟩ (.bool false)).drew->mL W gv ⟨x.inn,pA x.has dd (decide (sv=1)),x.val⟩/\zB w.heap.size gv w W):=fun W e=>by subst e;exact⟨HVs.out,HK2.out⟩
       go_region_held3 (fun w'=>w'.cell? ⟨ga,i*3+1,none⟩=some (.int .i64 sv)) (first|exact HA1.out _|go_keep) (fail)
       all_goals
        obtain⟨W5,hW5⟩:∃W,W=(wc.setCell ⟨gv,5+dd,none⟩ (.bool false)).drew:=⟨_,rfl⟩;obtain⟨hv5,hk5⟩:=HW.out W5 hW5;rw[<-hW5];have HV5:=zA hv5;have HK5:=zA hk5;clear hW5 hv5 hk5 HW HVs HK2 HA1 HK1 HVc HKc f1 m1 s0 s1 s2 zEU;obtain⟨-,-,s2⟩:=HAc.out _ HK5.out;have f2:=HV5.out.free (9+dd);have m2:=HV5.out.cells.2.2 dd hd4;have HK6:=zA (fun q=>(HK5.out.setCell (p:=⟨gv,9+dd,none⟩) (.inr rfl) q).drew);have HA2:=zA (fun q=>(HAc.out _ (HK6.out q)).2.2);have HV6:=zA ((HStV.out _ zv _ HV5.out).drew)
        go_upto_region 15 with fail
        go_region_held3 (fun w'=>w'.cell? ⟨ga,i*3+2,none⟩=some (.int .i64 zv)) (first|exact HA2.out _|go_keep) (fail)
        all_goals
         go_wp2_with fail
         go_roundw
         case rel=>exact⟨i+1,_,by omega,by go_num,HV6,HNi,zA (HK6.out _)⟩
         case measure=>simp[intOf];omega
    ·obtain rfl:i=M.heads.length:=by omega
     have c2:¬(M.heads.length:Int)<(M.heads.length:Int):=by omega
     have HU:=zA (HEnd.out wr x HV.out HS.out);clear HV HS;go_wp2_with fail
     go_ret
     exact⟨rfl,HU.out,HK.out⟩
end Go.Proofs.YtnbpdffdnphbeabGreatDoor
