import Derived.Test.YtnbpdffdnphbeaaGreatDoorMRowF
import Derived.Test.YtnbpdffdnphbeaaGreatDoorMLoad
set_option maxHeartbeats 2000000
set_option maxRecDepth 100000
namespace Go.Proofs.YtnbpdffdnphbeaaGreatDoor
open Go.RowKit
variable{G:List Bool}{rs:List MX}{ys xs:List Value}{T:List tR}{ls:List zF}{us:List zG}{y x:MX}{gn gi m n h sc k j p gh g nc q b B H:Nat}{has:Nat->Bool}{inp:Nat->Int}{F:Nat->List (Int × Int)}{a sa na:Option Addr}{t t':TypeId}{v' iv nv v sv:Value}{w' w wr wx wy:World}{u:zG}
def sS(K:SK)(at':Nat)(w:World)(s:uI)(w':World)(e:Ending):Prop:=∃r s',e=.returned (.bool r)/\jY w' K s'/\Below K.B w w'/\Z3 (qU K) K.np K.P K.sw at' s s' r
theorem QK(K:SK)(ok:Qw K):∀(m at':Nat) (w:World) (s:uI),at'+m=K.np->(∀p,p<at'->s.rk p<K.np)->jY w K s ->
 Calls Tryz.prog 127 #[.pointer (some ⟨K.b,0,none⟩),.int .i64 (at':Nat)] w fun e w'=>sS K at' w s w' e:=by
 intro m
 induction m with
 | zero =>
   intro at' w s hm hrk h;obtain rfl:at'=K.np:=by omega
   have HSn:=zA (JY w K s ok hrk h);have HSw:=zA (fun w1 s1 (h1:jY w1 K s1)=>ZT K ok K.sw.length 0 w1 s1 (by omega) h1);have HN:Hid (∀s1 w1,jY w1 K s1->Below K.B w w1->iW K.np K.P s s1 false->sS K K.np w s w1 (.returned (.bool false))):=fun s1 w1 h1 h2 h3=>⟨false,s1,rfl,h1,h2,BB (t9 _) h3⟩
   have HY:Hid (∀s1 w1,Below K.B w w1->iW K.np K.P s s1 true->∀e w2,ZZ K 0 w1 s1 w2 e->∃r,e=.returned (.bool r)/\sS K K.np w s w2 (.returned (.bool r))):=fun s1 w1 h2 h3 e w2 h4=>by
    obtain⟨r,s2,rfl,q1,q2,q3⟩:=h4;exact⟨r,rfl,r,s2,rfl,q1,h2.trans q2,B9 (U7 K) (t9 _) ok.off hrk h3 q3⟩
   have c10:w.cell? ⟨K.b,10,none⟩=some (.slice K.na K.np K.nc):=h.cells 10;have hi:¬(K.np:Int)<(K.np:Int):=by omega
   clear h hm hrk ok
   go_enter Tryz.func127,Tryz.ntmps127
   go_wp2_with fail
   refine HSn.out.mono ?_;rintro e w1 ⟨r,s1,rfl,hS1,hB1,hR1⟩;cases r
   ·have HQ:=zA (HN.out s1 w1 hS1 hB1 hR1)
    clear hS1 hB1 hR1;go_wp2_with fail
    first|exact HQ.out|(go_ret;exact HQ.out)
   ·have HY1:=zA (HY.out s1 w1 hB1 hR1)
    have HSw1:=zA (HSw.out w1 s1 hS1);clear hS1 hB1 hR1;generalize ZZ K 0 w1 s1=Q1 at *;go_wp2_with fail
    refine HSw1.out.mono ?_;rintro e w2 hp;obtain⟨r,rfl,hq⟩:=HY1.out _ _ hp;have HQ:=zA hq;clear hq hp;go_wp2_with fail
    first|exact HQ.out|(go_ret;exact HQ.out)
 | succ m ih =>
   intro at' w s hm hrk h;have zIB:at'<K.np:=by omega
   have hf:=ok.np;have HI:Hid (∀w1 s1,(∀p,p<at'+1->s1.rk p<K.np)->jY w1 K s1->Calls Tryz.prog 127 #[.pointer (some ⟨K.b,0,none⟩),.int .i64 ((at':Int)+1)] w1 fun e w'=>sS K (at'+1) w1 s1 w' e):=fun w1 s1 hk h1=>ih (at'+1) w1 s1 (by omega) hk h1
   have HC:Hid (∀w1 s1,jY w1 K s1->w1.cell? ⟨K.b,10,none⟩=some (.slice (some ⟨K.gn,0,none⟩) K.np K.nc)/\w1.cell? ⟨K.gn,at'*5+4,none⟩=some (.int .i64 (s1.rk at':Nat))/\w1.frozen? ⟨K.gn,at'*5+4,none⟩=false):=fun w1 s1 h1=>by
    have hn:=h1.num zIB;refine⟨?_,hn.2.2.2.2.2.1,hn.2.2.2.2.2.2 _⟩;have:=h1.cells 10;rw[<-hn.1];exact this
   have zJ4:Hid (∀w1 s1 (v:Nat),v<K.np->Z4 (qU K) K.np K.P K.sw at' s s1 v->jY w1 K s1->Below K.B w w1->(∀p,p<at'+1->(rM s1 at' v).rk p<K.np)/\jY (w1.setCell ⟨K.gn,at'*5+4,none⟩ (.int .i64 (v:Nat))) K (rM s1 at' v)/\Below K.B w (w1.setCell ⟨K.gn,at'*5+4,none⟩ (.int .i64 (v:Nat)))):=fun w1 s1 v hv hm h1 hb=>by
    refine⟨fun p hp=>?_,h1.setRk zIB v,hb.setCell (p:=⟨K.gn,at'*5+4,none⟩) (ok.lon (by omega)) _⟩;show (if p=at' then v else s1.rk p)<K.np;by_cases hpa:p=at'
    ·rw[tj hpa];exact hv
    ·rw[tg hpa,hm.kp p (by omega)];exact hrk p (by omega)
   have HY:Hid (∀v s1 s2 w2,Z4 (qU K) K.np K.P K.sw at' s s1 v->jY w2 K s2->Below K.B w w2->Z3 (qU K) K.np K.P K.sw (at'+1) (rM s1 at' v) s2 true->sS K at' w s w2 (.returned (.bool true))):=fun v s1 s2 w2 h1 h2 h3 h4=>⟨true,s2,rfl,h2,h3,FM h1 h4⟩;have HN:Hid (∀s1 w1,Z4 (qU K) K.np K.P K.sw at' s s1 K.np->jY w1 K s1->Below K.B w w1->sS K at' w s w1 (.returned (.bool false))):=fun s1 w1 h1 h2 h3=>⟨false,s1,rfl,h2,h3,FN zIB h1⟩;have HM0:=zA (BC (qU K) K.np K.P K.sw at' s);have HS:=zA h;have h10:=(HC.out w s h).1;have hltI:(at':Int)<(K.np:Int):=by omega
   have hltD:decide (K.np<=at')=false:=th (by omega);have hltN:¬K.np<=at':=by omega
   clear h ih ok hm hrk
   go_enter Tryz.func127,Tryz.ntmps127
   go_wp2_with fail
   go_loopw [23] (fun iv wr=>∃(v:Nat) (s1:uI),v<=K.np/\iv=.int .i64 v/\Hid (jY wr K s1)/\Hid (Below K.B w wr)/\Hid (Z4 (qU K) K.np K.P K.sw at' s s1 v)) (fun iv _=>K.np-(intOf iv).toNat)
   case atStart=>exact⟨0,s,by omega,rfl,HS,zA (tl _ _),HM0⟩
   case round =>
    obtain⟨v,s1,hv,rfl,HSr,HBr,HMr⟩:=hrel;by_cases hv1:v<K.np
    ·obtain⟨k10,k0,k1⟩:=HC.out wr s1 HSr.out
     obtain⟨p1,p2,p3⟩:=zJ4.out wr s1 v hv1 HMr.out HSr.out HBr.out;have hvI:(v:Int)<(K.np:Int):=by omega
     have HI2:=zA (HI.out _ _ p1 p2);have HB2:=zA p3;clear p1 p2 p3;go_wp2_with fail
     refine HI2.out.mono ?_;rintro e w3 ⟨r,s3,rfl,hS3,hB3,hR3⟩;have HB3:Hid (Below K.B w w3):=HB2.out.trans hB3;cases r
     ·have HM3:=zA (ur HMr.out hR3)
      have HS3:=zA hS3;clear hS3 hB3 hR3;go_wp2_with fail
      go_roundw
      case rel=>exact⟨v+1,s3,by omega,by go_num,HS3,HB3,HM3⟩
      case measure=>simp[intOf];omega
     ·have HQ:=zA (HY.out v s1 s3 w3 HMr.out hS3 HB3.out hR3)
      clear hS3 hB3 hR3;go_wp2_with fail
      first|exact HQ.out|(go_ret;exact HQ.out)
    ·obtain rfl:v=K.np:=by omega
     have HQ:=zA (HN.out s1 wr HMr.out HSr.out HBr.out);have hvI:¬(K.np:Int)<(K.np:Int):=by omega
     go_wp2_with fail
     first|exact HQ.out|(go_ret;exact HQ.out)
def Qr(K:SK)(at':Nat)(w:World)(s:uI)(w':World)(e:Ending):Prop:=∃r s',e=.returned (.bool r)/\jY w' K s'/\Below K.B w w'/\Zx (qU K) K.np K.P K.zs K.sw at' s s' r
theorem QJ(K:SK)(ok:Qw K):∀(m at':Nat) (w:World) (s:uI),at'+m=K.np->(∀p,p<at'->s.Z p∈K.zs p)->jY w K s ->
 Calls Tryz.prog 72 #[.pointer (some ⟨K.b,0,none⟩),.int .i64 (at':Nat)] w fun e w'=>Qr K at' w s w' e:=by
 intro m
 induction m with
 | zero =>
   intro at' w s hm hz h;obtain rfl:at'=K.np:=by omega
   have HRk:=zA (QK K ok K.np 0 w s (by omega) (fun p hp=>absurd hp (by omega)) h)
   have HY:Hid (∀e w2,sS K 0 w s w2 e->∃r,e=.returned (.bool r)/\Qr K K.np w s w2 (.returned (.bool r))):=fun e w2 h4=>by
    obtain⟨r,s2,rfl,q1,q2,q3⟩:=h4;exact⟨r,rfl,r,s2,rfl,q1,q2,xg (t9 _) hz q3⟩
   have c10:w.cell? ⟨K.b,10,none⟩=some (.slice K.na K.np K.nc):=h.cells 10;have hi:¬(K.np:Int)<(K.np:Int):=by omega
   clear h hm hz ok;generalize sS K 0 w s=Q1 at *
   go_enter Tryz.func72,Tryz.ntmps72
   go_wp2_with fail
   refine HRk.out.mono ?_;rintro e w2 hp;obtain⟨r,rfl,hq⟩:=HY.out _ _ hp;have HQ:=zA hq;clear hq hp;go_wp2_with fail
   first|exact HQ.out|(go_ret;exact HQ.out)
 | succ m ih =>
   intro at' w s hm hz h;have zIB:at'<K.np:=by omega
   have hf:=ok.np;have hfz:=ok.zs at' zIB;have HI:Hid (∀w1 s1,(∀p,p<at'+1->s1.Z p∈K.zs p)->jY w1 K s1->Calls Tryz.prog 72 #[.pointer (some ⟨K.b,0,none⟩),.int .i64 ((at':Int)+1)] w1 fun e w'=>Qr K (at'+1) w1 s1 w' e):=fun w1 s1 hk h1=>ih (at'+1) w1 s1 (by omega) hk h1
   have HC:Hid (∀w1 s1,jY w1 K s1->w1.cell? ⟨K.b,10,none⟩=some (.slice (some ⟨K.gn,0,none⟩) K.np K.nc)/\w1.cell? ⟨K.gn,at'*5+1,none⟩=some (.slice (K.za at') (K.zs at').length (K.zc at'))/\(w1.cell? ⟨K.gn,at'*5+2,none⟩=some (.int .i64 (s1.Z at').1)/\w1.cell? ⟨K.gn,at'*5+3,none⟩=some (.int .i64 (s1.Z at').2))/\w1.frozen? ⟨K.gn,at'*5+2,none⟩=false/\w1.frozen? ⟨K.gn,at'*5+3,none⟩=false):=fun w1 s1 h1=>by
    have hn:=h1.num zIB;refine⟨?_,hn.2.2.1,⟨hn.2.2.2.1,hn.2.2.2.2.1⟩,hn.2.2.2.2.2.2 _,hn.2.2.2.2.2.2 _⟩;have:=h1.cells 10;rw[<-hn.1];exact this
   have HZc:Hid (∀w1 s1 (v:Nat),jY w1 K s1->v<(K.zs at').length->∃g,K.za at'=some ⟨g,0,none⟩/\w1.cell? ⟨g,v*2,none⟩=some (.int .i64 ((K.zs at').getD v (0,0)).1)/\w1.cell? ⟨g,v*2+1,none⟩=some (.int .i64 ((K.zs at').getD v (0,0)).2)):=fun w1 s1 v h1 hv=>xe (h1.zn at' zIB).cel hv
   have zJ4:Hid (∀w1 s1 (v:Nat),v<(K.zs at').length->eH (qU K) K.np K.P K.zs K.sw at' s s1 v->jY w1 K s1->Below K.B w w1->(∀p,p<at'+1->(gV s1 at' ((K.zs at').getD v (0,0))).Z p∈K.zs p)/\∀w2,Below ((w1.setCell ⟨K.gn,at'*5+2,none⟩ (.int .i64 ((K.zs at').getD v (0,0)).1)).setCell ⟨K.gn,at'*5+2+1,none⟩ (.int .i64 ((K.zs at').getD v (0,0)).2)).heap.size ((w1.setCell ⟨K.gn,at'*5+2,none⟩ (.int .i64 ((K.zs at').getD v (0,0)).1)).setCell ⟨K.gn,at'*5+2+1,none⟩ (.int .i64 ((K.zs at').getD v (0,0)).2)) w2->jY w2 K (gV s1 at' ((K.zs at').getD v (0,0)))/\Below K.B w w2/\w2.cell? ⟨K.b,10,none⟩=some (.slice (some ⟨K.gn,0,none⟩) K.np K.nc)):=fun w1 s1 v hv hm h1 hb=>by
    refine⟨Fp hm hv hz,fun w2 hb2=>?_⟩;have hlb:=yI h1.hd;have hlo:=ok.lob;have hS:=(h1.setZn zIB ((K.zs at').getD v (0,0))).below hb2;have hk:=(hb.setCell (p:=⟨K.gn,at'*5+2,none⟩) (ok.lon (by omega)) (.int .i64 ((K.zs at').getD v (0,0)).1)).setCell (p:=⟨K.gn,at'*5+2+1,none⟩) (ok.lon (by omega)) (.int .i64 ((K.zs at').getD v (0,0)).2);refine⟨hS,hk.trans (hb2.mono ?_),(HC.out _ _ hS).1⟩;have:K.B<=w1.heap.size:=by omega
    simpa[World.setCell] using this
   have HY:Hid (∀v s1 s2 w2,eH (qU K) K.np K.P K.zs K.sw at' s s1 v->jY w2 K s2->Below K.B w w2->Zx (qU K) K.np K.P K.zs K.sw (at'+1) (gV s1 at' ((K.zs at').getD v (0,0))) s2 true->Qr K at' w s w2 (.returned (.bool true))):=fun v s1 s2 w2 h1 h2 h3 h4=>⟨true,s2,rfl,h2,h3,Fo h1 h4⟩;have HN:Hid (∀s1 w1,eH (qU K) K.np K.P K.zs K.sw at' s s1 (K.zs at').length->jY w1 K s1->Below K.B w w1->Qr K at' w s w1 (.returned (.bool false))):=fun s1 w1 h1 h2 h3=>⟨false,s1,rfl,h2,h3,Fq zIB h1⟩;have HM0:=zA (UX (qU K) K.np K.P K.zs K.sw at' s);have HS:=zA h;obtain⟨h10,h11,-,-⟩:=HC.out w s h;have hltI:(at':Int)<(K.np:Int):=by omega
   have hltD:decide (K.np<=at')=false:=th (by omega);have hltN:¬K.np<=at':=by omega
   clear h ih ok hm hz;generalize hzn:(K.zs at').length=zn at *;have HZn:=zA hzn;clear hzn;generalize K.za at'=za at *
   go_enter Tryz.func72,Tryz.ntmps72
   go_wp2_with fail
   go_loopw [25] (fun iv wr=>∃(v:Nat) (s1:uI),v<=zn/\iv=.int .i64 v/\Hid (jY wr K s1)/\Hid (Below K.B w wr)/\Hid (eH (qU K) K.np K.P K.zs K.sw at' s s1 v)) (fun iv _=>zn-(intOf iv).toNat)
   case atStart=>exact⟨0,s,by omega,rfl,HS,zA (tl _ _),HM0⟩
   case round =>
    obtain⟨v,s1,hv,rfl,HSr,HBr,HMr⟩:=hrel;by_cases hv1:v<zn
    ·obtain⟨k10,k1,⟨k2,k3⟩,f2,f3⟩:=HC.out wr s1 HSr.out
     obtain⟨p1,p2⟩:=zJ4.out wr s1 v hv1 HMr.out HSr.out HBr.out;obtain⟨g,ez,z0,z1⟩:=HZc.out wr s1 v HSr.out hv1;subst ez;have hvI:(v:Int)<(zn:Int):=by omega
     have HP1:=zA p1;have HP2:=zA p2;have hM:=zA HMr.out;have lg:=vU z0;have lgn:=vU k1;have lb:=vU k10;have n1:wr.heap.size≠g:=by omega
     have n2:wr.heap.size≠K.gn:=by omega
     have n3:wr.heap.size≠K.b:=by omega
     have n4:K.gn≠wr.heap.size:=by omega
     have HNo:=zA (fun s3 => @xj (qU K) K.np K.P K.zs K.sw at' v s s1 s3 HMr.out);have HY1:=zA (fun s3 w3=>HY.out v s1 s3 w3 HMr.out);clear p1 p2;generalize (K.zs at').getD v (0,0)=zz at *;obtain⟨z1l,z1h⟩:=zz;simp only at z0 z1 HP2;generalize (s1.Z at').1=o1 at *;generalize (s1.Z at').2=o2 at *
     go_upto_region 6 with fail
     obtain⟨hS2,hB2,e10⟩:=HP2.out (((wr.setCell ⟨K.gn,at'*5+2,none⟩ (.int .i64 z1l)).setCell ⟨K.gn,at'*5+2+1,none⟩ (.int .i64 z1h)).alloc (.cells #[.int .i64 z1l,.int .i64 z1h] 266)).drew (me (gj (t9 _) _));have e0:(((wr.setCell ⟨K.gn,at'*5+2,none⟩ (.int .i64 z1l)).setCell ⟨K.gn,at'*5+2+1,none⟩ (.int .i64 z1h)).alloc (.cells #[.int .i64 z1l,.int .i64 z1h] 266)).cell? ⟨wr.heap.size,0,none⟩=some (.int .i64 z1l):=zD (xY _ _ _ (by simp[World.setCell])) 0;have e1:(((wr.setCell ⟨K.gn,at'*5+2,none⟩ (.int .i64 z1l)).setCell ⟨K.gn,at'*5+2+1,none⟩ (.int .i64 z1h)).alloc (.cells #[.int .i64 z1l,.int .i64 z1h] 266)).cell? ⟨wr.heap.size,1,none⟩=some (.int .i64 z1h):=zD (xY _ _ _ (by simp[World.setCell])) 1;have e10':(((wr.setCell ⟨K.gn,at'*5+2,none⟩ (.int .i64 z1l)).setCell ⟨K.gn,at'*5+2+1,none⟩ (.int .i64 z1h)).alloc (.cells #[.int .i64 z1l,.int .i64 z1h] 266)).cell? ⟨K.b,10,none⟩=some (.slice (some ⟨K.gn,0,none⟩) K.np K.nc):=e10;have HI2:=zA (HI.out _ _ HP1.out hS2);have HB2:=zA hB2;clear hS2 hB2 e10
     go_region_held3 (fun w'=>w'.cell? ⟨K.b,10,none⟩=some (.slice (some ⟨K.gn,0,none⟩) K.np K.nc)/\w'.cell? ⟨wr.heap.size,0,none⟩=some (.int .i64 z1l)/\w'.cell? ⟨wr.heap.size,1,none⟩=some (.int .i64 z1h)) (go_keep) (fail)
     all_goals
      go_wp2_with fail
      refine HI2.out.mono ?_;rintro e w3 ⟨r,s3,rfl,hS3,hB3,hR3⟩;have HB3:Hid (Below K.B w w3):=HB2.out.trans hB3;cases r
      ·have HM3:=zA (HNo.out s3 hR3)
       have HS3:=zA hS3;clear hS3 hB3 hR3;go_wp2_with fail
       go_roundw
       case rel=>exact⟨v+1,s3,by omega,by go_num,HS3,HB3,HM3⟩
       case measure=>simp[intOf];omega
      ·have HQ:=zA (HY1.out s3 w3 hS3 HB3.out hR3)
       clear hS3 hB3 hR3;go_wp2_with fail
       first|exact HQ.out|(go_ret;exact HQ.out)
    ·obtain rfl:v=zn:=by omega
     have HQ:=zA (HN.out s1 wr HMr.out HSr.out HBr.out);have hvI:¬(v:Int)<(v:Int):=by omega
     go_wp2_with fail
     first|exact HQ.out|(go_ret;exact HQ.out)
def lO(I:List yH)(e l:vG)(i:Nat):List Nat:=(List.range i).filter fun i=>kQ e l i&&xU I i
theorem V2(I:List yH)(e l:vG)(i:Nat):lO I e l (i+1)=lO I e l i++(if (kQ e l i&&xU I i)=true then [i] else []):=by
 unfold lO;rw[di,List.filter_append,List.filter_cons,fe]
def qY(I:List yH)(e l:vG)(i:Nat):List tR:=((List.range i).filter fun i=>kQ e l i && !xU I i).map fun i=>⟨true,i⟩
theorem Bi(I:List yH)(e l:vG)(i:Nat):qY I e l (i+1)=qY I e l i++(if (kQ e l i && !xU I i)=true then [⟨true,i⟩] else []):=by
 unfold qY;rw[di,List.filter_append,List.map_append,List.filter_cons,fe];split <;> rfl
def qE(e l:vG)(c:Nat):List tR:=((List.range c).filter fun c => !uS e l c&&(vX e c || vX l c)).map fun c=>⟨false,c⟩
theorem Bh(e l:vG)(c:Nat):qE e l (c+1)=qE e l c++(if (!uS e l c&&(vX e c || vX l c))=true then [⟨false,c⟩] else []):=by
 unfold qE;rw[di,List.filter_append,List.map_append,List.filter_cons,fe];split <;> rfl
theorem X0(I:List yH)(e l:vG)(i:Nat):(lO I e l i).length<=i:=by have:=dg (fun i=>kQ e l i&&xU I i) (List.range i);simpa[lO] using this
theorem QU(I:List yH)(e l:vG)(i:Nat):(qY I e l i).length<=i:=by unfold qY;rw[ms];have:=dg (fun i=>kQ e l i && !xU I i) (List.range i);simpa using this
theorem QT(e l:vG)(c:Nat):(qE e l c).length<=c:=by unfold qE;rw[ms];have:=dg (fun c => !uS e l c&&(vX e c || vX l c)) (List.range c);simpa using this
structure NE where
 place:Nat
 za:Option Addr
 zc:Nat
variable{L:List NE}
def zEU(F:Nat->List (Int × Int))(x:NE):List Value:=[.int .i64 (x.place:Nat),.slice x.za (F x.place).length x.zc,.int .i64 0,.int .i64 0,.int .i64 0]
def iH(F:Nat->List (Int × Int))(l:List NE):List Value:=l.flatMap (zEU F)
theorem qw(F:Nat->List (Int × Int))(a b:List NE):iH F (a++b)=iH F a++iH F b:=by unfold iH;rw[fa]
def Xg(l:List tR):List Value:=l.flatMap zHD
theorem vo(a b:List tR):Xg (a++b)=Xg a++Xg b:=by unfold Xg;rw[fa]
def Bm(x y:MX)(nv sv iv hv:Value):Array Value := #[.string ⟨x.1.label.toArray⟩,.int .i64 x.1.conc,x.2.1,x.2.2,.int .i64 x.1.root,.string ⟨y.1.label.toArray⟩,.int .i64 y.1.conc,y.2.1,y.2.2,.int .i64 y.1.root,nv,sv,iv,hv,.slice none 0 0]
def Dc:Array Value := #[.string ⟨#[]⟩,.int .i64 0,.slice none 0 0,.slice none 0 0,.int .i64 0,.string ⟨#[]⟩,.int .i64 0,.slice none 0 0,.slice none 0 0,.int .i64 0,.slice none 0 0,.slice none 0 0,.slice none 0 0,.slice none 0 0,.slice none 0 0]
theorem vz(x y:MX)(nv sv iv hv:Value):(Tryz.prog.info? 184).map (·.size)=some (Bm x y nv sv iv hv).size:=by
 show _=some 15;kernel_rfl
theorem Dm{hv:Value}(h1:x.2.1.oneCell'=true)(h2:x.2.2.oneCell'=true)(h3:y.2.1.oneCell'=true)(h4:y.2.2.oneCell'=true)(h5:nv.oneCell'=true)(h6:sv.oneCell'=true)(h7:iv.oneCell'=true)(h8:hv.oneCell'=true):(Bm x y nv sv iv hv).all (·.oneCell')=true:=by
 unfold Bm;simp only[List.all_toArray,List.all_cons,List.all_nil,h1,h2,h3,h4,h5,h6,h7,h8];rfl
theorem jE.grown{e:TypeId}{f:Nat->Value}(h:jE w g t n f)(zID:w.ownsRow B e k v m ys)(zIM:t≠e)(hg:w.grownBy w' v.ownBlock):jE w' g t n f:=by
 obtain⟨cs,h1,h2⟩:=h;refine⟨cs,?_,h2⟩;rw[hg.block g (yI h1) (fun e1=>?_)]
 ·exact h1
 ·rcases zID.2 with ⟨k1,_⟩|⟨g',cap,yV,k1,_,k3,_⟩
  ·rw[k1]at e1;simp[Value.ownBlock]at e1
  ·rw[k1]at e1;simp[Value.ownBlock]at e1
   subst e1;rw[h1]at k3;simp only[cx,Obj.cells.injEq]at k3;exact zIM k3.2.1
structure YG(w wx:World)(x y:MX)(n h gi gh:Nat)(nv sv:Value)(inp:Nat->Int)(has:Nat->Bool):Prop where
 bel:Below w.heap.size w wx
 sz:w.heap.size+4<=wx.heap.size
 bx:wx.heap[w.heap.size]? = some (.cells #[.string ⟨x.1.label.toArray⟩,.int .i64 x.1.conc,x.2.1,x.2.2,.int .i64 x.1.root] 176 (0,0))
 by':wx.heap[w.heap.size+1]? = some (.cells #[.string ⟨y.1.label.toArray⟩,.int .i64 y.1.conc,y.2.1,y.2.2,.int .i64 y.1.root] 176 (0,0))
 res:wx.heap[w.heap.size+1+1]? = some (.cells Dc 184 (0,0))
 hd:wx.heap[w.heap.size+1+1+1]? = some (.cells (Bm x y nv sv (.slice (some ⟨gi,0,none⟩) n n) (.slice (some ⟨gh,0,none⟩) h h)) 184 (0,0))
 rI:jE wx gi 3 n (fun i=>.int .i64 (inp i))
 rH:jE wx gh 4 h (fun c=>.bool (has c))
 loi:w.heap.size+4<=gi
 loh:w.heap.size+4<=gh
theorem YG.below(k:YG w wx x y n h gi gh nv sv inp has)(hb:Below wx.heap.size wx wy):YG w wy x y n h gi gh nv sv inp has:=by
 have hs:=k.sz;have hz:=hb.size;exact⟨k.bel.trans (hb.mono (by omega)),by omega,by rw[hb.block _ (by omega)];exact k.bx,by rw[hb.block _ (by omega)];exact k.by',by rw[hb.block _ (by omega)];exact k.res,by rw[hb.block _ (by omega)];exact k.hd,k.rI.below hb,k.rH.below hb,k.loi,k.loh⟩
theorem YG.setI{f:Nat->Int}(k:YG w wx x y n h gi gh nv sv inp has){i:Nat}(hi:i<n)(v:Int)(e1:f i=v)(e2:∀r,r<n->r≠i->f r=inp r):YG w (wx.setCell ⟨gi,i,none⟩ (.int .i64 v)) x y n h gi gh nv sv f has:=by
 have hs:=k.sz;have hl:=k.loi;refine⟨k.bel.setCell (p:=⟨gi,i,none⟩) (by show w.heap.size<=gi;omega) _,by simp[World.setCell];exact hs,?_,?_,?_,?_,k.rI.set _ hi (congrArg (Value.int .i64) e1) (fun a ha zIM=>congrArg (Value.int .i64) (e2 a ha zIM)),k.rH.other _ (k.rH.ne k.rI (by decide)),k.loi,k.loh⟩
 ·rw[l6 wx ⟨gi,i,none⟩ _ _ (by show w.heap.size≠gi;omega)];exact k.bx
 ·rw[l6 wx ⟨gi,i,none⟩ _ _ (by show w.heap.size+1≠gi;omega)];exact k.by'
 ·rw[l6 wx ⟨gi,i,none⟩ _ _ (by show w.heap.size+1+1≠gi;omega)];exact k.res
 ·rw[l6 wx ⟨gi,i,none⟩ _ _ (by show w.heap.size+1+1+1≠gi;omega)];exact k.hd
theorem YG.setH{f:Nat->Bool}(k:YG w wx x y n h gi gh nv sv inp has){i:Nat}(hi:i<h)(v:Bool)(e1:f i=v)(e2:∀r,r<h->r≠i->f r=has r):YG w (wx.setCell ⟨gh,i,none⟩ (.bool v)) x y n h gi gh nv sv inp f:=by
 have hs:=k.sz;have hl:=k.loh;refine⟨k.bel.setCell (p:=⟨gh,i,none⟩) (by show w.heap.size<=gh;omega) _,by simp[World.setCell];exact hs,?_,?_,?_,?_,k.rI.other _ (k.rI.ne k.rH (by decide)),k.rH.set _ hi (congrArg Value.bool e1) (fun a ha zIM=>congrArg Value.bool (e2 a ha zIM)),k.loi,k.loh⟩
 ·rw[l6 wx ⟨gh,i,none⟩ _ _ (by show w.heap.size≠gh;omega)];exact k.bx
 ·rw[l6 wx ⟨gh,i,none⟩ _ _ (by show w.heap.size+1≠gh;omega)];exact k.by'
 ·rw[l6 wx ⟨gh,i,none⟩ _ _ (by show w.heap.size+1+1≠gh;omega)];exact k.res
 ·rw[l6 wx ⟨gh,i,none⟩ _ _ (by show w.heap.size+1+1+1≠gh;omega)];exact k.hd
theorem YG.setHd(k:YG w wx x y n h gi gh nv sv inp has){nv' sv':Value}(e:(Bm x y nv sv (.slice (some ⟨gi,0,none⟩) n n) (.slice (some ⟨gh,0,none⟩) h h)).setIfInBounds j v=Bm x y nv' sv' (.slice (some ⟨gi,0,none⟩) n n) (.slice (some ⟨gh,0,none⟩) h h)):YG w (wx.setCell ⟨w.heap.size+1+1+1,j,none⟩ v) x y n h gi gh nv' sv' inp has:=by
 have hs:=k.sz;have l1:=k.loi;have l2:=k.loh;refine⟨k.bel.setCell (p:=⟨w.heap.size+1+1+1,j,none⟩) (by show w.heap.size<=w.heap.size+1+1+1;omega) _,by simp[World.setCell];exact hs,?_,?_,?_,?_,k.rI.other _ (by omega),k.rH.other _ (by omega),k.loi,k.loh⟩
 ·rw[l6 wx ⟨w.heap.size+1+1+1,j,none⟩ _ _ (by show w.heap.size≠w.heap.size+1+1+1;omega)];exact k.bx
 ·rw[l6 wx ⟨w.heap.size+1+1+1,j,none⟩ _ _ (by show w.heap.size+1≠w.heap.size+1+1+1;omega)];exact k.by'
 ·rw[l6 wx ⟨w.heap.size+1+1+1,j,none⟩ _ _ (by show w.heap.size+1+1≠w.heap.size+1+1+1;omega)];exact k.res
 ·rw[py wx _ j _ _ _ k.hd,e]
theorem YG.setN(k:YG w wx x y n h gi gh nv sv inp has)(v:Value):YG w (wx.setCell ⟨w.heap.size+1+1+1,10,none⟩ v) x y n h gi gh v sv inp has:=k.setHd rfl
theorem YG.setS(k:YG w wx x y n h gi gh nv sv inp has)(v:Value):YG w (wx.setCell ⟨w.heap.size+1+1+1,11,none⟩ v) x y n h gi gh nv v inp has:=k.setHd rfl
theorem YG.grown(k:YG w wx x y n h gi gh nv sv inp has){e:TypeId}(zID:wx.ownsRow (w.heap.size+4) e m v q ys)(h1:3≠e)(h2:4≠e)(hg:wx.grownBy wy v.ownBlock):YG w wy x y n h gi gh nv sv inp has:=by
 have hs:=k.sz;have hb:=fun b (hb:b<w.heap.size+4)=>hg.block b (by omega) (fun e1=>by have:=(zP zID b e1.symm).1;omega);exact⟨k.bel.grown hg (by omega) (fun b hb=>by have:=(zP zID b hb).1;omega),by have:=hg.size;omega,by rw[hb _ (by omega)];exact k.bx,by rw[hb _ (by omega)];exact k.by',by rw[hb _ (by omega)];exact k.res,by rw[hb _ (by omega)];exact k.hd,k.rI.grown zID h1 hg,k.rH.grown zID h2 hg,k.loi,k.loh⟩
theorem YG.fresh{w4:World}(bx:w4.heap[w.heap.size]? = some (.cells #[.string ⟨x.1.label.toArray⟩,.int .i64 x.1.conc,x.2.1,x.2.2,.int .i64 x.1.root] 176 (0,0)))(by':w4.heap[w.heap.size+1]? = some (.cells #[.string ⟨y.1.label.toArray⟩,.int .i64 y.1.conc,y.2.1,y.2.2,.int .i64 y.1.root] 176 (0,0)))(res:w4.heap[w.heap.size+1+1]? = some (.cells Dc 184 (0,0)))(hd:w4.heap[w.heap.size+1+1+1]? = some (.cells (Bm x y (.slice none 0 0) (.slice none 0 0) (.slice none 0 0) (.slice none 0 0)) 184 (0,0)))(bel:Below w.heap.size w w4)(hs:w.heap.size+4<=w4.heap.size)(hb:Below w4.heap.size w4 wx)(hI:wx.heap[gi]? = some (.cells (iC (List.replicate n 0)) 3 (0,0)))(hH:wx.heap[gh]? = some (.cells (gC (List.replicate h false)) 4 (0,0)))(l1:w4.heap.size<=gi)(l2:w4.heap.size<=gh) :
 YG w (((wx.setCell ⟨w.heap.size+1+1+1,12,none⟩ (.slice (some ⟨gi,0,none⟩) n n)).setCell ⟨w.heap.size+1+1+1,13,none⟩ (.slice (some ⟨gh,0,none⟩) h h)).setCell ⟨w.heap.size+1+1+1,14,none⟩ (.slice none 0 0)) x y n h gi gh (.slice none 0 0) (.slice none 0 0) (fun _=>0) (fun _=>false):=by
 have hz:=hb.size;have ne:∀(v:Value) (j:Nat) (W:World) (b:Nat),b≠w.heap.size+1+1+1->(W.setCell ⟨w.heap.size+1+1+1,j,none⟩ v).heap[b]? = W.heap[b]? := fun v j W b hb=>l6 W ⟨w.heap.size+1+1+1,j,none⟩ b v hb;have q0:wx.heap[w.heap.size+1+1+1]? = _:=(hb.block _ (by omega)).trans hd;have q1:=py wx _ 12 _ _ (.slice (some ⟨gi,0,none⟩) n n) q0;have q2:=py _ _ 13 _ _ (.slice (some ⟨gh,0,none⟩) h h) q1;have q3:=py _ _ 14 _ _ (.slice none 0 0) q2;refine⟨?_,by simp[World.setCell];omega,?_,?_,?_,q3,?_,?_,by omega,by omega⟩
 ·have h0:w.heap.size<=w.heap.size+1+1+1:=by omega
  exact((((bel.trans (hb.mono (by omega))).setCell (p:=⟨w.heap.size+1+1+1,12,none⟩) h0 _).setCell (p:=⟨w.heap.size+1+1+1,13,none⟩) h0 _).setCell (p:=⟨w.heap.size+1+1+1,14,none⟩) h0 _)
 ·rw[ne _ _ _ _ (by omega),ne _ _ _ _ (by omega),ne _ _ _ _ (by omega),hb.block _ (by omega)];exact bx
 ·rw[ne _ _ _ _ (by omega),ne _ _ _ _ (by omega),ne _ _ _ _ (by omega),hb.block _ (by omega)];exact by'
 ·rw[ne _ _ _ _ (by omega),ne _ _ _ _ (by omega),ne _ _ _ _ (by omega),hb.block _ (by omega)];exact res
 ·refine⟨_,by rw[ne _ _ _ _ (by omega),ne _ _ _ _ (by omega),ne _ _ _ _ (by omega)];exact hI,fun j hj=>?_⟩
  rw[zA8 (by simpa using hj)];simp[List.getD,hj]
 ·refine⟨_,by rw[ne _ _ _ _ (by omega),ne _ _ _ _ (by omega),ne _ _ _ _ (by omega)];exact hH,fun j hj=>?_⟩
  rw[C8 (by simpa using hj)];simp[List.getD,hj]
theorem wP(h:w.ownsRow B t k v n xs){u:Value}{cs:Array Value}{fz:Nat × Nat}(hb:w.heap[b]? = some (.cells cs t' fz))(zIM:t≠t'):(w.setCell ⟨b,j,none⟩ u).ownsRow B t k v n xs:=⟨h.1,by
 rcases h.2 with q|⟨g',cap,yV,k1,k2,q3,k4⟩
 ·exact .inl q
 ·exact .inr ⟨g',cap,yV,k1,k2,by rw[l6 w ⟨b,j,none⟩ g' u (XA q3 hb zIM)];exact q3,k4⟩⟩
theorem wQ(h:w.ownsRow B t k v n xs){f:Nat->Value}(u:Value)(hr:jE w g t' m f)(zIM:t≠t'):(w.setCell ⟨g,j,none⟩ u).ownsRow B t k v n xs:=by
 obtain⟨cs,q,_⟩:=hr;exact wP h q zIM
theorem wT(h:w.ownsRow B t k v n xs)(hb:Below w.heap.size w w'):w'.ownsRow B t k v n xs:=⟨h.1,by
 rcases h.2 with q|⟨g',cap,yV,k1,k2,q3,k4⟩
 ·exact .inl q
 ·exact .inr ⟨g',cap,yV,k1,k2,by rw[hb.block g' (yI q3)];exact q3,k4⟩⟩
theorem Xy(h:w.ownsRow B t k v n xs){B':Nat}(zID:w.ownsRow B' t' m v' q ys)(zIM:t≠t')(hg:w.grownBy w' v'.ownBlock):w'.ownsRow B t k v n xs:=⟨h.1,by
 rcases h.2 with q|⟨g',cap,yV,k1,k2,q3,k4⟩
 ·exact .inl q
 ·refine .inr ⟨g',cap,yV,k1,k2,?_,k4⟩
  rw[hg.block g' (yI q3) (fun e1=>?_)]
  ·exact q3
  ·rcases zID.2 with ⟨p1,_⟩|⟨g2,_,_,p1,_,p3,_⟩
   ·rw[p1]at e1;simp[Value.ownBlock]at e1
   ·rw[p1]at e1;simp[Value.ownBlock]at e1
    subst e1;rw[q3]at p3;simp only[cx,Obj.cells.injEq]at p3;exact zIM p3.2.1⟩
structure Y1(w wr:World)(x y:MX)(n h gi gh:Nat)(F:Nat->List (Int × Int))(nv sv:Value)(L:List NE)(T:List tR)(inp:Nat->Int)(has:Nat->Bool):Prop where
 ns:YG w wr x y n h gi gh nv sv inp has
 nums:wr.ownsRow (w.heap.size+4) 268 5 nv L.length (iH F L)
 zn:∀q∈L,uN wr 266 q.za (fR (F q.place))
 sws:wr.ownsRow (w.heap.size+4) 261 2 sv T.length (Xg T)
theorem Y1.below(k:Y1 w wr x y n h gi gh F nv sv L T inp has)(hb:Below wr.heap.size wr wy):Y1 w wy x y n h gi gh F nv sv L T inp has :=
 ⟨k.ns.below hb,wT k.nums hb,fun q hq=>(k.zn q hq).below hb,wT k.sws hb⟩
theorem Y1.setI{f:Nat->Int}(k:Y1 w wr x y n h gi gh F nv sv L T inp has){i:Nat}(hi:i<n)(v:Int)(e1:f i=v)(e2:∀r,r<n->r≠i->f r=inp r):Y1 w (wr.setCell ⟨gi,i,none⟩ (.int .i64 v)) x y n h gi gh F nv sv L T f has :=
 ⟨k.ns.setI hi v e1 e2,wQ k.nums _ k.ns.rI (by decide),fun q hq=>(k.zn q hq).row _ k.ns.rI (by decide),wQ k.sws _ k.ns.rI (by decide)⟩
theorem Y1.setH{f:Nat->Bool}(k:Y1 w wr x y n h gi gh F nv sv L T inp has){i:Nat}(hi:i<h)(v:Bool)(e1:f i=v)(e2:∀r,r<h->r≠i->f r=has r):Y1 w (wr.setCell ⟨gh,i,none⟩ (.bool v)) x y n h gi gh F nv sv L T inp f :=
 ⟨k.ns.setH hi v e1 e2,wQ k.nums _ k.ns.rH (by decide),fun q hq=>(k.zn q hq).row _ k.ns.rH (by decide),wQ k.sws _ k.ns.rH (by decide)⟩
theorem Y1.tog(k:Y1 w wr x y n h gi gh F nv sv L T inp has)(t:tR)(zID:wy.ownsRow (w.heap.size+4) 261 2 v' (T.length+1) (Xg T++zHD t))(hg:wr.grownBy wy sv.ownBlock):Y1 w (wy.setCell ⟨w.heap.size+1+1+1,11,none⟩ v') x y n h gi gh F nv v' L (T++[t]) inp has:=by
 have k1:=k.ns.grown k.sws (by decide) (by decide) hg;refine⟨k1.setS v',wP (Xy k.nums k.sws (by decide) hg) k1.hd (by decide),fun q hq=>((k.zn q hq).grown k.sws (by decide) hg).set k1.hd (by decide),?_⟩;rw[vo,tq];have e:Xg [t]=zHD t:=by simp[Xg]
 rw[e];exact wP zID k1.hd (by decide)
theorem Y1.num(k:Y1 w wr x y n h gi gh F nv sv L T inp has)(q:NE)(hq:uN wr 266 q.za (fR (F q.place)))(zID:wy.ownsRow (w.heap.size+4) 268 5 v' (L.length+1) (iH F L++zEU F q))(hg:wr.grownBy wy nv.ownBlock):Y1 w (wy.setCell ⟨w.heap.size+1+1+1,10,none⟩ v') x y n h gi gh F v' sv (L++[q]) T inp has:=by
 have k1:=k.ns.grown k.nums (by decide) (by decide) hg;refine⟨k1.setN v',?_,fun r hr=>?_,wP (Xy k.sws k.nums (by decide) hg) k1.hd (by decide)⟩
 ·rw[qw,tq]
  have e:iH F [q]=zEU F q:=by simp[iH]
  rw[e];exact wP zID k1.hd (by decide)
 ·rcases pt.1 hr with hr|hr
  ·exact((k.zn r hr).grown k.nums (by decide) hg).set k1.hd (by decide)
  ·simp at hr;subst hr
   exact(hq.grown k.nums (by decide) hg).set k1.hd (by decide)
theorem FJ(w:World)(g k:Nat)(cs:Array Value)(h:k≠g):(w.setRow g cs).heap[k]? = w.heap[k]? := by
 unfold World.setRow;simp only[Array.getElem?_modify];rw[tg (by omega)]
structure zH5(w wr:World)(n h gi gh:Nat)(F:Nat->List (Int × Int))(nv sv:Value)(L:List NE)(T:List tR)(inp:Nat->Int)(has:Nat->Bool):Prop where
 bel:Below w.heap.size w wr
 nums:wr.ownsRow (w.heap.size+4) 268 5 nv L.length (iH F L)
 zn:∀q∈L,uN wr 266 q.za (fR (F q.place))
 sws:wr.ownsRow (w.heap.size+4) 261 2 sv T.length (Xg T)
 rI:jE wr gi 3 n (fun i=>.int .i64 (inp i))
 rH:jE wr gh 4 h (fun c=>.bool (has c))
 loi:w.heap.size<=gi
 loh:w.heap.size<=gh
theorem Y1.done(k:Y1 w wr x y n h gi gh F nv sv L T inp has)(cs:Array Value):zH5 w (wr.setRow (w.heap.size+1+1) cs) n h gi gh F nv sv L T inp has:=by
 have zIM:∀ {g:Nat} {c:Array Value} {t:TypeId} {fz:Nat × Nat},wr.heap[g]? = some (.cells c t fz)->t≠184->(wr.setRow (w.heap.size+1+1) cs).heap[g]? = wr.heap[g]? := fun h1 h2=>FJ _ _ _ _ (XA h1 k.ns.res h2)
 have zID:∀ {t:TypeId} {m q:Nat} {v:Value} {ys:List Value},wr.ownsRow (w.heap.size+4) t m v q ys->t≠184->(wr.setRow (w.heap.size+1+1) cs).ownsRow (w.heap.size+4) t m v q ys:=fun h1 h2=>⟨h1.1,by
  rcases h1.2 with q|⟨g',cap,yV,k1,k2,q3,k4⟩
  ·exact .inl q
  ·exact .inr ⟨g',cap,yV,k1,k2,by rw[zIM q3 h2];exact q3,k4⟩⟩
 have zIY:∀ {t:TypeId} {g m:Nat} {f:Nat->Value},jE wr g t m f->t≠184->jE (wr.setRow (w.heap.size+1+1) cs) g t m f:=fun h1 h2=>by
  obtain⟨c,q1,q2⟩:=h1;exact⟨c,by rw[zIM q1 h2];exact q1,q2⟩
 have l1:=k.ns.loi;have l2:=k.ns.loh;exact⟨xA k.ns.bel (by omega) _,zID k.nums (by decide),fun q hq=>(k.zn q hq).keep fun g c fz hg=>zIM hg (by decide),zID k.sws (by decide),zIY k.ns.rI (by decide),zIY k.ns.rH (by decide),by omega,by omega⟩
def cJ(I:List yH)(i j:Nat):Int:=if j<i then (jA I j).low else 0
def cK(e l:vG)(c j:Nat):Bool:=decide (j<c)&&uS e l j
theorem zDR:(Tryz.prog.info? 268).map (fun i=>(i.zero,i.size,i.bytes))=some (some (.agg #[.int .i64 0,.slice none 0 0,.int .i64 0,.int .i64 0,.int .i64 0]),5,56):=by kernel_rfl
theorem zDN:(Tryz.prog.info? 261).map (fun i=>(i.zero,i.size,i.bytes))=some (some (.agg #[.bool false,.int .i64 0]),2,16):=by kernel_rfl
def KP(I:List yH)(H:Nat)(x y:MX)(w w':World)(e:Ending):Prop:=∃gi gh nv sv L,e=.returned (.agg (Bm x y nv sv (.slice (some ⟨gi,0,none⟩) I.length I.length) (.slice (some ⟨gh,0,none⟩) H H)))/\zH5 w w' I.length H gi gh (mC I x.1 y.1) nv sv L (qY I x.1 y.1 I.length++qE x.1 y.1 H) (cJ I I.length) (cK x.1 y.1 H)/\L.map NE.place=vO I x.1 y.1
theorem G9(I:List yH)(i:Nat):cJ I (i+1) i=(jA I i).low/\∀r,r≠i->cJ I (i+1) r=cJ I i r:=by
 refine⟨by unfold cJ;rw[tj (by omega)],fun r hr=>?_⟩;unfold cJ;by_cases h:r<i
 ·rw[tj (by omega),tj h]
 ·rw[tg (by omega),tg h]
theorem GH(e l:vG)(i:Nat):cK e l (i+1) i=uS e l i/\∀r,r≠i->cK e l (i+1) r=cK e l i r:=by
 refine⟨by unfold cK;simp,fun r hr=>?_⟩;unfold cK;by_cases h:r<i
 ·rw[tm h,tm (show r<i+1 by omega)]
 ·rw[th h,th (show ¬r<i+1 by omega)]
theorem oM(r:vG)(i:Nat):(xR r i).length<=r.guard.length:=by unfold xR;rw[ms];exact dg _ _
theorem Js{I:List yH}(h:pE w a (I.flatMap kG)){i:Nat}(hi:i<I.length):∃g,a=some ⟨g,0,none⟩/\w.cell? ⟨g,i*4,none⟩=some (.string ⟨(jA I i).name.toArray⟩)/\w.cell? ⟨g,i*4+1,none⟩=some (.bool (jA I i).isFlag)/\w.cell? ⟨g,i*4+2,none⟩=some (.int .i64 (jA I i).low)/\w.cell? ⟨g,i*4+3,none⟩=some (.int .i64 (jA I i).high):=by
 obtain⟨g,e,c0⟩:=h.at ((zW kG 4 (fun _=>rfl) x9 I i 0 hi (by decide)).trans rfl);obtain⟨g1,e1,c1⟩:=h.at ((zW kG 4 (fun _=>rfl) x9 I i 1 hi (by decide)).trans rfl);obtain⟨g2,e2,c2⟩:=h.at ((zW kG 4 (fun _=>rfl) x9 I i 2 hi (by decide)).trans rfl);obtain⟨g3,e3,c3⟩:=h.at ((zW kG 4 (fun _=>rfl) x9 I i 3 hi (by decide)).trans rfl);obtain rfl:g=g1:=by rw[e]at e1;simpa using e1
 obtain rfl:g=g2:=by rw[e]at e2;simpa using e2
 obtain rfl:g=g3:=by rw[e]at e3;simpa using e3
 exact⟨g,e,c0,c1,c2,c3⟩
theorem V6(w:World)(b o:Nat)(I:List yH)(H:Nat)(x y:MX)(ia ca:Option Addr)(ic cc:Nat)(h0:w.cell? ⟨b,o,none⟩=some (.slice ia I.length ic))(h1:w.cell? ⟨b,o+1,none⟩=some (.slice ca H cc))(hI:uN w 258 ia (I.flatMap kG))(hx:kJ w x)(hy:kJ w y)(fI:I.length<=10000)(fH:H<=10000)(hbd:∀i z,z∈xR x.1 i++xR y.1 i -> -1000000<=z/\z<=1000000)(hzf:∀i,(mC I x.1 y.1 i).length<=100000) :
 Calls Tryz.prog 71 #[.pointer (some ⟨b,o,none⟩),qW x,qW y] w fun e w'=>KP I H x y w w' e:=by
 have lb:=vU h0;obtain⟨i0,hi0,hz0,hz1,hz2⟩:=dp zDN;obtain⟨j0,hj0,hj1,hj2,hj3⟩:=dp zDR;have HIn:=zA (fun w' (hb:Below w.heap.size w w') i (hi:i<I.length)=>Js (hI.below hb).cel hi);have HAI1:=zA (fun w' (hb:Below w.heap.size w w') (c:Nat)=>Y6 w' x c (hx.below hb));have HAI2:=zA (fun w' (hb:Below w.heap.size w w') (c:Nat)=>Y6 w' y c (hy.below hb));have HBd1:=zA (fun w' (hb:Below w.heap.size w w') (c:Nat)=>US w' x c (hx.below hb));have HBd2:=zA (fun w' (hb:Below w.heap.size w w') (c:Nat)=>US w' y c (hy.below hb));have HNd1:=zA (fun w' (hb:Below w.heap.size w w') (c:Nat)=>Fh w' x c (hx.below hb));have HNd2:=zA (fun w' (hb:Below w.heap.size w w') (c:Nat)=>Fh w' y c (hy.below hb));have HAH1:=zA (fun w' (hb:Below w.heap.size w w') (c:Nat)=>JN w' x c (hx.below hb));have HAH2:=zA (fun w' (hb:Below w.heap.size w w') (c:Nat)=>JN w' y c (hy.below hb));have HZo:Hid (∀w' i (ea la:Option Addr) (ec lc:Nat),lD w' ea (xR x.1 i)->lD w' la (xR y.1 i)->Calls Tryz.prog 124 #[D9 (jA I i),.slice ea (xR x.1 i).length ec,.slice la (xR y.1 i).length lc] w' fun e w''=>∃v,e=.returned v/\w''.ownsRow w'.heap.size 266 2 v (mC I x.1 y.1 i).length (fR (mC I x.1 y.1 i))/\Below w'.heap.size w' w''):=fun w' i ea la ec lc h1 h2=>Fn w' (jA I i) ea la ec lc _ _ h1 h2 (hbd i);have HBl1:Hid (∀i,(xR x.1 i).length<=10000):=fun i=>tx (oM _ _) hx.few2;have HBl2:Hid (∀i,(xR y.1 i).length<=10000):=fun i=>tx (oM _ _) hy.few2;have HNs:=zA (fun i=>V2 I x.1 y.1 i);have HS1:=zA (fun i=>Bi I x.1 y.1 i);have HS2:=zA (fun i=>Bh x.1 y.1 i);have HNl:=zA (fun i=>X0 I x.1 y.1 i);have HS1l:=zA (fun i=>QU I x.1 y.1 i);have HS2l:=zA (fun i=>QT x.1 y.1 i);have HIs:=zA (fun i=>G9 I i);have HHs:=zA (fun i=>GH x.1 y.1 i);have HAb:Hid (∀i,kQ x.1 y.1 i=(mB x.1 i || mB y.1 i)):=fun _=>rfl;have HNb:Hid (∀i,uS x.1 y.1 i=(lQ x.1 i || lQ y.1 i)):=fun _=>rfl;have HIf:Hid (∀i,xU I i = !(jA I i).isFlag):=fun _=>rfl;have HPo:Hid (∀w' gi gh nv sv L,zH5 w w' I.length H gi gh (mC I x.1 y.1) nv sv L (qY I x.1 y.1 I.length++qE x.1 y.1 H) (cJ I I.length) (cK x.1 y.1 H)->L.map NE.place=lO I x.1 y.1 I.length->KP I H x y w w' (.returned (.agg (Bm x y nv sv (.slice (some ⟨gi,0,none⟩) I.length I.length) (.slice (some ⟨gh,0,none⟩) H H))))):=fun w' gi gh nv sv L h1 h2=>⟨gi,gh,nv,sv,L,rfl,h1,h2⟩;have HZf:=zA hzf;obtain⟨pa,pc,e1,-⟩:=hx.sum;obtain⟨ga,gc,e2,-⟩:=hx.guard;obtain⟨pa',pc',e3,-⟩:=hy.sum;obtain⟨ga',gc',e4,-⟩:=hy.guard
 have HCx:Hid (∀wr n gi gh F nv sv L T f g,Y1 w wr x y n H gi gh F nv sv L T f g->((wr.cell? ⟨w.heap.size,0,none⟩=some (.string ⟨x.1.label.toArray⟩)/\wr.cell? ⟨w.heap.size,1,none⟩=some (.int .i64 x.1.conc)/\wr.cell? ⟨w.heap.size,2,none⟩=some (.slice pa x.1.sum.length pc)/\wr.cell? ⟨w.heap.size,3,none⟩=some (.slice ga x.1.guard.length gc)/\wr.cell? ⟨w.heap.size,4,none⟩=some (.int .i64 x.1.root))/\(wr.cell? ⟨w.heap.size+1,0,none⟩=some (.string ⟨y.1.label.toArray⟩)/\wr.cell? ⟨w.heap.size+1,1,none⟩=some (.int .i64 y.1.conc)/\wr.cell? ⟨w.heap.size+1,2,none⟩=some (.slice pa' y.1.sum.length pc')/\wr.cell? ⟨w.heap.size+1,3,none⟩=some (.slice ga' y.1.guard.length gc')/\wr.cell? ⟨w.heap.size+1,4,none⟩=some (.int .i64 y.1.root))/\(wr.cell? ⟨w.heap.size+1+1+1,10,none⟩=some nv/\wr.cell? ⟨w.heap.size+1+1+1,11,none⟩=some sv/\wr.cell? ⟨w.heap.size+1+1+1,12,none⟩=some (.slice (some ⟨gi,0,none⟩) n n)/\wr.cell? ⟨w.heap.size+1+1+1,13,none⟩=some (.slice (some ⟨gh,0,none⟩) H H))/\∀j,wr.frozen? ⟨w.heap.size+1+1+1,j,none⟩=false)):=fun wr n gi gh F nv sv L T f g k=>by
  have q1:=k.ns.bx;have q2:=k.ns.by'
  rw[e1,e2]at q1;rw[e3,e4]at q2;exact⟨⟨zD q1 0,zD q1 1,zD q1 2,zD q1 3,zD q1 4⟩,⟨zD q2 0,zD q2 1,zD q2 2,zD q2 3,zD q2 4⟩,⟨zD k.ns.hd 10,zD k.ns.hd 11,zD k.ns.hd 12,zD k.ns.hd 13⟩,fun j=>by simp[World.frozen?,k.ns.hd]⟩
 have HFr:Hid (∀ {w4 wx:World} {n gi gh:Nat},w4.heap[w.heap.size]? = some (.cells #[.string ⟨x.1.label.toArray⟩,.int .i64 x.1.conc,.slice pa x.1.sum.length pc,.slice ga x.1.guard.length gc,.int .i64 x.1.root] 176 (0,0))->w4.heap[w.heap.size+1]? = some (.cells #[.string ⟨y.1.label.toArray⟩,.int .i64 y.1.conc,.slice pa' y.1.sum.length pc',.slice ga' y.1.guard.length gc',.int .i64 y.1.root] 176 (0,0))->w4.heap[w.heap.size+1+1]? = some (.cells Dc 184 (0,0))->w4.heap[w.heap.size+1+1+1]? = some (.cells #[.string ⟨x.1.label.toArray⟩,.int .i64 x.1.conc,.slice pa x.1.sum.length pc,.slice ga x.1.guard.length gc,.int .i64 x.1.root,.string ⟨y.1.label.toArray⟩,.int .i64 y.1.conc,.slice pa' y.1.sum.length pc',.slice ga' y.1.guard.length gc',.int .i64 y.1.root,.slice none 0 0,.slice none 0 0,.slice none 0 0,.slice none 0 0,.slice none 0 0] 184 (0,0))->Below w.heap.size w w4->w.heap.size+4<=w4.heap.size->Below w4.heap.size w4 wx->wx.heap[gi]? = some (.cells (iC (List.replicate n 0)) 3 (0,0))->wx.heap[gh]? = some (.cells (gC (List.replicate H false)) 4 (0,0))->w4.heap.size<=gi->w4.heap.size<=gh->Y1 w (((wx.setCell ⟨w.heap.size+1+1+1,12,none⟩ (.slice (some ⟨gi,0,none⟩) n n)).setCell ⟨w.heap.size+1+1+1,13,none⟩ (.slice (some ⟨gh,0,none⟩) H H)).setCell ⟨w.heap.size+1+1+1,14,none⟩ (.slice none 0 0)) x y n H gi gh (mC I x.1 y.1) (.slice none 0 0) (.slice none 0 0) [] [] (cJ I 0) (cK x.1 y.1 0)):=fun {w4 wx n gi gh} q1 q2 q3 q4 q5 q6 q7 q8 q9 q10 q11=>by
  have hz:cJ I 0=fun _=>0:=by funext j;unfold cJ;rw[tg (by omega)]
  have hz2:cK x.1 y.1 0=fun _=>false:=by funext j;unfold cK;rw[th (by omega)];rfl
  rw[hz,hz2];exact⟨YG.fresh (x:=x) (y:=y) (by rw[e1,e2];exact q1) (by rw[e3,e4];exact q2) q3 (by unfold Bm;rw[e1,e2,e3,e4];exact q4) q5 q6 q7 q8 q9 q10 q11,⟨rfl,.inl ⟨rfl,rfl⟩⟩,fun q hq=>by simp at hq,⟨rfl,.inl ⟨rfl,rfl⟩⟩⟩
 have HOne:Hid (∀nv sv iv hv:Value,nv.oneCell'=true->sv.oneCell'=true->iv.oneCell'=true->hv.oneCell'=true->(Bm x y nv sv iv hv).all (·.oneCell')=true):=fun nv sv iv hv h1 h2 h3 h4=>Dm (by rw[e1];rfl) (by rw[e2];rfl) (by rw[e3];rfl) (by rw[e4];rfl) h1 h2 h3 h4
 simp only[qW]at HAI1 HAI2 HBd1 HBd2 HNd1 HNd2 HAH1 HAH2 ⊢;rw[e1,e2]at HAI1 HBd1 HNd1 HAH1;rw[e3,e4]at HAI2 HBd2 HNd2 HAH2;rw[e1,e2,e3,e4];have HE1:=zA (show x.2.1=_ from e1);clear e1 e2 e3 e4 hx hy hbd hzf hI;have hmI:=run_make_row' (P:=Tryz.prog) 59 3 (.int .i64 0) 8 Tryz.underlying59 nE rfl .i64 .i64 I.length (by omega) (by omega);have hmH:=run_make_row' (P:=Tryz.prog) 180 4 (.bool false) 1 Tryz.underlying180 Zr rfl .i64 .i64 H (by omega) (by omega);rw[oC]at hmH;rw[Jp]at hmI;generalize x.1.label=xl at *;generalize x.1.conc=xc at *;generalize x.1.root=xr at *;generalize x.1.sum.length=xn at *;generalize x.1.guard.length=xm at *;generalize y.1.label=yl at *;generalize y.1.conc=yc at *;generalize y.1.root=yr at *;generalize y.1.sum.length=yn at *;generalize y.1.guard.length=ym at *;have h1':=h1;have lb1:=lb
 go_enter Tryz.func71,Tryz.ntmps71
 go_upto_region 2 with fail
 obtain⟨w4,hw4⟩:∃w4,w4=(((w.alloc (Obj.cells #[Value.string ⟨xl.toArray⟩,.int .i64 xc,.slice pa xn pc,.slice ga xm gc,.int .i64 xr] 176)).alloc (Obj.cells #[Value.string ⟨yl.toArray⟩,.int .i64 yc,.slice pa' yn pc',.slice ga' ym gc',.int .i64 yr] 176)).alloc (Obj.cells Dc 184)).alloc (Obj.cells #[.string ⟨xl.toArray⟩,.int .i64 xc,.slice pa xn pc,.slice ga xm gc,.int .i64 xr,.string ⟨yl.toArray⟩,.int .i64 yc,.slice pa' yn pc',.slice ga' ym gc',.int .i64 yr,.slice none 0 0,.slice none 0 0,.slice none 0 0,.slice none 0 0,.slice none 0 0] 184):=⟨_,rfl⟩;have hw4':=hw4;unfold Dc at hw4;rw[<-hw4];clear hw4;have x0:w4.heap[w.heap.size]? = some (.cells #[.string ⟨xl.toArray⟩,.int .i64 xc,.slice pa xn pc,.slice ga xm gc,.int .i64 xr] 176 (0,0)):=by rw[hw4'];exact yJ (yJ (yJ (zM _ _)))
 have x1:w4.heap[w.heap.size+1]? = some (.cells #[.string ⟨yl.toArray⟩,.int .i64 yc,.slice pa' yn pc',.slice ga' ym gc',.int .i64 yr] 176 (0,0)):=by rw[hw4'];exact yJ (yJ (xY _ _ _ (by simp)))
 have x2:w4.heap[w.heap.size+1+1]? = some (.cells Dc 184 (0,0)):=by rw[hw4'];exact yJ (xY _ _ _ (by simp))
 have x3:w4.heap[w.heap.size+1+1+1]? = some (.cells #[.string ⟨xl.toArray⟩,.int .i64 xc,.slice pa xn pc,.slice ga xm gc,.int .i64 xr,.string ⟨yl.toArray⟩,.int .i64 yc,.slice pa' yn pc',.slice ga' ym gc',.int .i64 yr,.slice none 0 0,.slice none 0 0,.slice none 0 0,.slice none 0 0,.slice none 0 0] 184 (0,0)):=by rw[hw4'];exact xY _ _ _ (by simp)
 have hs4:w4.heap.size=w.heap.size+4:=by rw[hw4'];simp
 have HB4:Hid (Below w.heap.size w w4):=by unfold Hid;rw[hw4'];exact(((gj (t9 _) _).alloc (by simp) _).alloc (by simp;omega) _).alloc (by simp;omega) _
 have k0:w4.cell? ⟨b,o,none⟩=some (.slice ia I.length ic):=(HB4.out.cell (p:=⟨b,o,none⟩) lb).trans h0;have k1:w4.cell? ⟨b,o+1,none⟩=some (.slice ca H cc):=(HB4.out.cell (p:=⟨b,o+1,none⟩) lb).trans h1;have l3:w.heap.size+1+1+1<w4.heap.size:=by omega
 have l4:b<w4.heap.size:=by omega
 have HQ:Hid (∀A B:Obj,((w4.alloc A).alloc B).heap[w.heap.size+1+1+1]? = _):=fun A B=>yJ (yJ x3);have f12:∀A B:Obj,((w4.alloc A).alloc B).frozen? ⟨w.heap.size+1+1+1,12,none⟩=false:=fun A B=>by simp[World.frozen?,HQ.out A B]
 have f13:∀A B:Obj,((w4.alloc A).alloc B).frozen? ⟨w.heap.size+1+1+1,13,none⟩=false:=fun A B=>by simp[World.frozen?,HQ.out A B]
 have f14:∀A B:Obj,((w4.alloc A).alloc B).frozen? ⟨w.heap.size+1+1+1,14,none⟩=false:=fun A B=>by simp[World.frozen?,HQ.out A B]
 have c12:∀A B:Obj,((w4.alloc A).alloc B).cell? ⟨w.heap.size+1+1+1,12,none⟩=some (.slice none 0 0):=fun A B=>zD (HQ.out A B) 12;have c13:∀A B:Obj,((w4.alloc A).alloc B).cell? ⟨w.heap.size+1+1+1,13,none⟩=some (.slice none 0 0):=fun A B=>zD (HQ.out A B) 13;have c14:∀A B:Obj,((w4.alloc A).alloc B).cell? ⟨w.heap.size+1+1+1,14,none⟩=some (.slice none 0 0):=fun A B=>zD (HQ.out A B) 14;have HX0:=zA x0;have HX1:=zA x1;have HX2:=zA x2;have HX3:=zA x3;have hs4':w.heap.size+4<=w4.heap.size:=by omega
 clear hw4' hs4 x0 x1 x2 x3
 go_cut [7] from 17 to 30 (fun v7 wx=>v7=.pointer (some ⟨w.heap.size+1+1+1,0,none⟩)/\∃gi gh,Hid (Y1 w wx x y I.length H gi gh (mC I x.1 y.1) (.slice none 0 0) (.slice none 0 0) [] [] (cJ I 0) (cK x.1 y.1 0)))
 case first =>
  go_region
  all_goals
   go_wp2_with fail
   go_meet
  ·exact⟨rfl,w4.heap.size,w4.heap.size+1,zA ((HFr.out (n:=I.length) (gi:=w4.heap.size) (gh:=w4.heap.size+1) HX0.out HX1.out HX2.out HX3.out HB4.out hs4' ((gj (t9 _) _).alloc (by simp) _) (yJ (zM _ _)) (xY _ _ _ (by simp)) (by omega) (by omega)).below (me (tl _ _)))⟩
  ·exact⟨rfl,w4.heap.size+1,w4.heap.size,zA ((HFr.out (n:=I.length) (gi:=w4.heap.size+1) (gh:=w4.heap.size) HX0.out HX1.out HX2.out HX3.out HB4.out hs4' ((gj (t9 _) _).alloc (by simp) _) (xY _ _ _ (by simp)) (yJ (zM _ _)) (by omega) (by omega)).below (me (tl _ _)))⟩
 case rest =>
  obtain⟨rfl,gi,gh,HS⟩:=hcut;generalize hwA:wc=wA at *;clear hwA HX0 HX1 HX2 HX3 HB4 k0 k1 l3 l4 HQ f12 f13 f14 c12 c13 c14 hmI hmH hs4' HFr;have HMd:Hid (∀wr,Below w.heap.size w wr->wr.cell? ⟨b,o,none⟩=some (.slice ia I.length ic)/\wr.cell? ⟨b,o+1,none⟩=some (.slice ca H cc)):=fun wr hb=>⟨(hb.cell (p:=⟨b,o,none⟩) lb).trans h0,(hb.cell (p:=⟨b,o+1,none⟩) lb).trans h1⟩;obtain⟨k0,k1⟩:=HMd.out wA HS.out.ns.bel;clear h0 h1 h1' lb1;go_wp2_with fail
  go_loopw [36] (fun iv wr=>∃(i:Nat) (nv sv:Value) (L:List NE),i<=I.length/\iv=.int .i64 i/\Hid (Y1 w wr x y I.length H gi gh (mC I x.1 y.1) nv sv L (qY I x.1 y.1 i) (cJ I i) (cK x.1 y.1 0))/\Hid (L.map NE.place=lO I x.1 y.1 i)) (fun iv _=>I.length-(intOf iv).toNat)
  case atStart=>exact⟨0,_,_,[],tr _,rfl,HS,zA rfl⟩
  case round =>
   obtain⟨i,nv,sv,L,hi,rfl,HN,HP⟩:=hrel;have zIQ:=HN.out.ns.sz;by_cases zIB:i<I.length
   ·obtain⟨g,rfl,n0,n1,n2,n3⟩:=HIn.out wr HN.out.ns.bel i zIB
    obtain⟨-,-,⟨-,-,d12,-⟩,-⟩:=HCx.out _ _ _ _ _ _ _ _ _ _ _ HN.out;have ii:(i:Int)<(I.length:Int):=by omega
    have lg:=vU n0;have ng:wr.heap.size≠g:=by omega
    have m3:w.heap.size+1+1+1<wr.heap.size:=by omega
    have m3':wr.heap.size≠w.heap.size+1+1+1:=by omega
    have ci:wr.cell? ⟨gi,i,none⟩=some (.int .i64 (cJ I i i)):=HN.out.ns.rI.cell zIB;have fi:wr.frozen? ⟨gi,i,none⟩=false:=HN.out.ns.rI.free i;have lgi:=vU ci;have ngi:wr.heap.size≠gi:=by omega
    have ngi':gi≠wr.heap.size:=by omega
    have HSet:Hid (Y1 w (wr.setCell ⟨gi,i,none⟩ (.int .i64 (jA I i).low)) x y I.length H gi gh (mC I x.1 y.1) nv sv L (qY I x.1 y.1 i) (cJ I (i+1)) (cK x.1 y.1 0)):=HN.out.setI zIB _ (HIs.out i).1 (fun r _ hr=>(HIs.out i).2 r hr);have HAI1i:=zA (fun w' hb=>HAI1.out w' hb i);have HAI2i:=zA (fun w' hb=>HAI2.out w' hb i);have HBd1i:=zA (fun w' hb=>HBd1.out w' hb i);have HBd2i:=zA (fun w' hb=>HBd2.out w' hb i);have HZoi:=zA (fun w'=>HZo.out w' i);have HBl1i:=HBl1.out i;have HBl2i:=HBl2.out i;have HNsi:=zA (HNs.out i);have HS1i:=zA (HS1.out i);have hNl:=HNl.out i;have hS1l:=HS1l.out i;have hLl:L.length<=i:=by have:=congrArg List.length HP.out;rw[ms]at this;omega
    rw[HAb.out i,HIf.out i]at HNsi HS1i;have hzl:=HZf.out i;have HNeC:Hid (∀za zc,zEU (mC I x.1 y.1) ⟨i,za,zc⟩=[.int .i64 (i:Nat),.slice za (mC I x.1 y.1 i).length zc,.int .i64 0,.int .i64 0,.int .i64 0]):=fun _ _=>rfl;generalize cJ I i i=old at *;generalize jA I i=xi at *;obtain⟨xin,xif,xil,xih⟩:=xi;simp only[D9]at n0 n1 n2 n3 HSet HNsi HS1i HZoi;generalize mB x.1 i=q1 at *;generalize mB y.1 i=q2 at *
    go_upto_region 7 with fail
    have HN7:Hid (Y1 w ((wr.setCell ⟨gi,i,none⟩ (.int .i64 xil)).alloc (.cells #[.string ⟨xin.toArray⟩,.bool xif,.int .i64 xil,.int .i64 xih] 258)) x y I.length H gi gh (mC I x.1 y.1) nv sv L (qY I x.1 y.1 i) (cJ I (i+1)) (cK x.1 y.1 0)):=HSet.out.below (gj (t9 _) _);have HI7:Hid (((wr.setCell ⟨gi,i,none⟩ (.int .i64 xil)).alloc (.cells #[.string ⟨xin.toArray⟩,.bool xif,.int .i64 xil,.int .i64 xih] 258)).heap[wr.heap.size]? = some (.cells #[.string ⟨xin.toArray⟩,.bool xif,.int .i64 xil,.int .i64 xih] 258 (0,0))):=xY _ _ _ (by simp[World.setCell]);generalize (wr.setCell ⟨gi,i,none⟩ (.int .i64 xil)).alloc (.cells #[.string ⟨xin.toArray⟩,.bool xif,.int .i64 xil,.int .i64 xih] 258)=w7 at *;clear HSet n0 n1 n2 n3 ci fi lgi ngi ngi' d12 HN zIQ m3 m3' lg ng;obtain⟨⟨a0,a1,a2,a3,a4⟩,-,-,-⟩:=HCx.out _ _ _ _ _ _ _ _ _ _ _ HN7.out;have HAI1w:=zA (HAI1i.out w7 HN7.out.ns.bel)
    have HYc:Hid (∀w8,Below w7.heap.size w7 w8->Below w.heap.size w w8/\w8.cell? ⟨w.heap.size+1,0,none⟩=some (.string ⟨yl.toArray⟩)/\w8.cell? ⟨w.heap.size+1,1,none⟩=some (.int .i64 yc)/\w8.cell? ⟨w.heap.size+1,2,none⟩=some (.slice pa' yn pc')/\w8.cell? ⟨w.heap.size+1,3,none⟩=some (.slice ga' ym gc')/\w8.cell? ⟨w.heap.size+1,4,none⟩=some (.int .i64 yr)):=fun w8 hb=>by
     have k:=HN7.out.below hb;obtain⟨-,h9,-,-⟩:=HCx.out _ _ _ _ _ _ _ _ _ _ _ k;exact⟨k.ns.bel,h9⟩
    go_cut [57] from 48 to 57 (fun v57 wx=>v57=.bool (!(q1 || q2))/\Hid (Below w7.heap.size w7 wx))
    case first =>
     cases q1
     ·go_wp2_with fail
      refine HAI1w.out.mono ?_;rintro e w8 ⟨rfl,hb8⟩;obtain⟨p1,p2,p3,p4,p5,p6⟩:=HYc.out w8 hb8;have HA2w:=zA (HAI2i.out w8 p1);have HB8:=zA hb8;clear hb8 p1 a0 a1 a2 a3 a4;go_wp2_with fail
      refine HA2w.out.mono ?_;rintro e w9 ⟨rfl,hb9⟩;have HB9:Hid (Below w7.heap.size w7 w9):=HB8.out.trans (hb9.mono HB8.out.size);clear hb9;cases q2
      ·go_wp2_with fail
       go_meet
       exact⟨rfl,HB9⟩
      ·go_wp2_with fail
       go_meet
       exact⟨rfl,HB9⟩
     ·go_wp2_with fail
      refine HAI1w.out.mono ?_;rintro e w8 ⟨rfl,hb8⟩;have HB8:=zA hb8;clear hb8;go_wp2_with fail
      go_meet
      exact⟨rfl,HB8⟩
    case rest =>
     obtain⟨rfl,HB8⟩:=hcut;generalize hwB:wc=w8 at *;clear hwB a0 a1 a2 a3 a4 HAI1w HAI1i HAI2i HYc;have HN8:=zA (HN7.out.below HB8.out);have HI8:Hid (w8.heap[wr.heap.size]? = some (.cells #[.string ⟨xin.toArray⟩,.bool xif,.int .i64 xil,.int .i64 xih] 258 (0,0))):=by unfold Hid;rw[HB8.out.block _ (yI HI7.out)];exact HI7.out
     clear HN7 HI7 HB8;generalize (q1 || q2)=qq at *;cases qq
     ·have HE1:Hid (qY I x.1 y.1 (i+1)=qY I x.1 y.1 i):=by have:=HS1i.out;unfold Hid;simpa using this
      have HE2:Hid (lO I x.1 y.1 (i+1)=lO I x.1 y.1 i):=by have:=HNsi.out;unfold Hid;simpa using this
      go_wp2_with fail
      go_roundw
      case rel=>exact⟨i+1,nv,sv,L,by omega,by go_num,by rw[HE1.out];exact HN8,by rw[HE2.out];exact HP⟩
      case measure=>simp[intOf];omega
     ·have u0:w8.cell? ⟨wr.heap.size,0,none⟩=some (.string ⟨xin.toArray⟩):=zD HI8.out 0
      have u1:w8.cell? ⟨wr.heap.size,1,none⟩=some (.bool xif):=zD HI8.out 1;have u2:w8.cell? ⟨wr.heap.size,2,none⟩=some (.int .i64 xil):=zD HI8.out 2;have u3:w8.cell? ⟨wr.heap.size,3,none⟩=some (.int .i64 xih):=zD HI8.out 3;obtain⟨⟨a0,a1,a2,a3,a4⟩,⟨b0,b1,b2,b3,b4⟩,⟨d10,d11,d12,d13⟩,dF⟩:=HCx.out _ _ _ _ _ _ _ _ _ _ _ HN8.out;have hs8:=HN8.out.ns.sz;have m3:w.heap.size+1+1+1<w8.heap.size:=by omega
      have m3':w8.heap.size≠w.heap.size+1+1+1:=by omega
      cases xif
      ·have HE1:Hid (qY I x.1 y.1 (i+1)=qY I x.1 y.1 i):=by have:=HS1i.out;unfold Hid;simpa using this
       have HE2:Hid (lO I x.1 y.1 (i+1)=lO I x.1 y.1 i++[i]):=by have:=HNsi.out;unfold Hid;simpa using this
       have HB1w:=zA (HBd1i.out w8 HN8.out.ns.bel);go_wp2_with fail
       refine HB1w.out.mono ?_;rintro e w9 ⟨v9,rfl,ho9,hb9⟩;have HN9:=zA (HN8.out.below hb9);obtain⟨ea,ec,rfl,hcel9,-,-⟩:=dJ ho9;have HIa:Hid (lD w9 ea (xR x.1 i)):=⟨hcel9,HBl1i⟩;have HI9:Hid (w9.heap[wr.heap.size]? = some (.cells #[.string ⟨xin.toArray⟩,.bool false,.int .i64 xil,.int .i64 xih] 258 (0,0))):=by unfold Hid;rw[hb9.block _ (yI HI8.out)];exact HI8.out
       obtain⟨-,⟨e0,e1,e2,e3,e4⟩,-,-⟩:=HCx.out _ _ _ _ _ _ _ _ _ _ _ HN9.out;have HB2w:=zA (HBd2i.out w9 HN9.out.ns.bel);clear ho9 hb9 hcel9 u0 u1 u2 u3 a0 a1 a2 a3 a4 b0 b1 b2 b3 b4 d10 d11 d12 d13 dF m3 m3' hs8 HN8 HI8 HB1w;generalize xR x.1 i=be at *;go_wp2_with fail
       refine HB2w.out.mono ?_;rintro e w10 ⟨v10,rfl,ho10,hb10⟩;have HN10:=zA (HN9.out.below hb10);obtain⟨la,lc,rfl,hcel10,-,-⟩:=dJ ho10;have HIb:Hid (lD w10 la (xR y.1 i)):=⟨hcel10,HBl2i⟩;have HIa2:=zA (HIa.out.below hb10);have HI10:Hid (w10.heap[wr.heap.size]? = some (.cells #[.string ⟨xin.toArray⟩,.bool false,.int .i64 xil,.int .i64 xih] 258 (0,0))):=by unfold Hid;rw[hb10.block _ (yI HI9.out)];exact HI9.out
       have u0:w10.cell? ⟨wr.heap.size,0,none⟩=some (.string ⟨xin.toArray⟩):=zD HI10.out 0;have u1:w10.cell? ⟨wr.heap.size,1,none⟩=some (.bool false):=zD HI10.out 1;have u2:w10.cell? ⟨wr.heap.size,2,none⟩=some (.int .i64 xil):=zD HI10.out 2;have u3:w10.cell? ⟨wr.heap.size,3,none⟩=some (.int .i64 xih):=zD HI10.out 3;have HZw:=zA (HZoi.out w10 ea la ec lc HIa2.out HIb.out);clear ho10 hb10 hcel10 e0 e1 e2 e3 e4 HN9 HI9 HB2w HIa HIa2 HIb;generalize xR y.1 i=bl at *;go_wp2_with fail
       refine HZw.out.mono ?_;rintro e w11 ⟨v11,rfl,ho11,hb11⟩;have HN11:=zA (HN10.out.below hb11);obtain⟨za,zc,rfl,hcT⟩:=jO ho11;have HCT:=zA hcT;obtain⟨-,-,⟨d10,d11,d12,d13⟩,dF⟩:=HCx.out _ _ _ _ _ _ _ _ _ _ _ HN11.out;have hs11:=HN11.out.ns.sz;have m3:w.heap.size+1+1+1<w11.heap.size:=by omega
       have m3':w11.heap.size≠w.heap.size+1+1+1:=by omega
       clear ho11 hb11 hcT u0 u1 u2 u3 HN10 HI10 HZw;have HNum:=zA (fun (ob:Obj) (wy:World) (v':Value) (zID:wy.ownsRow (w.heap.size+4) 268 5 v' (L.length+1) (iH (mC I x.1 y.1) L++zEU (mC I x.1 y.1) ⟨i,za,zc⟩)) (hg:(w11.alloc ob).grownBy wy nv.ownBlock)=>(HN11.out.below (gj (t9 _) ob)).num ⟨i,za,zc⟩ (HCT.out.below (gj (t9 _) ob)) zID hg);obtain⟨na,nc,rfl⟩:=yG HN11.out.nums;have HOn:=zA HN11.out.nums;have HPl:Hid ((L++[(⟨i,za,zc⟩:NE)]).map NE.place=lO I x.1 y.1 (i+1)):=by unfold Hid;rw[List.map_append,HP.out,HE2.out];rfl
       rw[HNeC.out za zc]at HNum;generalize (mC I x.1 y.1 i).length=zl at *
       go_wp2_with (at_builtin;refine wpList_append_own _ rfl _ _ 178 rfl (w.heap.size+4) 268 j0 _ 5 56 Tryz.underlying178 hj0 hj1 hj2 hj3 rfl (by decide) _ _ _ rfl (HOn.out.alloc _) ⟨w11.heap.size,0,none⟩ 1 1 [.int .i64 (i:Nat),.slice za zl zc,.int .i64 0,.int .i64 0,.int .i64 0] rfl rfl ?c1k1 ?c1k2 ?c1k3 ?c1k4 ?c1k5 ?_)
       try (case c1k1=>first|exact zZ _ _ _ _ rfl|exact fun _ _ h=>h)
       try (case c1k2=>first|exact⟨rfl,rfl,rfl,rfl,rfl⟩|(intro u hu;simp at hu;rcases hu with rfl|rfl|rfl <;> rfl)|simp[Value.oneCell'])
       try (case c1k3=>unfold maxLen;omega)
       try (case c1k4=>omega)
       try (case c1k5=>first|omega|(simp;omega))
       intro v12 w12 hown12 hgrow12 _;have HN12:=zA (HNum.out _ w12 v12 hown12 hgrow12)
       have e10:w12.cell? ⟨w.heap.size+1+1+1,10,none⟩=some (.slice na L.length nc):=by
        have hb:=hgrow12.block (w.heap.size+1+1+1) (by simp;omega) (fun e=>by have:=(zP HOn.out _ e.symm).1;omega);rw[l7 (w:=w11.alloc _) (a:=⟨w.heap.size+1+1+1,10,none⟩) hb,l7 (w:=w11) (a:=⟨w.heap.size+1+1+1,10,none⟩) (ml _ _ _ m3)];exact d10
       have f10:w12.frozen? ⟨w.heap.size+1+1+1,10,none⟩=false:=by
        have hb:=hgrow12.block (w.heap.size+1+1+1) (by simp;omega) (fun e=>by have:=(zP HOn.out _ e.symm).1;omega);rw[dl (w:=w11.alloc _) (a:=⟨w.heap.size+1+1+1,10,none⟩) hb,dl (w:=w11) (a:=⟨w.heap.size+1+1+1,10,none⟩) (ml _ _ _ m3)];exact dF 10
       obtain⟨va,vc,rfl⟩:=yG hown12;clear hown12 hgrow12 d10 d11 d12 d13 dF;go_wp2_with fail
       go_roundw
       case rel=>exact⟨i+1,_,sv,L++[⟨i,za,zc⟩],by omega,by go_num,by rw[HE1.out];exact HN12,HPl⟩
       case measure=>simp[intOf];omega
      ·have HE1:Hid (qY I x.1 y.1 (i+1)=qY I x.1 y.1 i++[⟨true,i⟩]):=by have:=HS1i.out;unfold Hid;simpa using this
       have HE2:Hid (lO I x.1 y.1 (i+1)=lO I x.1 y.1 i):=by have:=HNsi.out;unfold Hid;simpa using this
       have HTg:=zA (fun (ob:Obj) (wy:World) (v':Value) (zID:wy.ownsRow (w.heap.size+4) 261 2 v' ((qY I x.1 y.1 i).length+1) (Xg (qY I x.1 y.1 i)++[.bool true,.int .i64 (i:Nat)])) (hg:(w8.alloc ob).grownBy wy sv.ownBlock)=>(HN8.out.below (gj (t9 _) ob)).tog ⟨true,i⟩ zID hg);obtain⟨sa,sc,rfl⟩:=yG HN8.out.sws;have HOs:=zA HN8.out.sws;clear u0 u2 u3 a0 a1 a2 a3 a4 b0 b1 b2 b3 b4
       go_wp2_with (at_builtin;refine wpList_append_own _ rfl _ _ 179 rfl (w.heap.size+4) 261 i0 _ 2 16 Tryz.underlying179 hi0 hz0 hz1 hz2 rfl (by decide) _ _ _ rfl (HOs.out.alloc _) ⟨w8.heap.size,0,none⟩ 1 1 [.bool true,.int .i64 (i:Nat)] rfl rfl ?c2k1 ?c2k2 ?c2k3 ?c2k4 ?c2k5 ?_)
       try (case c2k1=>first|exact zZ _ _ _ _ rfl|exact fun _ _ h=>h)
       try (case c2k2=>first|exact⟨rfl,rfl⟩|(intro u hu;simp at hu;rcases hu with rfl|rfl <;> rfl)|simp[Value.oneCell'])
       try (case c2k3=>unfold maxLen;omega)
       try (case c2k4=>omega)
       try (case c2k5=>first|omega|(simp;omega))
       intro v12 w12 hown12 hgrow12 _;have HN12:=zA (HTg.out _ w12 v12 hown12 hgrow12)
       have e11:w12.cell? ⟨w.heap.size+1+1+1,11,none⟩=some (.slice sa (qY I x.1 y.1 i).length sc):=by
        have hb:=hgrow12.block (w.heap.size+1+1+1) (by simp;omega) (fun e=>by have:=(zP HOs.out _ e.symm).1;omega);rw[l7 (w:=w8.alloc _) (a:=⟨w.heap.size+1+1+1,11,none⟩) hb,l7 (w:=w8) (a:=⟨w.heap.size+1+1+1,11,none⟩) (ml _ _ _ m3)];exact d11
       have f11:w12.frozen? ⟨w.heap.size+1+1+1,11,none⟩=false:=by
        have hb:=hgrow12.block (w.heap.size+1+1+1) (by simp;omega) (fun e=>by have:=(zP HOs.out _ e.symm).1;omega);rw[dl (w:=w8.alloc _) (a:=⟨w.heap.size+1+1+1,11,none⟩) hb,dl (w:=w8) (a:=⟨w.heap.size+1+1+1,11,none⟩) (ml _ _ _ m3)];exact dF 11
       obtain⟨va,vc,rfl⟩:=yG hown12;clear hown12 hgrow12 d10 d11 d12 d13 dF;go_wp2_with fail
       go_roundw
       case rel=>exact⟨i+1,nv,_,L,by omega,by go_num,by rw[HE1.out];exact HN12,by rw[HE2.out];exact HP⟩
       case measure=>simp[intOf];omega
   ·obtain rfl:i=I.length:=by omega
    have ii:¬(I.length:Int)<(I.length:Int):=by omega
    obtain⟨wq,hwq⟩:∃wq,wq=wr:=⟨_,rfl⟩;rw[<-hwq]at HN ⊢;clear hwq zIQ k0 k1;obtain⟨k0,k1⟩:=HMd.out wq HN.out.ns.bel
    have HN0:Hid (Y1 w wq x y I.length H gi gh (mC I x.1 y.1) nv sv L (qY I x.1 y.1 I.length++qE x.1 y.1 0) (cJ I I.length) (cK x.1 y.1 0)):=by
     have e:qY I x.1 y.1 I.length++qE x.1 y.1 0=qY I x.1 y.1 I.length:=ce _;unfold Hid;rw[e];exact HN.out
    have hTl:=HS1l.out I.length;clear HN HNs HS1 HNl HS1l HIs HBl1 HBl2 HZo HBd1 HBd2 HAI1 HAI2 HIn HIf HAb HZf;go_wp2_with fail
    generalize hT1:qY I x.1 y.1 I.length=T1 at *;have HT1:=zA hT1;clear hT1
    go_loopw [91] (fun iv wr=>∃(c:Nat) (sv:Value),c<=H/\iv=.int .i64 c/\Hid (Y1 w wr x y I.length H gi gh (mC I x.1 y.1) nv sv L (T1++qE x.1 y.1 c) (cJ I I.length) (cK x.1 y.1 c))) (fun iv _=>H-(intOf iv).toNat)
    case atStart=>exact⟨0,_,tr _,rfl,HN0⟩
    case round =>
     obtain⟨c,sv,hc,rfl,HN⟩:=hrel;by_cases zIB:c<H
     ·have jj:(c:Int)<(H:Int):=by omega
      obtain⟨⟨a0,a1,a2,a3,a4⟩,-,-,-⟩:=HCx.out _ _ _ _ _ _ _ _ _ _ _ HN.out;have HNd1w:=zA (HNd1.out wr HN.out.ns.bel c);have HNd2i:=zA (fun w' hb=>HNd2.out w' hb c);have HAH1i:=zA (fun w' hb=>HAH1.out w' hb c);have HAH2i:=zA (fun w' hb=>HAH2.out w' hb c);have HS2i:=zA (HS2.out c);have HHi:=zA (HHs.out c);have hS2l:=HS2l.out c;rw[HNb.out c]at HS2i HHi
      have HYc:Hid (∀w8,Below wr.heap.size wr w8->(Below w.heap.size w w8/\w8.cell? ⟨w.heap.size+1,0,none⟩=some (.string ⟨yl.toArray⟩)/\w8.cell? ⟨w.heap.size+1,1,none⟩=some (.int .i64 yc)/\w8.cell? ⟨w.heap.size+1,2,none⟩=some (.slice pa' yn pc')/\w8.cell? ⟨w.heap.size+1,3,none⟩=some (.slice ga' ym gc')/\w8.cell? ⟨w.heap.size+1,4,none⟩=some (.int .i64 yr))/\w8.cell? ⟨w.heap.size,0,none⟩=some (.string ⟨xl.toArray⟩)/\w8.cell? ⟨w.heap.size,1,none⟩=some (.int .i64 xc)/\w8.cell? ⟨w.heap.size,2,none⟩=some (.slice pa xn pc)/\w8.cell? ⟨w.heap.size,3,none⟩=some (.slice ga xm gc)/\w8.cell? ⟨w.heap.size,4,none⟩=some (.int .i64 xr)):=fun w8 hb=>by
       have k:=HN.out.below hb;obtain⟨h8,h9,-,-⟩:=HCx.out _ _ _ _ _ _ _ _ _ _ _ k;exact⟨⟨k.ns.bel,h9⟩,h8⟩
      generalize lQ x.1 c=q1 at *;generalize lQ y.1 c=q2 at *;generalize vX x.1 c=q3 at *;generalize vX y.1 c=q4 at *
      go_upto_region 18 with fail
      go_cut [101] from 94 to 101 (fun v wx=>v=.bool (q1 || q2)/\Hid (Below wr.heap.size wr wx))
      case first =>
       cases q1
       ·go_wp2_with fail
        refine HNd1w.out.mono ?_;rintro e w8 ⟨rfl,hb8⟩;obtain⟨⟨p1,p2,p3,p4,p5,p6⟩,-⟩:=HYc.out w8 hb8;have HA2w:=zA (HNd2i.out w8 p1);have HB8:=zA hb8;clear hb8 p1 a0 a1 a2 a3 a4;go_wp2_with fail
        refine HA2w.out.mono ?_;rintro e w9 ⟨rfl,hb9⟩;have HB9:Hid (Below wr.heap.size wr w9):=HB8.out.trans (hb9.mono HB8.out.size);clear hb9;go_wp2_with fail
        go_meet
        exact⟨rfl,HB9⟩
       ·go_wp2_with fail
        refine HNd1w.out.mono ?_;rintro e w8 ⟨rfl,hb8⟩;have HB8:=zA hb8;clear hb8;go_wp2_with fail
        go_meet
        exact⟨rfl,HB8⟩
      case rest =>
       obtain⟨rfl,HB8⟩:=hcut;generalize hwB:wc=w8 at *;clear hwB a0 a1 a2 a3 a4 HNd1w HNd2i;generalize (q1 || q2)=qq at *;cases qq
       ·have HHe:Hid (cK x.1 y.1 (c+1)=cK x.1 y.1 c):=by
         unfold Hid;funext r;by_cases hr:r=c
         ·subst hr;rw[HHi.out.1];unfold cK;rw[th (by omega)];rfl
         ·exact HHi.out.2 r hr
        obtain⟨⟨p1,-⟩,a0,a1,a2,a3,a4⟩:=HYc.out w8 HB8.out;have HAH1w:=zA (HAH1i.out w8 p1);clear p1
        go_upto_region 20 with fail
        go_cut [114] from 107 to 114 (fun v wx=>v=.bool (q3 || q4)/\Hid (Below wr.heap.size wr wx))
        case first =>
         cases q3
         ·go_wp2_with fail
          refine HAH1w.out.mono ?_;rintro e w9 ⟨rfl,hb9⟩;have HB9:Hid (Below wr.heap.size wr w9):=HB8.out.trans (hb9.mono HB8.out.size);obtain⟨⟨p1,p2,p3,p4,p5,p6⟩,-⟩:=HYc.out w9 HB9.out;have HA2w:=zA (HAH2i.out w9 p1);clear hb9 p1 a0 a1 a2 a3 a4;go_wp2_with fail
          refine HA2w.out.mono ?_;rintro e w10 ⟨rfl,hb10⟩;have HB10:Hid (Below wr.heap.size wr w10):=HB9.out.trans (hb10.mono HB9.out.size);clear hb10;go_wp2_with fail
          go_meet
          exact⟨rfl,HB10⟩
         ·go_wp2_with fail
          refine HAH1w.out.mono ?_;rintro e w9 ⟨rfl,hb9⟩;have HB9:Hid (Below wr.heap.size wr w9):=HB8.out.trans (hb9.mono HB8.out.size);clear hb9;go_wp2_with fail
          go_meet
          exact⟨rfl,HB9⟩
        case rest =>
         obtain⟨rfl,HB9⟩:=hcut;generalize hwB:wc=w9 at *;clear hwB a0 a1 a2 a3 a4 HAH1w HAH1i HAH2i HYc HB8;have HN9:=zA (HN.out.below HB9.out);clear HN HB9;generalize (q3 || q4)=qh at *;cases qh
         ·have HE1:Hid (qE x.1 y.1 (c+1)=qE x.1 y.1 c):=by have:=HS2i.out;unfold Hid;simpa using this
          go_wp2_with fail
          go_roundw
          case rel=>exact⟨c+1,sv,by omega,by go_num,by rw[HE1.out,HHe.out];exact HN9⟩
          case measure=>simp[intOf];omega
         ·have HE1:Hid (T1++qE x.1 y.1 (c+1)=(T1++qE x.1 y.1 c)++[⟨false,c⟩]):=by have:=HS2i.out;unfold Hid;rw[this];simp
          have hTT:(T1++qE x.1 y.1 c).length<=20000:=by rw[tq];omega
          obtain⟨-,-,⟨d10,d11,d12,d13⟩,dF⟩:=HCx.out _ _ _ _ _ _ _ _ _ _ _ HN9.out;have hs9:=HN9.out.ns.sz;have m3:w.heap.size+1+1+1<w9.heap.size:=by omega
          have m3':w9.heap.size≠w.heap.size+1+1+1:=by omega
          have HTg:=zA (fun (ob:Obj) (wy:World) (v':Value) (zID:wy.ownsRow (w.heap.size+4) 261 2 v' ((T1++qE x.1 y.1 c).length+1) (Xg (T1++qE x.1 y.1 c)++[.bool false,.int .i64 (c:Nat)])) (hg:(w9.alloc ob).grownBy wy sv.ownBlock)=>(HN9.out.below (gj (t9 _) ob)).tog ⟨false,c⟩ zID hg);obtain⟨sa,sc,rfl⟩:=yG HN9.out.sws;have HOs:=zA HN9.out.sws;generalize hTe:T1++qE x.1 y.1 c=TT at *;clear hTe
          go_wp2_with (at_builtin;refine wpList_append_own _ rfl _ _ 179 rfl (w.heap.size+4) 261 i0 _ 2 16 Tryz.underlying179 hi0 hz0 hz1 hz2 rfl (by decide) _ _ _ rfl (HOs.out.alloc _) ⟨w9.heap.size,0,none⟩ 1 1 [.bool false,.int .i64 (c:Nat)] rfl rfl ?c1k1 ?c1k2 ?c1k3 ?c1k4 ?c1k5 ?_)
          try (case c1k1=>first|exact zZ _ _ _ _ rfl|exact fun _ _ h=>h)
          try (case c1k2=>first|exact⟨rfl,rfl⟩|(intro u hu;simp at hu;rcases hu with rfl|rfl <;> rfl)|simp[Value.oneCell'])
          try (case c1k3=>unfold maxLen;omega)
          try (case c1k4=>omega)
          try (case c1k5=>first|omega|(simp;omega))
          intro v12 w12 hown12 hgrow12 _;have HN12:=zA (HTg.out _ w12 v12 hown12 hgrow12)
          have e11:w12.cell? ⟨w.heap.size+1+1+1,11,none⟩=some (.slice sa TT.length sc):=by
           have hb:=hgrow12.block (w.heap.size+1+1+1) (by simp;omega) (fun e=>by have:=(zP HOs.out _ e.symm).1;omega);rw[l7 (w:=w9.alloc _) (a:=⟨w.heap.size+1+1+1,11,none⟩) hb,l7 (w:=w9) (a:=⟨w.heap.size+1+1+1,11,none⟩) (ml _ _ _ m3)];exact d11
          have f11:w12.frozen? ⟨w.heap.size+1+1+1,11,none⟩=false:=by
           have hb:=hgrow12.block (w.heap.size+1+1+1) (by simp;omega) (fun e=>by have:=(zP HOs.out _ e.symm).1;omega);rw[dl (w:=w9.alloc _) (a:=⟨w.heap.size+1+1+1,11,none⟩) hb,dl (w:=w9) (a:=⟨w.heap.size+1+1+1,11,none⟩) (ml _ _ _ m3)];exact dF 11
          obtain⟨va,vc,rfl⟩:=yG hown12;clear hown12 hgrow12 d10 d11 d12 d13 dF;go_wp2_with fail
          go_roundw
          case rel=>exact⟨c+1,_,by omega,by go_num,by rw[HE1.out,HHe.out];exact HN12⟩
          case measure=>simp[intOf];omega
       ·have HE1:Hid (qE x.1 y.1 (c+1)=qE x.1 y.1 c):=by have:=HS2i.out;unfold Hid;simpa using this
        have HN8:=zA (HN.out.below HB8.out);obtain⟨-,-,⟨-,-,-,d13⟩,-⟩:=HCx.out _ _ _ _ _ _ _ _ _ _ _ HN8.out;have ch:w8.cell? ⟨gh,c,none⟩=some (.bool (cK x.1 y.1 c c)):=HN8.out.ns.rH.cell zIB;have fh:w8.frozen? ⟨gh,c,none⟩=false:=HN8.out.ns.rH.free c
        have HN9:Hid (Y1 w (w8.setCell ⟨gh,c,none⟩ (.bool true)) x y I.length H gi gh (mC I x.1 y.1) nv sv L (T1++qE x.1 y.1 (c+1)) (cJ I I.length) (cK x.1 y.1 (c+1))):=by
         unfold Hid;rw[HE1.out];exact HN8.out.setH zIB _ HHi.out.1 (fun r _ hr=>HHi.out.2 r hr)
        generalize cK x.1 y.1 c c=old at *;go_wp2_with fail
        go_roundw
        case rel=>exact⟨c+1,sv,by omega,by go_num,HN9⟩
        case measure=>simp[intOf];omega
     ·obtain rfl:c=H:=by omega
      have jj:¬(c:Int)<(c:Int):=by omega
      obtain⟨na,nc,rfl⟩:=yG HN.out.nums;obtain⟨sa,sc,rfl⟩:=yG HN.out.sws;have HAl:=zA (HOne.out (.slice na L.length nc) (.slice sa (T1++qE x.1 y.1 c).length sc) (.slice (some ⟨gi,0,none⟩) I.length I.length) (.slice (some ⟨gh,0,none⟩) c c) rfl rfl rfl rfl);have HRes:=zA HN.out.ns.res;have HHd:=zA HN.out.ns.hd;have HFn:=zA (HPo.out _ gi gh _ _ L (HN.out.done (Bm x y (.slice na L.length nc) (.slice sa (T1++qE x.1 y.1 c).length sc) (.slice (some ⟨gi,0,none⟩) I.length I.length) (.slice (some ⟨gh,0,none⟩) c c))) HP.out);have HIf:=zA (vz x y (.slice na L.length nc) (.slice sa (T1++qE x.1 y.1 c).length sc) (.slice (some ⟨gi,0,none⟩) I.length I.length) (.slice (some ⟨gh,0,none⟩) c c));have HSz:Hid ((Bm x y (.slice na L.length nc) (.slice sa (T1++qE x.1 y.1 c).length sc) (.slice (some ⟨gi,0,none⟩) I.length I.length) (.slice (some ⟨gh,0,none⟩) c c)).size=15):=rfl;generalize Bm x y (.slice na L.length nc) (.slice sa (T1++qE x.1 y.1 c).length sc) (.slice (some ⟨gi,0,none⟩) I.length I.length) (.slice (some ⟨gh,0,none⟩) c c)=SR at *;clear HN
      go_wp2_with (first
       | (refine wpList_load_row ?zIO 184 (.tmp 7) ?ho (w.heap.size+1+1+1) ?hx 184 SR (0,0) _ HHd.out Tryz.underlying184 rfl HIf.out ?_
          case ho=>rfl
          case zIO=>rfl
          case hx=>rfl)
       | (refine wpList_store_row ?zIO 184 (.tmp 6) (.tmp 123) ?ho (w.heap.size+1+1) SR ?hx ?hy 184 Dc HRes.out HIf.out ?zIN HAl.out ?_
          case ho=>rfl
          case zIO=>rfl
          case hx=>rfl
          case hy=>rfl
          case zIN=>rw[HSz.out];rfl))
      refine ph (v:=.agg SR) (results_cell_row Tryz.results71 _ _ (w.heap.size+1+1) 184 SR (0,0) _ rfl (lk _ _ Dc _ _ _ HRes.out) Tryz.underlying184 rfl HIf.out) rfl HFn.out
def Yr:NE:=⟨0,none,0⟩
def zBL(I:List yH)(H:Nat)(e l:vG):Prop:=∃y,oS I H y/\tP e y=true/\tP l y=true
structure sV(I:List yH):Prop where
 num:∀i,i<I.length->xU I i=true->0<=(jA I i).low/\(jA I i).low<=(jA I i).high/\(jA I i).high<=9999
 flag:∀i,i<I.length->xU I i=false->(jA I i).low=0
 few:I.length<=100
def fN(w:World)(b:Nat)(I:List yH)(H:Nat)(x y:MX)(L:List NE)(na:Option Addr)(gn nc:Nat)(sa:Option Addr)(sc gi gh:Nat):SK :=
 ⟨w.heap.size,b,x,y,L.length,fun p=>(L.getD p Yr).place,fun p=>mC I x.1 y.1 (L.getD p Yr).place,fun p=>(L.getD p Yr).za,fun p=>(L.getD p Yr).zc,na,gn,nc,qY I x.1 y.1 I.length++qE x.1 y.1 H,sa,sc,gi,gh,I.length,H⟩
def vy(I:List yH)(H:Nat)(x y:MX):uI:=⟨fun _=>(0,0),fun _=>0,cJ I I.length,cK x.1 y.1 H⟩
theorem Xj{I:List yH}{e l:vG}{t:tR}(h:t∈qY I e l I.length++qE e l H):(t.flag=true/\t.place<I.length/\kQ e l t.place=true/\xU I t.place=false)\/(t.flag=false/\t.place<H/\uS e l t.place=false/\(vX e t.place || vX l t.place)=true):=by
 rcases pt.1 h with h|h
 ·obtain⟨i,hi,rfl⟩:=mn.1 h
  have:=ma.1 hi;simp only[db,tz,Bool.not_eq_true']at this;exact .inl ⟨rfl,this.1,this.2.1,this.2.2⟩
 ·obtain⟨i,hi,rfl⟩:=mn.1 h
  have:=ma.1 hi;simp only[db,tz,Bool.not_eq_true']at this;exact .inr ⟨rfl,this.1,this.2.1,this.2.2⟩
theorem Dl{I:List yH}{e l:vG}{i:Nat}(h1:i<I.length)(h2:kQ e l i=true)(h3:xU I i=false):(⟨true,i⟩:tR)∈qY I e l I.length++qE e l H :=
 pt.2 (.inl (mn.2 ⟨i,ma.2 ⟨by simpa using h1,by simp[h2,h3]⟩,rfl⟩))
theorem zFS{I:List yH}{e l:vG}{c:Nat}(h1:c<H)(h2:uS e l c=false)(h3:(vX e c || vX l c)=true):(⟨false,c⟩:tR)∈qY I e l I.length++qE e l H :=
 pt.2 (.inr (mn.2 ⟨c,ma.2 ⟨by simpa using h1,by rw[h2,h3];rfl⟩,rfl⟩))
theorem tI{I:List yH}{e l:vG}(h:L.map NE.place=vO I e l)(hp:p<L.length):(L.getD p Yr).place=(vO I e l).getD p 0:=by
 rw[<-h];simp[List.getD,hp]
theorem V1{I:List yH}{e l:vG}(hp:p<(vO I e l).length)(hq:q<(vO I e l).length)(h:(vO I e l).getD p 0=(vO I e l).getD q 0):p=q:=by
 have hnd:(vO I e l).Nodup:=List.Pairwise.filter _ List.nodup_range;rw[l9,l9,pe hp,pe hq]at h;exact(List.getElem_inj hnd).1 h
theorem zHU{I:List yH}(hL:L.map NE.place=vO I x.1 y.1)(hI:sV I)(fH:H<=10000)(hzf:∀i,(mC I x.1 y.1 i).length<=100000)(l1:w.heap.size<=b)(l2:w.heap.size<=gi)(l3:w.heap.size<=gh)(l4:0<L.length->w.heap.size<=gn):Qw (fN w b I H x y L na gn nc sa sc gi gh):=by
 have hl:L.length=(vO I x.1 y.1).length:=by rw[<-hL,ms]
 have zIH:(vO I x.1 y.1).length<=I.length:=X0 I x.1 y.1 I.length;have h1:=QU I x.1 y.1 I.length;have h2:=QT x.1 y.1 H;have hf:=hI.few
 have hm:∀p,p<L.length->(L.getD p Yr).place<I.length/\kQ x.1 y.1 (L.getD p Yr).place=true/\xU I (L.getD p Yr).place=true:=fun p hp=>by
  rw[tI hL hp];exact lL.1 (nZ (by omega))
 refine⟨l1,l2,l3,l4,by show L.length<=100;omega,by show I.length<=10000;omega,fH,by show (_++_:List tR).length<=20000;rw[tq];omega,fun p _=>hzf _,fun p hp=>(hm p hp).1,fun p q hp hq e=>?_,fun p hp t ht h=>?_,fun t ht hf=>?_,fun t ht hf=>?_⟩
 ·have e':(vO I x.1 y.1).getD p 0=(vO I x.1 y.1).getD q 0:=by rw[<-tI hL hp,<-tI hL hq];exact e
  exact V1 (hl ▸ hp) (hl ▸ hq) e'
 ·rcases Xj ht with ⟨_,_,_,h9⟩|⟨h9,_⟩
  ·rw[h.2]at h9;have:=(hm p hp).2.2;rw[show (fN w b I H x y L na gn nc sa sc gi gh).P p=(L.getD p Yr).place from rfl,this]at h9;cases h9
  ·rw[h.1]at h9;cases h9
 ·rcases Xj ht with ⟨_,h9,_⟩|⟨h9,_⟩
  ·exact h9
  ·rw[hf]at h9;cases h9
 ·rcases Xj ht with ⟨h9,_⟩|⟨_,h9,_⟩
  ·rw[hf]at h9;cases h9
  ·exact h9
theorem jx(l:List Bool)(c:Nat):pF l (c:Int)=(decide (c<l.length)&&l.getD c false):=by
 unfold pF;rw[tm (show (0:Int)<=(c:Int) by omega),md];by_cases h:c<l.length
 ·rw[tm h,tm (show (c:Int)<(l.length:Int) by omega)];rfl
 ·rw[th h,th (show ¬(c:Int)<(l.length:Int) by omega)];rfl
theorem zCD{I:List yH}{s':uI}(hL:L.map NE.place=vO I x.1 y.1)(hI:sV I)(hpe:iY x.1 I.length (xU I))(hpl:iY y.1 I.length (xU I))(hneH:∀c,uS x.1 y.1 c=true->c<H)(haH:∀c,(vX x.1 c || vX y.1 c)=true->c<H)
 (h:Zx (qU (fN w b I H x y L na gn nc sa sc gi gh)) L.length (fun p=>(L.getD p Yr).place) (fun p=>mC I x.1 y.1 (L.getD p Yr).place) (qY I x.1 y.1 I.length++qE x.1 y.1 H) 0 (vy I H x y) s' false):¬zBL I H x.1 y.1:=by
 rintro⟨v,hv,h1,h2⟩;have hl:L.length=(vO I x.1 y.1).length:=by rw[<-hL,ms]
 obtain⟨Z,hZl,hZ,rk,hrl,hrr,o,ho,ht⟩:=Vl hpe hpl (fun i hi hn=>⟨(hI.num i hi hn).1,(hI.num i hi hn).2.2⟩) hv h1 h2
 obtain⟨F,hF⟩:∃F:Nat->Int,(∀p,p<L.length->F (L.getD p Yr).place=o.getD (rk.getD p 0) 0)/\∀i,(∀p,p<L.length->(L.getD p Yr).place≠i)->F i=if kQ x.1 y.1 i=true/\xU I i=false/\i<I.length then v.inputs.getD i 0 else cJ I I.length i:=by
  refine⟨fun i=>if hq:∃p,p<L.length/\(L.getD p Yr).place=i then o.getD (rk.getD (Classical.choose hq) 0) 0 else if kQ x.1 y.1 i=true/\xU I i=false/\i<I.length then v.inputs.getD i 0 else cJ I I.length i,fun p hp=>?_,fun i hi=>?_⟩
  ·have hq:∃q,q<L.length/\(L.getD q Yr).place=(L.getD p Yr).place:=⟨p,hp,rfl⟩
   simp only[hq,dite_true];have hc:=Classical.choose_spec hq;have e':(vO I x.1 y.1).getD (Classical.choose hq) 0=(vO I x.1 y.1).getD p 0:=by rw[<-tI hL hc.1,<-tI hL hp];exact hc.2
   rw[V1 (hl ▸ hc.1) (hl ▸ hp) e']
  ·have hq:¬ ∃p,p<L.length/\(L.getD p Yr).place=i:=fun ⟨p,hp,e⟩=>hi p hp e
   simp only[hq,dite_false]
 obtain⟨t,htd⟩:∃t:uI,t=⟨fun _=>(0,0),fun _=>0,F,fun c=>uS x.1 y.1 c || ((vX x.1 c || vX y.1 c)&&pF v.has (c:Int))⟩:=⟨_,rfl⟩;have hoff:∀i,Gg (qY I x.1 y.1 I.length++qE x.1 y.1 H) i->¬(kQ x.1 y.1 i=true/\xU I i=false/\i<I.length):=fun i hi hh=>hi _ (Dl hh.2.2 hh.1 hh.2.1) ⟨rfl,rfl⟩
 have hrest:cP L.length (fun p=>(L.getD p Yr).place) (qY I x.1 y.1 I.length++qE x.1 y.1 H) (vy I H x y) t:=by
  rw[htd];refine⟨fun i hp hi=>?_,fun c hc=>?_⟩
  ·show F i=cJ I I.length i
   rw[hF.2 i hp,tg (hoff i hi)]
  ·show (uS x.1 y.1 c || ((vX x.1 c || vX y.1 c)&&pF v.has (c:Int)))=cK x.1 y.1 H c
   unfold cK;cases hn:uS x.1 y.1 c
   ·cases ha:(vX x.1 c || vX y.1 c)
    ·simp
    ·exact absurd ⟨rfl,rfl⟩ (hc _ (zFS (haH c ha) hn ha))
   ·rw[tm (hneH c hn)];simp
 have hno:=h.no rfl (fun p=>Z.getD p (0,0)) (fun p hp=>absurd hp (by omega)) (fun p hp=>by rw[tI hL hp];exact hZ p (by omega)) (fun p=>rk.getD p 0) (fun p hp=>by
  have hp2:p<rk.length:=by omega
  have:=hrr (rk.getD p 0) (by simp[List.getD,hp2])
  omega) o (by
  have e:dD L.length (fun p=>Z.getD p (0,0)) (fun p=>rk.getD p 0)=gY Z rk:=by unfold dD gY;rw[hZl,hl]
  rw[e];exact ho) t hrest (fun p hp=>by rw[htd];exact hF.1 p hp) (fun q hq hqf=>by
  rcases Xj hq with ⟨_,g1,g2,g3⟩|⟨g1,_⟩
  ·have hpn:∀p,p<L.length->(L.getD p Yr).place≠q.place:=fun p hp e=>by
    rw[tI hL hp]at e;have:=(lL.1 (nZ (I:=I) (e:=x.1) (l:=y.1) (p:=p) (by omega))).2.2;rw[e,g3]at this;cases this
   rw[htd];show F q.place=0\/F q.place=1;rw[hF.2 _ hpn,tj ⟨g2,g3,g1⟩];exact hv.flag _ g1 g3
  ·rw[hqf]at g1;cases g1)
 have htry:zF4 I x.1 y.1 rk o v (eQ (fN w b I H x y L na gn nc sa sc gi gh) t):=by
  have zIR:∀i,i<I.length->(eQ (fN w b I H x y L na gn nc sa sc gi gh) t).inputs.getD i 0=t.inp i:=fun i hi=>by simp[eQ,fN,List.getD,hi]
  have hhas:∀c:Nat,pF (eQ (fN w b I H x y L na gn nc sa sc gi gh) t).has (c:Int)=(decide (c<H)&&t.has c):=fun c=>by
   rw[jx];by_cases hc:c<H
   ·simp[eQ,fN,List.getD,hc]
   ·simp[eQ,fN,hc]
  refine⟨by simp[eQ,fN],fun p hp=>?_,fun i hi ha hn=>?_,fun c hc=>?_,fun c hc ha=>?_⟩
  ·have hm:=lL.1 (nZ hp)
   rw[zIR _ hm.1,htd,<-tI hL (show p<L.length by omega)];exact hF.1 p (by omega)
  ·have hpn:∀p,p<L.length->(L.getD p Yr).place≠i:=fun p hp e=>by
    rw[tI hL hp]at e;have:=(lL.1 (nZ (I:=I) (e:=x.1) (l:=y.1) (p:=p) (by omega))).2.2;rw[e,hn]at this;cases this
   rw[zIR i hi,htd];show F i=_;rw[hF.2 i hpn,tj ⟨ha,hn,hi⟩]
  ·rw[hhas,tm (hneH c hc),htd]
   show (true&&(uS x.1 y.1 c || _))=true;rw[hc];rfl
  ·rw[hhas,tm (haH c ha),htd]
   show (true&&(uS x.1 y.1 c || ((vX x.1 c || vX y.1 c)&&pF v.has (c:Int))))=_;rw[hc,ha];simp
 have:=ht _ htry;unfold qU at hno;rw[show (fN w b I H x y L na gn nc sa sc gi gh).e.1=x.1 from rfl,show (fN w b I H x y L na gn nc sa sc gi gh).l.1=y.1 from rfl,this.1,this.2]at hno;cases hno
theorem ud{I:List yH}{s':uI}(hL:L.map NE.place=vO I x.1 y.1)(hI:sV I)
 (h:Zx (qU (fN w b I H x y L na gn nc sa sc gi gh)) L.length (fun p=>(L.getD p Yr).place) (fun p=>mC I x.1 y.1 (L.getD p Yr).place) (qY I x.1 y.1 I.length++qE x.1 y.1 H) 0 (vy I H x y) s' true):oS I H (eQ (fN w b I H x y L na gn nc sa sc gi gh) s')/\tP x.1 (eQ (fN w b I H x y L na gn nc sa sc gi gh) s')=true/\tP y.1 (eQ (fN w b I H x y L na gn nc sa sc gi gh) s')=true:=by
 have hl:L.length=(vO I x.1 y.1).length:=by rw[<-hL,ms]
 obtain⟨hb,hbit,Z,rk,o,hZ,hrk,ho,hn⟩:=h.yes rfl;have zIR:∀i,i<I.length->(eQ (fN w b I H x y L na gn nc sa sc gi gh) s').inputs.getD i 0=s'.inp i:=fun i hi=>by simp[eQ,fN,List.getD,hi]
 have hlow:∀i,i<I.length->(∀p,p<L.length->(L.getD p Yr).place≠i)->¬(kQ x.1 y.1 i=true/\xU I i=false)->s'.inp i=(jA I i).low:=fun i hi hp hna=>by
  rw[h.rest.inp i hp (fun t ht hh=>by
   rcases Xj ht with ⟨_,g1,g2,g3⟩|⟨g1,_⟩
   ·exact hna ⟨hh.2 ▸ g2,hh.2 ▸ g3⟩
   ·rw[hh.1]at g1;cases g1)]
  show cJ I I.length i=_;unfold cJ;rw[tj hi]
 refine⟨⟨by simp[eQ,fN],by simp[eQ,fN],fun i hi zJ5=>?_,fun i hi hfl=>?_⟩,?_⟩
 ·rw[zIR i hi]
  have hr:=hI.num i hi zJ5;by_cases ha:kQ x.1 y.1 i=true
  ·obtain⟨p,hp,e⟩:=YM hi ha zJ5
   have hp2:p<L.length:=by omega
   have e2:=tI hL hp2;rw[e]at e2
   have hs:=Xo (L:=dD L.length Z rk) (fun z hz=>by
    obtain⟨q,hq,rfl⟩:=mn.1 hz;rw[sW];exact hrk q (by simpa using hq)) ho ⟨(Z p).1,(Z p).2,rk p⟩ (mn.2 ⟨p,by simpa using hp2,rfl⟩)
   have hnp:=hn p hp2;simp only at hnp hs;rw[e2]at hnp;rw[hnp];have hzo:=(Xa (jA I i).low (jA I i).high (xR x.1 i) (xR y.1 i)).sub (Z p) (by have:=hZ p hp2;rw[e2]at this;exact this);omega
  ·rw[hlow i hi (fun p hp e=>ha (by
    have:=(lL.1 (nZ (I:=I) (e:=x.1) (l:=y.1) (p:=p) (by omega))).2.1;rw[tI hL hp]at e;rw[e]at this;exact this)) (fun hh=>ha hh.1)]
   omega
 ·rw[zIR i hi]
  by_cases ha:kQ x.1 y.1 i=true
  ·exact hbit _ (Dl hi ha hfl) rfl
  ·rw[hlow i hi (fun p hp e=>ha (by
    have:=(lL.1 (nZ (I:=I) (e:=x.1) (l:=y.1) (p:=p) (by omega))).2.1;rw[tI hL hp]at e;rw[e]at this;exact this)) (fun hh=>ha hh.1)]
   exact .inl (hI.flag i hi hfl)
 ·unfold qU at hb
  rw[tz]at hb;exact hb
def zHH:MX:=(⟨[],0,[],[],0⟩,.slice none 0 0,.slice none 0 0)
def pQ(rs:List MX)(i:Nat):MX:=rs.getD i zHH
structure KQ(w:World)(b o:Nat)(I:List yH)(C:List (Bs × Nat))(rs:List MX)(G:List Bool):Prop where
 inp:∃a c,w.cell? ⟨b,o,none⟩=some (.slice a I.length c)/\uN w 258 a (I.flatMap kG)
 con:∃a c,w.cell? ⟨b,o+1,none⟩=some (.slice a C.length c)/\uN w 122 a (Ys C)
 rul:∃a c,w.cell? ⟨b,o+2,none⟩=some (.slice a rs.length c)/\uN w 176 a (rs.flatMap cV)
 rows:∀x∈rs,kJ w x
 gr:zHM w b (o+3) G
 few1:I.length<=100
 few2:C.length<=10000
 few3:rs.length<=10000
theorem KQ.below{o:Nat}{I:List yH}{C:List (Bs × Nat)}(h:KQ w b o I C rs G)(hb:Below w.heap.size w w'):KQ w' b o I C rs G:=by
 obtain⟨a1,c1,p1,q1⟩:=h.inp;obtain⟨a2,c2,p2,q2⟩:=h.con;obtain⟨a3,c3,p3,q3⟩:=h.rul;exact⟨⟨a1,c1,(hb.cell (p:=⟨b,o,none⟩) (zT p1)).trans p1,q1.below hb⟩,⟨a2,c2,(hb.cell (p:=⟨b,o+1,none⟩) (zT p2)).trans p2,q2.below hb⟩,⟨a3,c3,(hb.cell (p:=⟨b,o+2,none⟩) (zT p3)).trans p3,q3.below hb⟩,fun x hx=>(h.rows x hx).below hb,h.gr.below hb,h.few1,h.few2,h.few3⟩
theorem Zg(h:pE w a (rs.flatMap cV)){i:Nat}(hi:i<rs.length):∃g,a=some ⟨g,0,none⟩/\w.cell? ⟨g,i*5,none⟩=some (.string ⟨(pQ rs i).1.label.toArray⟩)/\w.cell? ⟨g,i*5+1,none⟩=some (.int .i64 (pQ rs i).1.conc)/\w.cell? ⟨g,i*5+2,none⟩=some (pQ rs i).2.1/\w.cell? ⟨g,i*5+3,none⟩=some (pQ rs i).2.2/\w.cell? ⟨g,i*5+4,none⟩=some (.int .i64 (pQ rs i).1.root):=by
 obtain⟨g,e,c0⟩:=h.at ((zW cV 5 (fun _=>rfl) zHH rs i 0 hi (by decide)).trans rfl);obtain⟨g1,e1,c1⟩:=h.at ((zW cV 5 (fun _=>rfl) zHH rs i 1 hi (by decide)).trans rfl);obtain⟨g2,e2,c2⟩:=h.at ((zW cV 5 (fun _=>rfl) zHH rs i 2 hi (by decide)).trans rfl);obtain⟨g3,e3,c3⟩:=h.at ((zW cV 5 (fun _=>rfl) zHH rs i 3 hi (by decide)).trans rfl);obtain⟨g4,e4,c4⟩:=h.at ((zW cV 5 (fun _=>rfl) zHH rs i 4 hi (by decide)).trans rfl);obtain rfl:g=g1:=by rw[e]at e1;simpa using e1
 obtain rfl:g=g2:=by rw[e]at e2;simpa using e2
 obtain rfl:g=g3:=by rw[e]at e3;simpa using e3
 obtain rfl:g=g4:=by rw[e]at e4;simpa using e4
 exact⟨g,e,c0,c1,c2,c3,c4⟩
theorem aD{i:Nat}(h:i<rs.length):pQ rs i∈rs:=by simp[pQ,List.getD,h]
def BE(rs:List MX)(G:List Bool)(i j:Nat):Bool:=decide ((pQ rs i).1.conc=(pQ rs j).1.conc)&&(!ZL G (i:Int) (j:Int) && !ZL G (j:Int) (i:Int))
theorem UB(w:World)(b o:Nat)(I:List yH)(C:List (Bs × Nat))(rs:List MX)(G:List Bool)(i j:Nat)(h:KQ w b o I C rs G)(hi:i<rs.length)(hj:j<rs.length) :
 Calls Tryz.prog 70 #[.pointer (some ⟨b,o,none⟩),.int .i64 (i:Nat),.int .i64 (j:Nat)] w fun e w'=>e=.returned (.bool (BE rs G i j))/\Below w.heap.size w w':=by
 obtain⟨a,c,h2,hr⟩:=h.rul;obtain⟨g,rfl,-,ci,-,-,-⟩:=Zg hr.cel hi;obtain⟨g',e',-,cj,-,-,-⟩:=Zg hr.cel hj;obtain rfl:g=g':=by simpa using e'
 have hf:=h.few3;have ii:(i:Int)<(rs.length:Int):=by omega
 have jj:(j:Int)<(rs.length:Int):=by omega
 have HR:Hid (BE rs G i j=(decide ((pQ rs i).1.conc=(pQ rs j).1.conc)&&(!ZL G (i:Int) (j:Int) && !ZL G (j:Int) (i:Int)))):=rfl;have HS1:=zA (fun w' (hb:Below w.heap.size w w')=>eI w' b o G (i:Int) (j:Int) (h.gr.below hb));have HS2:=zA (fun w' (hb:Below w.heap.size w w')=>eI w' b o G (j:Int) (i:Int) (h.gr.below hb));clear h hr e';generalize BE rs G i j=ans at *;generalize ZL G (i:Int) (j:Int)=s1 at *;generalize ZL G (j:Int) (i:Int)=s2 at *;generalize (pQ rs i).1.conc=k1 at *;generalize (pQ rs j).1.conc=k2 at *
 go_enter Tryz.func70,Tryz.ntmps70
 by_cases hk:k1=k2
 ·have HR2:Hid (ans=(!s1 && !s2)):=by have:=HR.out;rw[tm hk,md]at this;exact this
  subst hk;go_wp2_with fail
  go_quiet (fail)
  have HBq:Hid (Below w.heap.size w (w.drewN nq)):=yC (tl _ _) nq;generalize w.drewN nq=wq at *;have HS1w:=zA (HS1.out wq HBq.out);have HS2w:=zA (HS2.out wq HBq.out);clear HS1 HS2 HR;cases s1
  ·have HR3:Hid (ans = !s2):=by have:=HR2.out;simpa[Hid] using this
   go_wp2_with fail
   refine HS1w.out.mono ?_;rintro e w' ⟨rfl,hw⟩;obtain rfl:=hw.symm;go_wp2_with fail
   refine HS2w.out.mono ?_;rintro e w' ⟨rfl,hw⟩;obtain rfl:=hw.symm;go_wp2_with fail
   go_ret
   exact⟨zE HR3.out.symm,HBq.out⟩
  ·have HR3:Hid (ans=false):=by have:=HR2.out;simpa[Hid] using this
   go_wp2_with fail
   refine HS1w.out.mono ?_;rintro e w' ⟨rfl,hw⟩;obtain rfl:=hw.symm;go_wp2_with fail
   go_ret
   exact⟨zE HR3.out.symm,HBq.out⟩
 ·have HR2:Hid (ans=false):=by have:=HR.out;rw[th hk,l5]at this;exact this
  have b1:(k1==k2)=false:=by simpa using hk
  have b2:(k1 != k2)=true:=by simp only[bne,b1];rfl
  clear hk;go_wp2_with fail
  go_quiet (fail)
  go_wp2_with fail
  go_ret
  exact⟨zE HR2.out.symm,yC (tl _ _) _⟩
def Fm(I:List yH)(H:Nat)(rs:List MX)(G:List Bool)(i j:Nat):Prop:=i<j/\j<rs.length/\BE rs G i j=true/\zBL I H (pQ rs i).1 (pQ rs j).1
structure Qx(I:List yH)(H:Nat)(r:vG):Prop where
 pl:iY r I.length (xU I)
 nd:∀c,lQ r c=true->c<H
 ah:∀c,vX r c=true->c<H
 bd:∀i z,z∈xR r i -> -1000000<=z/\z<=1000000
theorem Db(I:List yH)(x y:vG)(h1:x.guard.length<=10000)(h2:y.guard.length<=10000)(i:Nat):(mC I x y i).length<=100000:=by
 unfold mC nS;have a1:=dX (K9 (jA I i).low (jA I i).high) (xR x i) (xR x i).length (t9 _);rw[lp]at a1;have a2:=dX a1.1 (xR y i) (xR y i).length (t9 _);rw[lp]at a2;have:=a1.2;have:=a2.2;have:=oM x i;have:=oM y i;simp only[p7,List.length_nil]at *;omega
def Qv(I:List yH)(H:Nat)(x y:MX)(B b gi gh:Nat)(w w':World)(e:Ending):Prop:=∃r,e=.returned (.bool r)/\Below B w w'/\(r=false->¬zBL I H x.1 y.1)/\(r=true->∃(f:Nat->Int) (g:Nat->Bool),(w'.cell? ⟨b,12,none⟩=some (.slice (some ⟨gi,0,none⟩) I.length I.length)/\w'.cell? ⟨b,13,none⟩=some (.slice (some ⟨gh,0,none⟩) H H)/\w'.cell? ⟨b,14,none⟩=some (.slice none 0 0))/\jE w' gi 3 I.length (fun i=>.int .i64 (f i))/\jE w' gh 4 H (fun c=>.bool (g c))/\oS I H ⟨(List.range I.length).map f,(List.range H).map g,[]⟩/\tP x.1 ⟨(List.range I.length).map f,(List.range H).map g,[]⟩=true/\tP y.1 ⟨(List.range I.length).map f,(List.range H).map g,[]⟩=true)
theorem zG4(F:Nat->List (Int × Int))(L:List NE)(p:Nat)(hp:p<L.length)(r:Nat)(hr:r<5):(iH F L)[p*5+r]? = (zEU F (L.getD p Yr))[r]? := zW (zEU F) 5 (fun _=>rfl) Yr L p r hp hr
theorem zFV(w wr:World)(b:Nat)(I:List yH)(H:Nat)(x y:MX)(gi gh:Nat)(nv sv:Value)(L:List NE)(hN:zH5 w wr I.length H gi gh (mC I x.1 y.1) nv sv L (qY I x.1 y.1 I.length++qE x.1 y.1 H) (cJ I I.length) (cK x.1 y.1 H))(hL:L.map NE.place=vO I x.1 y.1)(hb:wr.heap[b]? = some (.cells (Bm x y nv sv (.slice (some ⟨gi,0,none⟩) I.length I.length) (.slice (some ⟨gh,0,none⟩) H H)) 184 (0,0)))(hlb:w.heap.size<=b)(hI:sV I)(fH:H<=10000)(hx:kJ w x)(hy:kJ w y)(ox:Qx I H x.1)(oy:Qx I H y.1) :
 Calls Tryz.prog 72 #[.pointer (some ⟨b,0,none⟩),.int .i64 0] wr fun e w'=>Qv I H x y w.heap.size b gi gh wr w' e:=by
 obtain⟨na,nc,rfl⟩:=yG hN.nums;obtain⟨sa,sc,rfl,hsw⟩:=jO hN.sws;have hzf:=Db I x.1 y.1 hx.few2 hy.few2
 obtain⟨gn,hgn1,hgn2⟩:∃gn,(0<L.length->na=some ⟨gn,0,none⟩/\jE wr gn 268 (5*L.length) (fun j=>(iH (mC I x.1 y.1) L).getD j (.slice none 0 0)))/\(0<L.length->w.heap.size<=gn):=by
  rcases hN.nums.2 with ⟨_,k2⟩|⟨g,cap,yV,k1,k2,k3,k4,k5,k6,k7⟩
  ·exact⟨0,fun h=>absurd h (by omega),fun h=>absurd h (by omega)⟩
  ·simp only[Value.slice.injEq]at k1
   refine⟨g,fun _=>⟨k1.1,yV,k3,fun j hj=>?_⟩,fun _=>by omega⟩;have hl:(iH (mC I x.1 y.1) L).length=L.length*5:=hN.nums.1;have hj2:j<(iH (mC I x.1 y.1) L).length:=by omega
   have:=xC k3 (n:=L.length*5) k7 (pe hj2);rw[zD k3 j]at this;rw[this];simp[List.getD,hj2]
 have ok:=zHU (b:=b) (na:=na) (gn:=gn) (nc:=nc) (sa:=sa) (sc:=sc) (gi:=gi) (gh:=gh) hL hI fH hzf hlb hN.loi hN.loh hgn2
 have hM:jY wr (fN w b I H x y L na gn nc sa sc gi gh) (vy I H x y):=by
  refine⟨hb,fun h0=>⟨(hgn1 h0).1,?_⟩,hN.rI,hN.rH,hsw,fun p hp=>?_,hx.below hN.bel,hy.below hN.bel⟩
  ·obtain⟨cs,q1,q2⟩:=(hgn1 h0).2
   refine⟨cs,q1,fun j hj=>?_⟩;rw[q2 j hj];have hj5:j/5<L.length:=by have:j<5*L.length:=hj;omega
   have hr:j%5<5:=Nat.mod_lt _ (by decide);have hat:=zG4 (mC I x.1 y.1) L (j/5) hj5 (j%5) hr;rw[show j/5*5+j%5=j by omega]at hat;show some ((iH (mC I x.1 y.1) L).getD j (.slice none 0 0))=_;rw[l9,hat];unfold aT fN vy;rcases(show j%5=0\/j%5=1\/j%5=2\/j%5=3\/j%5=4 by omega) with h|h|h|h|h <;> rw[h] <;> simp[zEU]
  ·have hm:L.getD p Yr∈L:=by simp[List.getD,show p<L.length from hp]
   exact hN.zn _ hm
 refine(QJ _ ok L.length 0 wr _ (by show 0+L.length=L.length;omega) (fun p hp=>absurd hp (by omega)) hM).mono ?_;rintro e w' ⟨r,s',rfl,h1,h2,h3⟩;refine⟨r,rfl,h2,fun hr=>?_,fun hr=>?_⟩
 ·subst hr
  refine zCD hL hI ox.pl oy.pl (fun c hc=>?_) (fun c hc=>?_) h3
  ·unfold uS at hc;rcases(mz _ _).mp hc with h|h
   ·exact ox.nd c h
   ·exact oy.nd c h
  ·rcases(mz _ _).mp hc with h|h
   ·exact ox.ah c h
   ·exact oy.ah c h
 ·subst hr
  obtain⟨k1,k2,k3⟩:=ud hL hI h3;exact⟨s'.inp,s'.has,⟨h1.cells 12,h1.cells 13,h1.cells 14⟩,h1.rI,h1.rH,k1,k2,k3⟩
theorem zH5.below(k:zH5 w wr n h gi gh F nv sv L T inp has)(hb:Below wr.heap.size wr wy):zH5 w wy n h gi gh F nv sv L T inp has :=
 ⟨k.bel.trans (hb.mono k.bel.size),wT k.nums hb,fun q hq=>(k.zn q hq).below hb,wT k.sws hb,k.rI.below hb,k.rH.below hb,k.loi,k.loh⟩
theorem ue(w w2:World)(I:List yH)(H:Nat)(x y:MX)(e:Ending)(hp:KP I H x y w w2 e)(hI:sV I)(fH:H<=10000)(hx:kJ w x)(hy:kJ w y)(ox:Qx I H x.1)(oy:Qx I H y.1):∃SR gi gh,e=.returned (.agg SR)/\SR.size=15/\(Tryz.prog.info? 184).map (·.size)=some SR.size/\SR.all (·.oneCell')=true/\Below w.heap.size w w2/\∀(b:Nat) (wr:World),Below w2.heap.size w2 wr->w2.heap.size<=b->wr.heap[b]? = some (.cells SR 184 (0,0))->Calls Tryz.prog 72 #[.pointer (some ⟨b,0,none⟩),.int .i64 0] wr fun e w'=>Qv I H x y w.heap.size b gi gh wr w' e:=by
 obtain⟨gi,gh,nv,sv,L,rfl,hN,hL⟩:=hp;have hb:=hN.bel;obtain⟨a1,c1,e1,-⟩:=hx.sum;obtain⟨a2,c2,e2,-⟩:=hx.guard;obtain⟨a3,c3,e3,-⟩:=hy.sum;obtain⟨a4,c4,e4,-⟩:=hy.guard;obtain⟨na,nc,e5⟩:=yG hN.nums;obtain⟨sa,sc,e6⟩:=yG hN.sws;refine⟨_,gi,gh,rfl,rfl,vz _ _ _ _ _ _,Dm (by rw[e1];rfl) (by rw[e2];rfl) (by rw[e3];rfl) (by rw[e4];rfl) (by rw[e5];rfl) (by rw[e6];rfl) rfl rfl,hb,fun b wr h1 h2 h3=>zFV w wr b I H x y gi gh nv sv L (hN.below h1) hL h3 (by have:=hb.size;omega) hI fH hx hy ox oy⟩
theorem YN(h:uL ls){x:zF}(hx:x∈ls)(hk:x.kind=3):∀y∈x.nd,vB ls y=true:=by
 obtain⟨i,hi,rfl⟩:=XC hx;have he:=h.err i hi;unfold pP at he;rw[tg (by omega),tg (by omega),tj hk]at he;unfold bL at he
 have hb:(vP (ls.take i) 3 (lA ls i).name || ((lA ls i).sum.any (fun x => !kD ls x) || (lA ls i).nd.any (fun x => !vB ls x)))=false:=by
  cases hc:(vP (ls.take i) 3 (lA ls i).name || ((lA ls i).sum.any (fun x => !kD ls x) || (lA ls i).nd.any (fun x => !vB ls x))) with
  | false=>rfl
  | true=>rw[hc,tj rfl]at he;exact absurd he (by decide)
 rw[lj,lj]at hb;intro y hy;have:=List.any_eq_false.1 hb.2.2 y hy;simpa using this
theorem zG7{y:zX}(h:vB ls y=true)(k:y.kind=5):jX ls y.name=true:=by unfold vB at h;rwa [tj k]at h
theorem D6{y:zX}(h:vB ls y=true)(k:y.kind=6):vP ls 2 y.name=true:=by unfold vB at h;rwa [tg (by omega),tj k]at h
theorem Kp{y:zX}(h:vB ls y=true)(k:y.kind=7):vP ls 1 y.name=true/\(y.other≠[]->vP ls 1 y.other=true):=by
 unfold vB at h;rw[tg (by omega),tg (by omega),tj k,tz,mz,pw]at h;exact⟨h.2,fun ho=>h.1.resolve_left ho⟩
theorem YU(h:uL ls){nm:Bs}{k:Int}(hk:k=1\/k=2)(hh:vP ls k nm=true):∃i:Nat,zH (xM ls) nm=i/\i<(yM ls).length/\xU (yM ls) i=decide (k=1):=by
 obtain⟨z,z1,z2,z3⟩:=jm hh;have hz:z∈DQ ls:=DP z1 (by omega);have hm:nm∈xM ls:=by rw[XT];exact mn.2 ⟨z,hz,z3⟩
 have h0:=(fG _ _).2 hm;have h1:=cM (xM ls) nm;obtain⟨i,hi⟩:∃i:Nat,zH (xM ls) nm=i:=⟨(zH (xM ls) nm).toNat,by omega⟩;have zIB:i<(yM ls).length:=by rw[<-tU];omega
 have hat:=((Jw nm (xM ls) (XS h) 0 i).1 (by rw[l8];exact hi)).2;obtain⟨x,x1,-,x3,x4⟩:=nD zIB;have e:x=z:=K5 h x1 hz (by rw[<-x4,hat,z3]);refine⟨i,hi,zIB,?_⟩;unfold xU;rw[x3,e,mP (aJ hz),z2]
theorem K6(h:uL ls){nm:Bs}(hh:jX ls nm=true):zH (xM ls) nm<0/\∃c:Nat,zH (zS ls) nm=c/\c<(zS ls).length:=by
 have h0:0<=zH (zS ls) nm:=(fG _ _).2 ((Jm _ _).2 hh);have h1:=cM (zS ls) nm;refine⟨?_,(zH (zS ls) nm).toNat,by omega,by omega⟩;rcases cr (zH (xM ls) nm) 0 with h1|h1
 ·exact h1
 ·have:=h.apart ((fG _ _).1 h1);rw[hh]at this;cases this
theorem gF(hA:yQ ls us):vJ us=xM ls++zS ls:=by unfold vJ;rw[dS hA,XV hA]
theorem zET(hA:yQ ls us)(h:uL ls){x:zF}(hx:x∈ls)(hk:x.kind=3)(hL:LT x u)(hku:cA u 0=zQ):zEL (vJ us).length (iE ls) (fO (vJ us) u).steps:=by
 obtain⟨w,hr⟩:=hL.rule hku;obtain⟨k,y0,hg⟩:=hr.gr
 have eS:(fO (vJ us) u).steps=vM (vJ us) (u.length+1) (u.drop (w+1)):=by
  show vM (vJ us) (u.length+1) (u.drop (wC u+1))=_;rw[hr.wAt]
 have hLn:(vJ us).length=(yM ls).length+(zS ls).length:=by rw[gF hA,tq,tU]
 have inpA':∀ {nm:Bs} {k:Int},k=1\/k=2->vP ls k nm=true->∃a:Nat,zH (vJ us) nm=a/\a<(vJ us).length/\iE ls a=decide (k=1):=fun {nm k} hk hh=>by
  obtain⟨i,h1,h2,h3⟩:=YU h hk hh;refine⟨i,?_,by omega,?_⟩
  ·rw[gF hA,dT,tj (by omega),h1]
  ·unfold iE;rw[tm h2,md,h3]
 rw[eS];intro s hs;rcases QV (names:=vJ us) hg (u.length+1) (by rw[ty];omega) s hs with h0|h0|⟨y,hy,hyk,rfl⟩|⟨y,hy,hyk,-,rfl⟩|⟨y,hy,hyk,ho,rfl⟩
 ·exact⟨fun e=>by omega,fun e=>by omega,fun e=>by omega,by omega⟩
 ·exact⟨fun e=>by omega,fun e=>by omega,fun e=>by omega,by omega⟩
 ·have hn:=YN h hx hk y hy
  refine⟨fun _=>?_,fun e=>absurd e (by simp),fun e=>absurd e (by simp),by simp⟩;rcases hyk with k5|k6
  ·obtain⟨h1,c,h2,h3⟩:=K6 h (zG7 hn k5)
   refine⟨(yM ls).length+c,?_,by omega,?_⟩
   ·show zH (vJ us) y.name=_
    rw[gF hA,dT,tg (by omega),tj (by omega),h2,tU];omega
   ·unfold iE;rw[th (by omega)];rfl
  ·exact inpA' (.inr rfl) (D6 hn k6)
 ·have hn:=Kp (YN h hx hk y hy) hyk
  exact⟨fun e=>absurd e (by simp),fun _=>inpA' (.inl rfl) hn.1,fun e=>absurd e (by simp),by simp⟩
 ·have hn:=Kp (YN h hx hk y hy) hyk
  exact⟨fun e=>absurd e (by simp),fun e=>absurd e (by simp),fun _=>⟨inpA' (.inl rfl) hn.1,inpA' (.inl rfl) (hn.2 ho)⟩,by simp⟩
theorem qx{N:List zX}(hg:cQ N){y:zX}(hy:y∈N)(hk:y.kind=7):0<=y.num/\y.num<=9999:=by
 obtain⟨a,ha,rfl⟩:=f9 hy;have e:qZ N a=N[a]:=by unfold qZ;simp[List.getD,ha]
 have:=(hg a ha).2.2.2 (by rw[e];omega) (by rw[e];omega) (by rw[e];omega);rw[e]at this;exact this.2
theorem zFX(h:uL ls){x:zF}(hx:x∈ls)(hk:x.kind=3)(hg:dG x):Qx (yM ls) (zS ls).length (qA (xM ls) (zS ls) x):=by
 have hN:=YN h hx hk;have mem:∀y∈(qA (xM ls) (zS ls) x).guard,∃z∈x.nd,lR (xM ls) (zS ls) z=y:=fun y hy=>mn.1 hy;refine⟨⟨fun y hy hyk=>?_,fun y hy hyk=>?_,fun y hy hyk ht=>?_⟩,fun c hc=>?_,fun c hc=>?_,fun i z hz=>?_⟩
 ·obtain⟨z,hz,rfl⟩:=mem y hy
  have hzk:z.kind=6:=hyk;obtain⟨i,h1,h2,h3⟩:=YU h (.inr rfl) (D6 (hN z hz) hzk);refine⟨i,h2,?_,h3⟩;show D8 (xM ls) (zS ls) z=_;unfold D8;rw[tg (by omega),tj (.inl hzk),h1]
 ·obtain⟨z,hz,rfl⟩:=mem y hy
  have hzk:z.kind=7:=hyk;obtain⟨i,h1,h2,h3⟩:=YU h (.inl rfl) (Kp (hN z hz) hzk).1;refine⟨i,h2,?_,h3⟩;show D8 (xM ls) (zS ls) z=_;unfold D8;rw[tg (by omega),tj (.inr hzk),h1]
 ·obtain⟨z,hz,rfl⟩:=mem y hy
  have hzk:z.kind=7:=hyk;have ho:z.other≠[]:=bg ht;obtain⟨i,h1,h2,h3⟩:=YU h (.inl rfl) ((Kp (hN z hz) hzk).2 ho);refine⟨i,h2,?_,h3⟩;show zEV (xM ls) z=_;unfold zEV;rw[tg ho,h1]
 ·obtain⟨p,hp,e⟩:=mj.1 hc
  rw[tz,pw,pw]at e;obtain⟨q,hq,rfl⟩:=mn.1 hp;have e1:zGA (xM ls) q=3:=e.1;have e2:zG9 (xM ls) (zS ls) q=(c:Int):=e.2;unfold zGA at e1;unfold zG9 at e2;by_cases hq0:q.name=[]
  ·rw[tj hq0]at e1;exact absurd e1 (by decide)
  ·rw[tg hq0]at e1 e2
   by_cases hq1:zH (xM ls) q.name<0
   ·rw[tj hq1]at e2
    have:=cM (zS ls) q.name;omega
   ·rw[tg hq1]at e1;exact absurd e1 (by decide)
 ·obtain⟨y,hy,e⟩:=mj.1 hc
  rw[tz,pw,pw]at e;obtain⟨z,hz,rfl⟩:=mem y hy;have e1:z.kind=5:=e.1;have e2:D8 (xM ls) (zS ls) z=(c:Int):=e.2;unfold D8 at e2;rw[tj e1]at e2;have:=cM (zS ls) z.name;omega
 ·obtain⟨y,hy,rfl⟩:=mn.1 hz
  obtain⟨h1,h2⟩:=ma.1 hy;rw[tz,pw]at h2;obtain⟨v,hv,rfl⟩:=mem y h1;have:=qx hg.nodes hv h2.1;show -1000000<=v.num/\v.num<=1000000;omega
theorem DN(h:uL ls)(hg:∀x∈ls,dG x):sV (yM ls):=by
 refine⟨fun i hi hn=>?_,fun i hi hn=>?_,by have:=VZ h;omega⟩
 ·obtain⟨x,x1,x2,x3,-⟩:=nD hi
  have hk:x.kind=1:=by unfold xU at hn;rw[x3,mP (aJ x1)]at hn;exact bg hn
  have hp:=hg x x2;have:=VD h x2 hk;have e1:=hp.lo0;have e2:=hp.hi1;rw[x3];unfold oY;rw[tj hk];exact⟨e1,this,e2⟩
 ·obtain⟨x,x1,x2,x3,-⟩:=nD hi
  have hk:¬x.kind=1:=by unfold xU at hn;rw[x3,mP (aJ x1)]at hn;exact of_decide_eq_false hn
  rw[x3];unfold oY;rw[tg hk]
def zBR(n:Nat)(u:List Int):vD:=⟨u.take n,(u.drop n).map fun v=>decide (v=1),[]⟩
def zC0(y:vD):List Int:=y.inputs++y.has.map fun b=>if b=true then 1 else 0
theorem Kg{ins cs:List Bs}{u:List Int}(h:u.length=ins.length+cs.length):aY ins cs (zBR ins.length u) u:=by
 refine⟨by simp[zBR];omega,by simp[zBR];omega,h,fun i hi=>?_,fun c hc=>?_⟩
 ·simp[zBR,List.getD,hi]
 ·have:ins.length+c<u.length:=by omega
  simp[zBR,List.getD,this]
theorem Dt{ins cs:List Bs}{y:vD}(h1:y.inputs.length=ins.length)(h2:y.has.length=cs.length):aY ins cs y (zC0 y):=by
 refine⟨h1,h2,by simp[zC0];omega,fun i hi=>?_,fun c hc=>?_⟩
 ·simp[zC0,List.getD,m6 (show i<y.inputs.length by omega)]
 ·have hl:c<y.has.length:=by omega
  have e:(zC0 y).getD (ins.length+c) 0=if y.has[c]=true then 1 else 0:=by
   unfold zC0;rw[l9,pf (by omega),show ins.length+c-y.inputs.length=c by omega];simp[hl]
  rw[e];cases hb:y.has[c] <;> simp[List.getD,hl,hb]
theorem K3(hA:yQ ls us)(h:uL ls){i:Nat}(hi:i<(yM ls).length)(hn:xU (yM ls) i=true):qG us (vJ us) (tJ us).length i=((jA (yM ls) i).low,(jA (yM ls) i).high):=by
 obtain⟨x,x1,x2,x3,x4⟩:=nD hi;have hk:x.kind=1:=by unfold xU at hn;rw[x3,mP (aJ x1)]at hn;exact bg hn
 rw[Vp hA h (by rw[dS hA,tU];exact hi) x1 hk ((Co hA hi).trans x4),x3];unfold oY;rw[tj hk]
theorem zCH(hA:yQ ls us)(h:uL ls){u:List Int}(hu:Fe us (vJ us) (tJ us).length (iE ls) u):oS (yM ls) (zS ls).length (zBR (xM ls).length u):=by
 have hl:=hu.len;have hLn:(vJ us).length=(yM ls).length+(zS ls).length:=by rw[gF hA,tq,tU]
 have hR:aY (xM ls) (zS ls) (zBR (xM ls).length u) u:=Kg (by rw[tU];omega);refine⟨by rw[hR.li,tU],hR.lh,fun i hi hn=>?_,fun i hi hn=>?_⟩
 ·rw[<-hR.inp i (by rw[tU];exact hi)]
  have:=hu.nums i (by omega) (by unfold iE;rw[tm hi,hn];rfl);rw[K3 hA h hi hn]at this;exact this
 ·rw[<-hR.inp i (by rw[tU];exact hi)]
  exact hu.bits i (by omega) (by unfold iE;rw[hn,lu])
theorem zDS(hA:yQ ls us)(h:uL ls){y:vD}(hy:oS (yM ls) (zS ls).length y):Fe us (vJ us) (tJ us).length (iE ls) (zC0 y):=by
 have hLn:(vJ us).length=(yM ls).length+(zS ls).length:=by rw[gF hA,tq,tU]
 have hR:aY (xM ls) (zS ls) y (zC0 y):=Dt (by rw[hy.inl,tU]) hy.hal;refine⟨by rw[hR.lv,tU,hLn],fun k hk hn=>?_,fun k hk hn=>?_⟩
 ·unfold iE at hn
  rw[tz,pw]at hn;rw[K3 hA h hn.1 hn.2,hR.inp k (by rw[tU];exact hn.1)];exact hy.num k hn.1 hn.2
 ·by_cases zIB:k<(yM ls).length
  ·unfold iE at hn
   rw[tm zIB,md]at hn;rw[hR.inp k (by rw[tU];exact zIB)];exact hy.flag k zIB hn
  ·unfold zC0
   rw[l9,pf (by rw[hy.inl];omega)];have h2:k-y.inputs.length<y.has.length:=by rw[hy.inl,hy.hal];omega
   rw[List.getElem?_map,pe h2];cases y.has[k-y.inputs.length] <;> simp
theorem zt(hA:yQ ls us)(h:uL ls){x y:zF}{v:zG}(hx:x∈ls)(hxk:x.kind=3)(hLx:LT x u)(hux:cA u 0=zQ)(hy:y∈ls)(hyk:y.kind=3)(hLy:LT y v)(huy:cA v 0=zQ) :
 zBL (yM ls) (zS ls).length (qA (xM ls) (zS ls) x) (qA (xM ls) (zS ls) y) ↔ gO us (vJ us) (tJ us).length (fO (vJ us) u) (fO (vJ us) v):=by
 have hN:=ke hA h;have hins:(tJ us).length=(xM ls).length:=by rw[dS hA]
 have hLn:(vJ us).length=(xM ls).length+(zS ls).length:=by rw[gF hA,tq]
 have ap:∀ {s:vD} {vs:List Int},aY (xM ls) (zS ls) s vs->kB (tJ us).length vs (fO (vJ us) u)=tP (qA (xM ls) (zS ls) x) s/\kB (tJ us).length vs (fO (vJ us) v)=tP (qA (xM ls) (zS ls) y) s:=fun {s vs} hR=>by
  rw[hins,gF hA];exact⟨(Qm hR (h.ruOk hx hxk) hLx hux).2,(Qm hR (h.ruOk hy hyk) hLy huy).2⟩
 constructor
 ·rintro⟨s,h1,h2,h3⟩
  have hR:aY (xM ls) (zS ls) s (zC0 s):=Dt (by rw[h1.inl,tU]) h1.hal;obtain⟨a1,a2⟩:=ap hR;exact zA7 hN (zET hA h hx hxk hLx hux) (zET hA h hy hyk hLy huy) (zDS hA h h1) (a1.trans h2) (a2.trans h3)
 ·intro ht
  obtain⟨w,h1,h2,h3⟩:=vh hN ht;have hR:aY (xM ls) (zS ls) (zBR (xM ls).length w) w:=Kg (by rw[h1.len,hLn]);obtain⟨a1,a2⟩:=ap hR;exact⟨zBR (xM ls).length w,zCH hA h h1,a1.symm.trans h2,a2.symm.trans h3⟩
theorem zDO:(Tryz.prog.info? 128).map (fun i=>(i.zero,i.size,i.bytes))=some (some (.agg #[.string ⟨#[]⟩,.int .i64 0]),2,24):=by kernel_rfl
def lI(I:List yH)(f:Nat->Int)(i:Nat):List Value:=(List.range i).flatMap fun j=>[.string ⟨(jA I j).name.toArray⟩,.int .i64 (f j)]
def dY(C:List (Bs × Nat))(g:Nat->Bool)(c:Nat):List Value:=(List.range c).flatMap fun j=>[.string ⟨(C.getD j ([],0)).1.toArray⟩,.int .i64 (if g j=true then 1 else 0)]
theorem Bt(I:List yH)(f:Nat->Int)(i:Nat):lI I f (i+1)=lI I f i++[.string ⟨(jA I i).name.toArray⟩,.int .i64 (f i)]:=by unfold lI;rw[di,fa];simp
theorem Bv(C:List (Bs × Nat))(g:Nat->Bool)(c:Nat):dY C g (c+1)=dY C g c++[.string ⟨(C.getD c ([],0)).1.toArray⟩,.int .i64 (if g c=true then 1 else 0)]:=by unfold dY;rw[di,fa];simp
theorem jb{C:List (Bs × Nat)}(h:pE w a (Ys C)){i:Nat}(hi:i<C.length):∃g,a=some ⟨g,0,none⟩/\w.cell? ⟨g,i*2,none⟩=some (.string ⟨(C.getD i ([],0)).1.toArray⟩)/\w.cell? ⟨g,i*2+1,none⟩=some (.int .i64 ((C.getD i ([],0)).2:Nat)):=by
 obtain⟨g,e,q1⟩:=h.at ((zW (fun x:Bs × Nat=>[Value.string ⟨x.1.toArray⟩,.int .i64 (x.2:Nat)]) 2 (fun _=>rfl) ([],0) C i 0 hi (by decide)).trans rfl);obtain⟨g',e',q2⟩:=h.at ((zW (fun x:Bs × Nat=>[Value.string ⟨x.1.toArray⟩,.int .i64 (x.2:Nat)]) 2 (fun _=>rfl) ([],0) C i 1 hi (by decide)).trans rfl);obtain rfl:g=g':=by rw[e]at e';simpa using e'
 exact⟨g,e,q1,q2⟩
theorem Vj(w:World)(b o:Nat)(I:List yH)(C:List (Bs × Nat))(rs:List MX)(G:List Bool)(gi gh:Nat)(f:Nat->Int)(gg:Nat->Bool)(h:KQ w b o I C rs G)(hI:jE w gi 3 I.length (fun i=>.int .i64 (f i)))(hH:jE w gh 4 C.length (fun c=>.bool (gg c))) :
 Calls Tryz.prog 73 #[.pointer (some ⟨b,o,none⟩),.agg #[.slice (some ⟨gi,0,none⟩) I.length I.length,.slice (some ⟨gh,0,none⟩) C.length C.length,.slice none 0 0]] w fun e w'=>∃v,e=.returned v/\w'.ownsRow w.heap.size 128 2 v (I.length+C.length) (lI I f I.length++dY C gg C.length)/\Below w.heap.size w w':=by
 obtain⟨i0,hi0,hz0,hz1,hz2⟩:=dp zDO;obtain⟨ia,ic,c0,hia⟩:=h.inp;obtain⟨ca,cc,c1,hca⟩:=h.con;have fI:=h.few1;have fC:=h.few2;have HIn:=zA (fun w' (hb:Below w.heap.size w w') i (hi:i<I.length)=>Js (hia.below hb).cel hi);have HCo:=zA (fun w' (hb:Below w.heap.size w w') i (hi:i<C.length)=>jb (hca.below hb).cel hi);have HMd:Hid (∀w',Below w.heap.size w w'->w'.cell? ⟨b,o,none⟩=some (.slice ia I.length ic)/\w'.cell? ⟨b,o+1,none⟩=some (.slice ca C.length cc)):=fun w' hb=>⟨(hb.cell (p:=⟨b,o,none⟩) (zT c0)).trans c0,(hb.cell (p:=⟨b,o+1,none⟩) (zT c1)).trans c1⟩;have HRI:Hid (∀w',Below w.heap.size w w'->∀i,i<I.length->w'.cell? ⟨gi,i,none⟩=some (.int .i64 (f i))):=fun w' hb i hi=>(hI.below hb).cell hi;have HRH:Hid (∀w',Below w.heap.size w w'->∀i,i<C.length->w'.cell? ⟨gh,i,none⟩=some (.bool (gg i))):=fun w' hb i hi=>(hH.below hb).cell hi;have lb:=zT c0;clear h hia hca hI hH c0 c1
 go_enter Tryz.func73,Tryz.ntmps73
 go_upto_region 2 with fail
 have HB0:Hid (Below w.heap.size w ((w.alloc (.cells #[.slice (some ⟨gi,0,none⟩) I.length I.length,.slice (some ⟨gh,0,none⟩) C.length C.length,.slice none 0 0] 182)).alloc (.cells #[] 128))):=(gj (t9 _) _).alloc (by simp) _;have HX0:Hid (((w.alloc (.cells #[.slice (some ⟨gi,0,none⟩) I.length I.length,.slice (some ⟨gh,0,none⟩) C.length C.length,.slice none 0 0] 182)).alloc (.cells #[] 128)).heap[w.heap.size]? = some (.cells #[.slice (some ⟨gi,0,none⟩) I.length I.length,.slice (some ⟨gh,0,none⟩) C.length C.length,.slice none 0 0] 182 (0,0))):=yJ (zM _ _);have HO0:Hid (((w.alloc (.cells #[.slice (some ⟨gi,0,none⟩) I.length I.length,.slice (some ⟨gh,0,none⟩) C.length C.length,.slice none 0 0] 182)).alloc (.cells #[] 128)).ownsRow (w.heap.size+1) 128 2 (.slice (some ⟨w.heap.size+1,0,none⟩) 0 0) 0 (lI I f 0)):=⟨rfl,.inr ⟨w.heap.size+1,0,#[],rfl,t9 _,xY _ _ _ (by simp),t9 _,tr _,rfl,rfl⟩⟩;have hs0:w.heap.size+1<=((w.alloc (.cells #[.slice (some ⟨gi,0,none⟩) I.length I.length,.slice (some ⟨gh,0,none⟩) C.length C.length,.slice none 0 0] 182)).alloc (.cells #[] 128)).heap.size:=by simp
 generalize (w.alloc (.cells #[.slice (some ⟨gi,0,none⟩) I.length I.length,.slice (some ⟨gh,0,none⟩) C.length C.length,.slice none 0 0] 182)).alloc (.cells #[] 128)=w0 at *;generalize Value.slice (some ⟨w.heap.size+1,0,none⟩) 0 0=v0 at *;have HG:Hid (∀wr,Below (w.heap.size+1) w0 wr->Below w.heap.size w wr/\wr.heap[w.heap.size]? = some (.cells #[.slice (some ⟨gi,0,none⟩) I.length I.length,.slice (some ⟨gh,0,none⟩) C.length C.length,.slice none 0 0] 182 (0,0))):=fun wr hb=>⟨HB0.out.trans (hb.mono (bm _)),(hb.block _ (mh _)).trans HX0.out⟩;obtain⟨d0,d1⟩:=HMd.out w0 HB0.out;clear HB0 HX0;go_wp2_with fail
 go_loopw [5,17] (fun ov iv wr=>∃(i:Nat),i<=I.length/\iv=.int .i64 i/\Hid (Below (w.heap.size+1) w0 wr)/\Hid (wr.ownsRow (w.heap.size+1) 128 2 ov i (lI I f i))) (fun _ iv _=>I.length-(intOf iv).toNat)
 case atStart=>exact⟨0,tr _,rfl,zA (tl _ _),HO0⟩
 case round =>
  obtain⟨i,hi,rfl,HB,HO⟩:=hrel;have zIJ:=HB.out.size;obtain⟨zJB,hX⟩:=HG.out wr HB.out;by_cases zIB:i<I.length
  ·have ii:(i:Int)<(I.length:Int):=by omega
   obtain⟨g,rfl,n0,n1,n2,n3⟩:=HIn.out wr zJB i zIB;have ci:=HRI.out wr zJB i zIB;have x0:wr.cell? ⟨w.heap.size,0,none⟩=some (.slice (some ⟨gi,0,none⟩) I.length I.length):=zD hX 0;have lg:=zT n0;have lgi:=zT ci;have lx:=zT x0;have m1:wr.heap.size≠g:=by omega
   have m2:wr.heap.size≠gi:=by omega
   have m3:wr.heap.size≠w.heap.size:=by omega
   obtain⟨oa,oc,rfl⟩:=yG HO.out;have HVs:=zA (Bt I f i);have HO1:Hid (∀ob,(wr.alloc ob).ownsRow (w.heap.size+1) 128 2 (.slice oa i oc) i (lI I f i)):=fun ob=>HO.out.alloc ob;have HB1:Hid (∀ob,Below (w.heap.size+1) w0 (wr.alloc ob)):=fun ob=>HB.out.alloc (by omega) ob;clear hX zJB;generalize jA I i=xi at *;obtain⟨xn,xf,xl,xh⟩:=xi;simp only at n0 n1 n2 n3 HVs;generalize f i=fv at *
   go_upto_region 5 with fail
   have c5a:(wr.alloc (.cells #[.string ⟨xn.toArray⟩,.bool xf,.int .i64 xl,.int .i64 xh] 258)).cell? ⟨wr.heap.size,0,none⟩=some (.string ⟨xn.toArray⟩):=zD (zM _ _) 0;have c5b:(wr.alloc (.cells #[.string ⟨xn.toArray⟩,.bool xf,.int .i64 xl,.int .i64 xh] 258)).cell? ⟨w.heap.size,0,none⟩=some (.slice (some ⟨gi,0,none⟩) I.length I.length):=(((tl wr.heap.size wr).alloc (t9 _) _).cell (p:=⟨w.heap.size,0,none⟩) lx).trans x0;have c5c:(wr.alloc (.cells #[.string ⟨xn.toArray⟩,.bool xf,.int .i64 xl,.int .i64 xh] 258)).cell? ⟨gi,i,none⟩=some (.int .i64 fv):=(((tl wr.heap.size wr).alloc (t9 _) _).cell (p:=⟨gi,i,none⟩) lgi).trans ci;have HO5:=zA (HO1.out (.cells #[.string ⟨xn.toArray⟩,.bool xf,.int .i64 xl,.int .i64 xh] 258));have HB5:=zA (HB1.out (.cells #[.string ⟨xn.toArray⟩,.bool xf,.int .i64 xl,.int .i64 xh] 258));have hs5:w.heap.size+1<=(wr.alloc (.cells #[.string ⟨xn.toArray⟩,.bool xf,.int .i64 xl,.int .i64 xh] 258)).heap.size:=by simp;omega
   clear n0 n1 n2 n3 x0 ci HO1 HB1;generalize wr.alloc (.cells #[.string ⟨xn.toArray⟩,.bool xf,.int .i64 xl,.int .i64 xh] 258)=w5 at *;go_wp2_with fail
   go_region_law ((refine step_append_lies _ (by rfl) _ _ _ (by rfl) (w.heap.size+1) 128 i0 _ 2 24 Tryz.underlying38 hi0 hz0 hz1 hz2 rfl (by decide) (.slice oa i oc) i (lI I f i) (by rfl) (HO5.out.drew.alloc _) ⟨w5.heap.size,0,none⟩ 1 1 [.string ⟨xn.toArray⟩,.int .i64 fv] (by rfl) (by rfl) (zZ _ _ _ _ rfl) (by simp[Value.oneCell']) (by decide) (by unfold maxLen;omega) (by omega) (by simp;omega) (w5.heap.size+1) (by simp) ?_;intro g2 cap w6 zIE zIC hat hlt5))
   all_goals
    have HB6:Hid (Below (w.heap.size+1) w0 w6):=(HB5.out.drew.alloc hs5 _).grown zIC (by show w.heap.size+1<=(w5.drew.alloc _).heap.size;simp;omega) (zN HO5.out);have HO6:Hid (w6.ownsRow (w.heap.size+1) 128 2 (.slice (some ⟨g2,0,none⟩) (i+1) cap) (i+1) (lI I f (i+1))):=by unfold Hid;rw[HVs.out];exact zIE
    clear zIC zIE hat hlt5;go_wp2_with fail
    go_roundw
    case rel=>exact⟨i+1,by omega,by go_num,HB6,HO6⟩
    case measure=>simp[intOf];omega
  ·obtain rfl:i=I.length:=by omega
   have ii:¬(I.length:Int)<(I.length:Int):=by omega
   obtain⟨k0,k1⟩:=HMd.out wr zJB
   have HO1:Hid (∀ov,wr.ownsRow (w.heap.size+1) 128 2 ov I.length (lI I f I.length)->wr.ownsRow (w.heap.size+1) 128 2 ov (I.length+0) (lI I f I.length++dY C gg 0)):=fun ov h=>by
    have e:lI I f I.length++dY C gg 0=lI I f I.length:=ce _;rw[e];exact h
   have HO2:=zA (HO1.out _ HO.out);clear HO1 HO hX zJB d0 d1;generalize hSI:lI I f I.length=SI at *;have HSI:=zA hSI;clear hSI;generalize hwr:wr=wq at *;clear hwr;go_wp2_with fail
   go_loopw [5,39] (fun ov iv wr=>∃(c:Nat),c<=C.length/\iv=.int .i64 c/\Hid (Below (w.heap.size+1) w0 wr)/\Hid (wr.ownsRow (w.heap.size+1) 128 2 ov (I.length+c) (SI++dY C gg c))) (fun _ iv _=>C.length-(intOf iv).toNat)
   case atStart=>exact⟨0,tr _,rfl,HB,HO2⟩
   case round =>
    obtain⟨c,hc,rfl,HBc,HOc⟩:=hrel;have hszc:=HBc.out.size;obtain⟨zJB,hX⟩:=HG.out wr HBc.out;obtain⟨oa,oc,rfl⟩:=yG HOc.out;by_cases hltc:c<C.length
    ·have jj:(c:Int)<(C.length:Int):=by omega
     obtain⟨g,rfl,n0,n1⟩:=HCo.out wr zJB c hltc;have ch:=HRH.out wr zJB c hltc;have x1:wr.cell? ⟨w.heap.size,1,none⟩=some (.slice (some ⟨gh,0,none⟩) C.length C.length):=zD hX 1;have lg:=zT n0;have lgh:=zT ch;have lx:=zT x1;have m1:wr.heap.size≠g:=by omega
     have m2:wr.heap.size≠gh:=by omega
     have m3:wr.heap.size≠w.heap.size:=by omega
     have HVs:=zA (Bv C gg c);have HO1:Hid (∀ob,(wr.alloc ob).ownsRow (w.heap.size+1) 128 2 (.slice oa (I.length+c) oc) (I.length+c) (SI++dY C gg c)):=fun ob=>HOc.out.alloc ob;have HB1:Hid (∀ob,Below (w.heap.size+1) w0 (wr.alloc ob)):=fun ob=>HBc.out.alloc (by omega) ob;clear hX zJB;generalize (C.getD c ([],0)).1=cn at *;generalize (C.getD c ([],0)).2=cl at *;generalize gg c=gv at *;cases gv
     ·rw[tg (by simp)]at HVs
      go_upto_region 13 with fail
      have c5a:(wr.alloc (.cells #[.string ⟨cn.toArray⟩,.int .i64 (cl:Nat)] 122)).cell? ⟨wr.heap.size,0,none⟩=some (.string ⟨cn.toArray⟩):=zD (zM _ _) 0;have HO5:=zA (HO1.out (.cells #[.string ⟨cn.toArray⟩,.int .i64 (cl:Nat)] 122));have HB5:=zA (HB1.out (.cells #[.string ⟨cn.toArray⟩,.int .i64 (cl:Nat)] 122));have hs5:w.heap.size+1<=(wr.alloc (.cells #[.string ⟨cn.toArray⟩,.int .i64 (cl:Nat)] 122)).heap.size:=by simp;omega
      clear n0 n1 x1 ch HO1 HB1;generalize wr.alloc (.cells #[.string ⟨cn.toArray⟩,.int .i64 (cl:Nat)] 122)=w5 at *
      go_wp2_with (at_builtin;refine wpList_append_own _ rfl _ _ 38 rfl (w.heap.size+1) 128 i0 _ 2 24 Tryz.underlying38 hi0 hz0 hz1 hz2 rfl (by decide) _ _ _ rfl (HO5.out.alloc _) ⟨w5.heap.size,0,none⟩ 1 1 [.string ⟨cn.toArray⟩,.int .i64 0] rfl rfl ?c1k1 ?c1k2 ?c1k3 ?c1k4 ?c1k5 ?_)
      try (case c1k1=>first|exact zZ _ _ _ _ rfl|exact fun _ _ h=>h)
      try (case c1k2=>first|exact⟨rfl,rfl⟩|(intro u hu;simp at hu;rcases hu with rfl|rfl <;> rfl))
      try (case c1k3=>unfold maxLen;omega)
      try (case c1k4=>omega)
      try (case c1k5=>first|omega|(simp;omega))
      intro v6 w6 zIT zIK _;have HB6:Hid (Below (w.heap.size+1) w0 w6):=(HB5.out.alloc hs5 _).grown zIK (by simp;omega) (zN HO5.out);have HO6:Hid (w6.ownsRow (w.heap.size+1) 128 2 v6 (I.length+(c+1)) (SI++dY C gg (c+1))):=by unfold Hid;rw[HVs.out,<-Nat.add_assoc];first|exact zIT|(rw[<-mq];exact zIT)
      clear zIT zIK;go_wp2_with fail
      go_roundw
      case rel=>exact⟨c+1,by omega,by go_num,HB6,HO6⟩
      case measure=>simp[intOf];omega
     ·rw[tj rfl]at HVs
      go_upto_region 13 with fail
      have c5a:(wr.alloc (.cells #[.string ⟨cn.toArray⟩,.int .i64 (cl:Nat)] 122)).cell? ⟨wr.heap.size,0,none⟩=some (.string ⟨cn.toArray⟩):=zD (zM _ _) 0;have HO5:=zA (HO1.out (.cells #[.string ⟨cn.toArray⟩,.int .i64 (cl:Nat)] 122));have HB5:=zA (HB1.out (.cells #[.string ⟨cn.toArray⟩,.int .i64 (cl:Nat)] 122));have hs5:w.heap.size+1<=(wr.alloc (.cells #[.string ⟨cn.toArray⟩,.int .i64 (cl:Nat)] 122)).heap.size:=by simp;omega
      clear n0 n1 x1 ch HO1 HB1;generalize wr.alloc (.cells #[.string ⟨cn.toArray⟩,.int .i64 (cl:Nat)] 122)=w5 at *
      go_wp2_with (at_builtin;refine wpList_append_own _ rfl _ _ 38 rfl (w.heap.size+1) 128 i0 _ 2 24 Tryz.underlying38 hi0 hz0 hz1 hz2 rfl (by decide) _ _ _ rfl (HO5.out.alloc _) ⟨w5.heap.size,0,none⟩ 1 1 [.string ⟨cn.toArray⟩,.int .i64 1] rfl rfl ?c2k1 ?c2k2 ?c2k3 ?c2k4 ?c2k5 ?_)
      try (case c2k1=>first|exact zZ _ _ _ _ rfl|exact fun _ _ h=>h)
      try (case c2k2=>first|exact⟨rfl,rfl⟩|(intro u hu;simp at hu;rcases hu with rfl|rfl <;> rfl))
      try (case c2k3=>unfold maxLen;omega)
      try (case c2k4=>omega)
      try (case c2k5=>first|omega|(simp;omega))
      intro v6 w6 zIT zIK _;have HB6:Hid (Below (w.heap.size+1) w0 w6):=(HB5.out.alloc hs5 _).grown zIK (by simp;omega) (zN HO5.out);have HO6:Hid (w6.ownsRow (w.heap.size+1) 128 2 v6 (I.length+(c+1)) (SI++dY C gg (c+1))):=by unfold Hid;rw[HVs.out,<-Nat.add_assoc];first|exact zIT|(rw[<-mq];exact zIT)
      clear zIT zIK;go_wp2_with fail
      go_roundw
      case rel=>exact⟨c+1,by omega,by go_num,HB6,HO6⟩
      case measure=>simp[intOf];omega
    ·obtain rfl:c=C.length:=by omega
     have jj:¬(C.length:Int)<(C.length:Int):=by omega
     have HFn:=zA (xE HOc.out (bm w.heap.size));have HBf:=zA zJB;clear HOc hX zJB;go_wp2_with fail
     go_ret
     exact⟨_,rfl,by rw[HSI.out];exact HFn.out,HBf.out⟩
def JT(I:List yH)(H:Nat)(f:Nat->Int)(g:Nat->Bool):vD:=⟨(List.range I.length).map f,(List.range H).map g,[]⟩
def Q2(I:List yH)(C:List (Bs × Nat))(rs:List MX)(G:List Bool)(w w':World)(e:Ending):Prop:=Below w.heap.size w w'/\((∃(i j:Nat) (f:Nat->Int) (g:Nat->Bool) (la:Option Addr) (sv:Value),Da (Fm I C.length rs G) i j/\e=.returned (.agg #[.slice la 2 2,sv])/\pE w' la [.string ⟨(pQ rs i).1.label.toArray⟩,.string ⟨(pQ rs j).1.label.toArray⟩]/\(∃sa sc,sv=.slice sa (I.length+C.length) sc/\pE w' sa (lI I f I.length++dY C g C.length))/\oS I C.length (JT I C.length f g)/\tP (pQ rs i).1 (JT I C.length f g)=true/\tP (pQ rs j).1 (JT I C.length f g)=true)\/((∀i j,¬Fm I C.length rs G i j)/\e=.returned (.agg #[.slice none 0 0,.slice none 0 0])))
theorem K4(a b:Value):(Tryz.prog.info? 101).map (·.size)=some (#[a,b]:Array Value).size:=by
 show _=some 2
 kernel_rfl
theorem JX{a b c d:Value}(h:w.heap[p]? = some (.cells #[a,b] t (0,0))):((w.setCell ⟨p,0,none⟩ c).setCell ⟨p,1,none⟩ d).heap[p]? = some (.cells #[c,d] t (0,0)):=by
 have q1:=py w _ 0 _ _ c h;have q2:=py _ _ 1 _ _ d q1;rw[q2];simp
theorem KC{a b c d:Value}{a':Option Addr}(h:w.heap[p]? = some (.cells #[a,b] t (0,0)))(hc:uN w t' a' xs)(zIM:t'≠t):uN ((w.setCell ⟨p,0,none⟩ c).setCell ⟨p,1,none⟩ d) t' a' xs:=(hc.set h zIM).set (py w _ 0 _ _ c h) zIM
theorem DI{x y:Value}(h:w.heap[g]? = some (.cells #[x,y] t (0,0))):uN w t (some ⟨g,0,none⟩) [x,y]:=.inr ⟨g,_,_,rfl,h,fun j hj=>match j,hj with
 | 0,_=>rfl
 | 1,_=>rfl
 | j+2,hj=>absurd hj (by simp)⟩
theorem zHA(w:World)(b o:Nat)(I:List yH)(C:List (Bs × Nat))(rs:List MX)(G:List Bool)(h:KQ w b o I C rs G)(hI:sV I)(hr:∀x∈rs,Qx I C.length x.1) :
 Calls Tryz.prog 38 #[.pointer (some ⟨b,o,none⟩)] w fun e w'=>Q2 I C rs G w w' e:=by
 have hf:=h.few3;have hfC:=h.few2;have hfI:=h.few1;have HMd:=zA (fun w' (hb:Below w.heap.size w w')=>(h.below hb));have HRl:=zA (fun w' (hb:Below w.heap.size w w')=>(h.below hb).rul);have HRv:=zA (fun w' (hb:Below w.heap.size w w') (i j:Nat) (hi:i<rs.length) (hj:j<rs.length)=>UB w' b o I C rs G i j (h.below hb) hi hj)
 have HNw:Hid (∀w' (_:Below w.heap.size w w') (i j:Nat) (_:i<rs.length) (_:j<rs.length),Calls Tryz.prog 71 #[.pointer (some ⟨b,o,none⟩),qW (pQ rs i),qW (pQ rs j)] w' fun e w2=>∃SR gi gh,e=.returned (.agg SR)/\SR.size=15/\(Tryz.prog.info? 184).map (·.size)=some SR.size/\SR.all (·.oneCell')=true/\Below w'.heap.size w' w2/\∀(b:Nat) (wr:World),Below w2.heap.size w2 wr->w2.heap.size<=b->wr.heap[b]? = some (.cells SR 184 (0,0))->Calls Tryz.prog 72 #[.pointer (some ⟨b,0,none⟩),.int .i64 0] wr fun e w3=>Qv I C.length (pQ rs i) (pQ rs j) w'.heap.size b gi gh wr w3 e):=fun w' hb i j hi hj=>by
  have hm:=h.below hb;obtain⟨a1,c1,p1,q1⟩:=hm.inp;obtain⟨a2,c2,p2,q2⟩:=hm.con;have hx:=hm.rows _ (aD hi);have hy:=hm.rows _ (aD hj);have ox:=hr _ (aD hi);have oy:=hr _ (aD hj);refine(V6 w' b o I C.length (pQ rs i) (pQ rs j) a1 a2 c1 c2 p1 p2 q1 hx hy (by omega) hfC (fun k z hz=>?_) (Db I _ _ hx.few2 hy.few2)).mono ?_
  ·rcases List.mem_append.mp hz with h|h
   ·exact ox.bd k z h
   ·exact oy.bd k z h
  ·intro e w2 hp
   exact ue w' w2 I C.length (pQ rs i) (pQ rs j) e hp hI hfC hx hy ox oy
 have HSe:=zA (fun w' (hb:Below w.heap.size w w') (gi gh:Nat) (f:Nat->Int) (g:Nat->Bool) (h1:jE w' gi 3 I.length (fun i=>.int .i64 (f i))) (h2:jE w' gh 4 C.length (fun c=>.bool (g c)))=>Vj w' b o I C rs G gi gh f g (h.below hb) h1 h2)
 have HSl:Hid (∀i,i<rs.length->(∃a c,(pQ rs i).2.1=.slice a (pQ rs i).1.sum.length c)/\∃a c,(pQ rs i).2.2=.slice a (pQ rs i).1.guard.length c):=fun i hi=>by
  obtain⟨a,c,e,-⟩:=(h.rows _ (aD hi)).sum;obtain⟨a',c',e',-⟩:=(h.rows _ (aD hi)).guard;exact⟨⟨a,c,e⟩,a',c',e'⟩
 have HCl:Hid (∀i k,Fm I C.length rs G i k ↔ (i<k/\k<rs.length/\BE rs G i k=true/\zBL I C.length (pQ rs i).1 (pQ rs k).1)):=fun _ _=>Iff.rfl;have HFp:Hid (∀w' e,Below w.heap.size w w'->((∃(i j:Nat) (f:Nat->Int) (g:Nat->Bool) (la:Option Addr) (sv:Value),Da (Fm I C.length rs G) i j/\e=.returned (.agg #[.slice la 2 2,sv])/\pE w' la [.string ⟨(pQ rs i).1.label.toArray⟩,.string ⟨(pQ rs j).1.label.toArray⟩]/\(∃sa sc,sv=.slice sa (I.length+C.length) sc/\pE w' sa (lI I f I.length++dY C g C.length))/\oS I C.length (JT I C.length f g)/\tP (pQ rs i).1 (JT I C.length f g)=true/\tP (pQ rs j).1 (JT I C.length f g)=true)\/((∀i j,¬Fm I C.length rs G i j)/\e=.returned (.agg #[.slice none 0 0,.slice none 0 0])))->Q2 I C rs G w w' e):=fun w' e h1 h2=>⟨h1,h2⟩;clear h hI hr HMd;generalize Fm I C.length rs G=R at *;generalize Q2 I C rs G w=Q at *
 go_enter Tryz.func38,Tryz.ntmps38
 obtain⟨ra,rc,d2,-⟩:=HRl.out w (tl _ _);have lb:=zT d2;have m0:w.heap.size≠b:=by omega
 have HB0:Hid (Below w.heap.size w (w.alloc (.cells #[.slice none 0 0,.slice none 0 0] 101))):=gj (t9 _) _;have HX0:Hid ((w.alloc (.cells #[.slice none 0 0,.slice none 0 0] 101)).heap[w.heap.size]? = some (.cells #[.slice none 0 0,.slice none 0 0] 101 (0,0))):=zM _ _;have hs0:(w.alloc (.cells #[.slice none 0 0,.slice none 0 0] 101)).heap.size=w.heap.size+1:=by simp
 go_wp2_with fail
 generalize w.alloc (.cells #[.slice none 0 0,.slice none 0 0] 101)=w0 at *;have HG:Hid (∀wr,Below (w.heap.size+1) w0 wr->Below w.heap.size w wr/\wr.heap[w.heap.size]? = some (.cells #[.slice none 0 0,.slice none 0 0] 101 (0,0))):=fun wr hb=>⟨HB0.out.trans (hb.mono (bm _)),(hb.block _ (mh _)).trans HX0.out⟩;clear HB0 HX0
 go_loopw [13] (fun iv wr=>∃(i:Nat),i<=rs.length/\iv=.int .i64 i/\Hid (Below (w.heap.size+1) w0 wr)/\Hid (∀i' k',R i' k'->i<=i')) (fun iv _=>rs.length-(intOf iv).toNat)
 case atStart=>exact⟨0,tr _,rfl,zA (tl _ _),zA fun _ _ _=>tr _⟩
 case round =>
  obtain⟨i,hi,rfl,HB,HM⟩:=hrel;have zIJ:=HB.out.size;obtain⟨zJB,hX⟩:=HG.out wr HB.out;obtain⟨ra',rc',d2',zJ8⟩:=HRl.out wr zJB
  obtain⟨e1,e2⟩:ra'=ra/\rc'=rc:=by
   have:=(zJB.cell (p:=⟨b,o+2,none⟩) lb).trans d2;rw[this]at d2';simp only[cx,Value.slice.injEq]at d2';exact⟨d2'.1.symm,d2'.2.2.symm⟩
  subst e1 e2;by_cases zIB:i<rs.length
  ·have ii:(i:Int)<(rs.length:Int):=by omega
   have HM1:Hid (∀i' k',R i' k'->i<i'\/(i=i'/\0<=k')):=fun i' k' h=>by
    have:=HM.out i' k' h;omega
   obtain⟨g,rfl,i0,i1,i2,i3,i4⟩:=Zg zJ8.cel zIB;obtain⟨⟨p1,p2,e1⟩,p3,p4,e2⟩:=HSl.out i zIB;rw[e1]at i2;rw[e2]at i3;have lg:=zT i0;have lbr:b<wr.heap.size:=by have:=zJB.size;omega
   have m1:wr.heap.size≠g:=by omega
   have m2:wr.heap.size≠b:=by omega
   have HEq:Hid (qW (pQ rs i)=.agg #[.string ⟨(pQ rs i).1.label.toArray⟩,.int .i64 (pQ rs i).1.conc,.slice p1 (pQ rs i).1.sum.length p2,.slice p3 (pQ rs i).1.guard.length p4,.int .i64 (pQ rs i).1.root]):=by
    show qW (pQ rs i)=_;unfold qW;rw[e1,e2]
   have HLi:Hid (∃l,l=(pQ rs i).1.label):=⟨_,rfl⟩;clear hX zJB zJ8 e1 e2;generalize hxl:(pQ rs i).1.label=xl at *;generalize (pQ rs i).1.conc=xc at *;generalize (pQ rs i).1.sum.length=xn at *;generalize (pQ rs i).1.guard.length=xm at *;generalize (pQ rs i).1.root=xr at *;have HBe:=zA (HB.out.alloc (show w.heap.size+1<=wr.heap.size by omega) (.cells #[.string ⟨xl.toArray⟩,.int .i64 xc,.slice p1 xn p2,.slice p3 xm p4,.int .i64 xr] 176));have HXe:Hid ((wr.alloc (.cells #[.string ⟨xl.toArray⟩,.int .i64 xc,.slice p1 xn p2,.slice p3 xm p4,.int .i64 xr] 176)).heap[wr.heap.size]? = some (.cells #[.string ⟨xl.toArray⟩,.int .i64 xc,.slice p1 xn p2,.slice p3 xm p4,.int .i64 xr] 176 (0,0))):=zM _ _;have hse:(wr.alloc (.cells #[.string ⟨xl.toArray⟩,.int .i64 xc,.slice p1 xn p2,.slice p3 xm p4,.int .i64 xr] 176)).heap.size=wr.heap.size+1:=by simp
   go_wp2_with fail
   generalize wr.alloc (.cells #[.string ⟨xl.toArray⟩,.int .i64 xc,.slice p1 xn p2,.slice p3 xm p4,.int .i64 xr] 176)=wE at *;clear i0 i1 i2 i3 i4 d2' m1 m2;have hsw:w.heap.size+1<=wr.heap.size:=by omega
   generalize wr.heap.size=eb at *;have HGe:Hid (∀wx,Below (eb+1) wE wx->Below (w.heap.size+1) w0 wx/\wx.heap[eb]? = some (.cells #[.string ⟨xl.toArray⟩,.int .i64 xc,.slice p1 xn p2,.slice p3 xm p4,.int .i64 xr] 176 (0,0))):=fun wx hb=>⟨HBe.out.trans (hb.mono (by omega)),(hb.block _ (mh _)).trans HXe.out⟩;clear HBe HXe
   go_loopw [23] (fun kv wy=>∃(k:Nat),k<=rs.length/\kv=.int .i64 k/\Hid (Below (eb+1) wE wy)/\Hid (∀i' k',R i' k'->i<i'\/(i=i'/\k<=k'))) (fun kv _=>rs.length-(intOf kv).toNat)
   case atStart=>exact⟨0,tr _,rfl,zA (tl _ _),HM1⟩
   case round =>
    obtain⟨k,hk,rfl,HBy,HMk⟩:=hrel;have hszy:=HBy.out.size;by_cases zJA:k<rs.length
    ·have kk:(k:Int)<(rs.length:Int):=by omega
     obtain⟨hB0,hE⟩:=HGe.out wr HBy.out;obtain⟨zJB,hX⟩:=HG.out wr hB0;obtain⟨ra2,rc2,d3,zJ8⟩:=HRl.out wr zJB
     obtain⟨e1,e2⟩:ra2=some ⟨g,0,none⟩/\rc2=rc':=by
      have:=(zJB.cell (p:=⟨b,o+2,none⟩) lb).trans d2;rw[this]at d3;simp only[cx,Value.slice.injEq]at d3;exact⟨d3.1.symm,d3.2.2.symm⟩
     subst e1 e2;obtain⟨g',e',k0,k1,k2,k3,k4⟩:=Zg zJ8.cel zJA;obtain rfl:g=g':=by simpa using e'
     obtain⟨⟨q1,q2,e1⟩,q3,q4,e2⟩:=HSl.out k zJA;rw[e1]at k2;rw[e2]at k3;have lg2:=zT k0;have m1:wr.heap.size≠g:=by omega
     have HKq:Hid (qW (pQ rs k)=.agg #[.string ⟨(pQ rs k).1.label.toArray⟩,.int .i64 (pQ rs k).1.conc,.slice q1 (pQ rs k).1.sum.length q2,.slice q3 (pQ rs k).1.guard.length q4,.int .i64 (pQ rs k).1.root]):=by
      show qW (pQ rs k)=_;unfold qW;rw[e1,e2]
     have HCk:=zA (HCl.out i k)
     have HNx:Hid (¬R i k->∀i' k',R i' k'->i<i'\/(i=i'/\k+1<=k')):=fun hn i' k' h=>by
      have h1:=HMk.out i' k' h;rcases h1 with h1|⟨h1,h2⟩
      ·exact .inl h1
      ·by_cases hkk:k=k'
       ·subst h1 hkk;exact absurd h hn
       ·exact .inr ⟨h1,by omega⟩
     have HYs:Hid (R i k->∀w' (la:Option Addr) (sv:Value) (f:Nat->Int) (gg:Nat->Bool),Below w.heap.size w w'->pE w' la [.string ⟨xl.toArray⟩,.string ⟨(pQ rs k).1.label.toArray⟩]->(∃sa sc,sv=.slice sa (I.length+C.length) sc/\pE w' sa (lI I f I.length++dY C gg C.length))->oS I C.length (JT I C.length f gg)->tP (pQ rs i).1 (JT I C.length f gg)=true->tP (pQ rs k).1 (JT I C.length f gg)=true->Q w' (.returned (.agg #[.slice la 2 2,sv]))):=fun h w' la sv f gg hb h1 h2 h3 h4 h5=>HFp.out w' _ hb (.inl ⟨i,k,f,gg,la,sv,⟨h,HMk.out⟩,rfl,by rw[hxl];exact h1,h2,h3,h4,h5⟩);have HRk:=zA (fun w' hb=>HRv.out w' hb i k zIB zJA);have HNk:=zA (fun w' hb=>HNw.out w' hb i k zIB zJA);rw[HEq.out,HKq.out]at HNk;clear zJ8 e' e1 e2 hE hX hB0 zJB HKq;generalize (pQ rs k).1.label=yl at *;generalize (pQ rs k).1.conc=yc at *;generalize (pQ rs k).1.sum.length=yn at *;generalize (pQ rs k).1.guard.length=ym at *;generalize (pQ rs k).1.root=yr at *;generalize BE rs G i k=rv at *;have HBl:=zA (HBy.out.alloc (show eb+1<=wr.heap.size by omega) (.cells #[.string ⟨yl.toArray⟩,.int .i64 yc,.slice q1 yn q2,.slice q3 ym q4,.int .i64 yr] 176));have HXl:Hid ((wr.alloc (.cells #[.string ⟨yl.toArray⟩,.int .i64 yc,.slice q1 yn q2,.slice q3 ym q4,.int .i64 yr] 176)).heap[wr.heap.size]? = some (.cells #[.string ⟨yl.toArray⟩,.int .i64 yc,.slice q1 yn q2,.slice q3 ym q4,.int .i64 yr] 176 (0,0))):=zM _ _;have hsl:(wr.alloc (.cells #[.string ⟨yl.toArray⟩,.int .i64 yc,.slice q1 yn q2,.slice q3 ym q4,.int .i64 yr] 176)).heap.size=wr.heap.size+1:=by simp
     go_upto_region 7 with fail
     generalize wr.alloc (.cells #[.string ⟨yl.toArray⟩,.int .i64 yc,.slice q1 yn q2,.slice q3 ym q4,.int .i64 yr] 176)=wL at *;clear k0 k1 k2 k3 k4 d3 m1;have hse2:eb+1<=wr.heap.size:=by omega
     generalize wr.heap.size=lb2 at *
     have HGl:Hid (∀wx,Below (lb2+1) wL wx->Below (eb+1) wE wx/\Below w.heap.size w wx/\wx.heap[w.heap.size]? = some (.cells #[.slice none 0 0,.slice none 0 0] 101 (0,0))/\wx.heap[eb]? = some (.cells #[.string ⟨xl.toArray⟩,.int .i64 xc,.slice p1 xn p2,.slice p3 xm p4,.int .i64 xr] 176 (0,0))/\wx.heap[lb2]? = some (.cells #[.string ⟨yl.toArray⟩,.int .i64 yc,.slice q1 yn q2,.slice q3 ym q4,.int .i64 yr] 176 (0,0))):=fun wx hb=>by
      have h1:=HBl.out.trans (hb.mono (by omega));obtain⟨h2,h3⟩:=HGe.out wx h1;obtain⟨h4,h5⟩:=HG.out wx h2;exact⟨h1,h4,h5,h3,(hb.block _ (mh _)).trans HXl.out⟩
     clear HBl HXl;have HB7:=zA (HGl.out wL (tl _ _)).1;by_cases hik:i<k
     ·have gg:¬(k:Int)<=(i:Int):=by omega
      have HRw:=zA (HRk.out wL (HGl.out wL (tl _ _)).2.1);go_wp2_with fail
      refine HRw.out.mono ?_;rintro e w2 ⟨rfl,hb2⟩;have HB2:Hid (Below (lb2+1) wL w2):=by rw[hsl]at hb2;exact hb2
      clear hb2 HRw;cases rv
      ·have HNn:=zA (HNx.out (fun h=>by have:=(HCk.out.1 h).2.2.1;cases this))
       have HBn:=zA (HGl.out w2 HB2.out).1;go_wp2_with fail
       go_roundw
       case rel=>exact⟨k+1,by omega,by go_num,HBn,HNn⟩
       case measure=>simp[intOf];omega
      ·obtain⟨-,hBw2,-,hE2,hL2⟩:=HGl.out w2 HB2.out
       have x0:w2.cell? ⟨eb,0,none⟩=some (.string ⟨xl.toArray⟩):=(zD hE2 0).trans rfl;have x1:w2.cell? ⟨eb,1,none⟩=some (.int .i64 xc):=(zD hE2 1).trans rfl;have x2:w2.cell? ⟨eb,2,none⟩=some (.slice p1 xn p2):=(zD hE2 2).trans rfl;have x3:w2.cell? ⟨eb,3,none⟩=some (.slice p3 xm p4):=(zD hE2 3).trans rfl;have x4:w2.cell? ⟨eb,4,none⟩=some (.int .i64 xr):=(zD hE2 4).trans rfl;have y0:w2.cell? ⟨lb2,0,none⟩=some (.string ⟨yl.toArray⟩):=(zD hL2 0).trans rfl;have y1:w2.cell? ⟨lb2,1,none⟩=some (.int .i64 yc):=(zD hL2 1).trans rfl;have y2:w2.cell? ⟨lb2,2,none⟩=some (.slice q1 yn q2):=(zD hL2 2).trans rfl;have y3:w2.cell? ⟨lb2,3,none⟩=some (.slice q3 ym q4):=(zD hL2 3).trans rfl;have y4:w2.cell? ⟨lb2,4,none⟩=some (.int .i64 yr):=(zD hL2 4).trans rfl;have HNz:=zA (HNk.out w2 hBw2);have hs2:lb2+1<=w2.heap.size:=by have:=HB2.out.size;omega
       clear hBw2 hE2 hL2 HNk HRk HNw HRv;go_wp2_with fail
       refine HNz.out.mono ?_;rintro e w3 ⟨SR,gi,gh,rfl,zIQ,hinf,hone,hb3,hsk⟩;have HIf:=zA hinf;have HSz:=zA zIQ;have HAl:=zA hone;have HB3:=zA hb3;have HSk:=zA hsk;have hs3:=hb3.size;clear hinf zIQ hone hb3 hsk HNz x0 x1 x2 x3 x4 y0 y1 y2 y3 y4;have HZr:Hid ((w3.alloc (.cells #[.string ⟨#[]⟩,.int .i64 0,.slice none 0 0,.slice none 0 0,.int .i64 0,.string ⟨#[]⟩,.int .i64 0,.slice none 0 0,.slice none 0 0,.int .i64 0,.slice none 0 0,.slice none 0 0,.slice none 0 0,.slice none 0 0,.slice none 0 0] 184)).heap[w3.heap.size]? = some (.cells Dc 184 (0,0))):=zM _ _;have HBs:Hid (Below w3.heap.size w3 ((w3.alloc (.cells Dc 184)).setRow w3.heap.size SR)):=xA (gj (t9 _) _) (t9 _) _;have HXs:Hid (((w3.alloc (.cells Dc 184)).setRow w3.heap.size SR).heap[w3.heap.size]? = some (.cells SR 184 (0,0))):=lk _ _ Dc _ _ _ (zM w3 _);unfold Dc at HBs HXs
       go_wp2_with (refine wpList_store_row ?zIO 184 (.tmp 7) (.tmp 41) ?ho w3.heap.size SR ?hx ?hy 184 Dc HZr.out HIf.out ?zIN HAl.out ?_
                    case ho=>rfl
                    case zIO=>rfl
                    case hx=>rfl
                    case hy=>rfl
                    case zIN=>rw[HSz.out];rfl)
       generalize (w3.alloc (.cells #[.string ⟨#[]⟩,.int .i64 0,.slice none 0 0,.slice none 0 0,.int .i64 0,.string ⟨#[]⟩,.int .i64 0,.slice none 0 0,.slice none 0 0,.int .i64 0,.slice none 0 0,.slice none 0 0,.slice none 0 0,.slice none 0 0,.slice none 0 0] 184)).setRow w3.heap.size SR=wS at *;refine(HSk.out w3.heap.size wS HBs.out (t9 _) HXs.out).mono ?_;rintro e w4 ⟨r,rfl,hb4,hno,hyes⟩;have HB4:Hid (Below (lb2+1) wL w4):=(HB2.out.trans ((HB3.out.trans (HBs.out.mono hs3)).mono hs2)).trans (hb4.mono hs2);clear HIf HSz HAl HSk HZr HBs HXs hb4;cases r
       ·have HNn:=zA (HNx.out (fun h=>hno rfl (HCk.out.1 h).2.2.2))
        have HBn:=zA (HGl.out w4 HB4.out).1;clear hno hyes;go_wp2_with fail
        go_roundw
        case rel=>exact⟨k+1,by omega,by go_num,HBn,HNn⟩
        case measure=>simp[intOf];omega
       ·obtain⟨f,gg,⟨s12,s13,s14⟩,hrI,hrH,hroom,ha1,ha2⟩:=hyes rfl
        have hRik:R i k:=HCk.out.2 ⟨hik,zJA,by first|trivial|rfl,_,hroom,ha1,ha2⟩;obtain⟨-,hBw4,hX4,hE4,hL4⟩:=HGl.out w4 HB4.out;have hsw4:=hBw4.size;have HPo:=zA (fun w' la sv hb h1 h2=>HYs.out hRik w' la sv f gg hb h1 h2 hroom ha1 ha2)
        have HSw:Hid (∀w',Below w4.heap.size w4 w'->Calls Tryz.prog 73 #[.pointer (some ⟨b,o,none⟩),.agg #[.slice (some ⟨gi,0,none⟩) I.length I.length,.slice (some ⟨gh,0,none⟩) C.length C.length,.slice none 0 0]] w' fun e w5=>∃sa sc,e=.returned (.slice sa (I.length+C.length) sc)/\uN w5 128 sa (lI I f I.length++dY C gg C.length)/\Below w'.heap.size w' w5):=fun w' hb=>by
         refine(HSe.out w' (hBw4.trans (hb.mono hsw4)) gi gh f gg (hrI.below hb) (hrH.below hb)).mono ?_;rintro e w5 ⟨v,rfl,h1,h2⟩;obtain⟨sa,sc,rfl,h3⟩:=jO h1;exact⟨sa,sc,rfl,h3,h2⟩
        have lsb:=zT s12;have lsb2:lb2<w3.heap.size:=by omega
        have lre:=yI hX4;have lee:=yI hE4;have lle:=yI hL4
        have HAf:Hid (∀w5,Below w4.heap.size w4 w5->(w5.cell? ⟨eb,0,none⟩=some (.string ⟨xl.toArray⟩)/\w5.cell? ⟨lb2,0,none⟩=some (.string ⟨yl.toArray⟩)/\w5.cell? ⟨w3.heap.size,12,none⟩=some (.slice (some ⟨gi,0,none⟩) I.length I.length)/\w5.cell? ⟨w3.heap.size,13,none⟩=some (.slice (some ⟨gh,0,none⟩) C.length C.length)/\w5.cell? ⟨w3.heap.size,14,none⟩=some (.slice none 0 0))/\(w5.cell? ⟨w.heap.size,0,none⟩=some (.slice none 0 0)/\w5.cell? ⟨w.heap.size,1,none⟩=some (.slice none 0 0)/\w5.frozen? ⟨w.heap.size,0,none⟩=false/\w5.frozen? ⟨w.heap.size,1,none⟩=false)/\Below w.heap.size w w5/\w5.heap[w.heap.size]? = some (.cells #[.slice none 0 0,.slice none 0 0] 101 (0,0))/\w.heap.size<w5.heap.size):=fun w5 hb=>by
         have hR5:=(hb.block _ lre).trans hX4;have hE5:=(hb.block _ lee).trans hE4;have hL5:=(hb.block _ lle).trans hL4;exact⟨⟨(zD hE5 0).trans rfl,(zD hL5 0).trans rfl,(hb.cell (p:=⟨w3.heap.size,12,none⟩) lsb).trans s12,(hb.cell (p:=⟨w3.heap.size,13,none⟩) lsb).trans s13,(hb.cell (p:=⟨w3.heap.size,14,none⟩) lsb).trans s14⟩,⟨(zD hR5 0).trans rfl,(zD hR5 1).trans rfl,by simp[World.frozen?,hR5],by simp[World.frozen?,hR5]⟩,hBw4.trans (hb.mono hsw4),hR5,yI hR5⟩
        obtain⟨⟨t0,t1,t2,t3,t4⟩,⟨t5,t6,t7,t8⟩,-,-,-⟩:=HAf.out w4 (tl _ _);clear hroom ha1 ha2 hrI hrH s12 s13 s14 hX4 hE4 hL4 hBw4 hno hyes HYs HCk HSe;generalize lI I f I.length++dY C gg C.length=SV at *;generalize w3.heap.size=sb at *;have n1:w4.heap.size≠eb:=by omega
        have n2:w4.heap.size≠lb2:=by omega
        have n3:w4.heap.size≠sb:=by omega
        have n4:w4.heap.size≠w.heap.size:=by omega
        have a1:w.heap.size≠eb:=by omega
        have a2:w.heap.size≠lb2:=by omega
        have a3:w.heap.size≠sb:=by omega
        have a4:eb≠w.heap.size:=by omega
        have a5:lb2≠w.heap.size:=by omega
        have a6:sb≠w.heap.size:=by omega
        go_upto_region 10 with fail
        go_region_held3 (fun w'=>w'.cell? ⟨eb,0,none⟩=some (.string ⟨xl.toArray⟩)/\w'.cell? ⟨lb2,0,none⟩=some (.string ⟨yl.toArray⟩)/\w'.cell? ⟨sb,12,none⟩=some (.slice (some ⟨gi,0,none⟩) I.length I.length)/\w'.cell? ⟨sb,13,none⟩=some (.slice (some ⟨gh,0,none⟩) C.length C.length)/\w'.cell? ⟨sb,14,none⟩=some (.slice none 0 0)) (go_keep) (
         (go_at_call 73;first
          | (refine(HSw.out _ (me (tl _ _))).mono ?_;rintro e w5 ⟨sa,sc,rfl,hcv,hb5⟩;obtain⟨⟨r0,r1,r2,r3,r4⟩,⟨z0,z1,z2,z3⟩,hB5,hR5,hl5⟩:=HAf.out w5 ((me (tl _ _)).trans hb5);have hs45:w4.heap.size<=w5.heap.size:=((me (tl w4.heap.size w4)).trans hb5).size;have n5:w5.heap.size≠eb:=(by omega);have n6:w5.heap.size≠w.heap.size:=(by omega);have n7:w5.heap.size≠lb2:=(by omega);have n8:w5.heap.size≠sb:=(by omega))
          | (refine(HSw.out _ ((tl w4.heap.size w4).drew.alloc (t9 _) _)).mono ?_;rintro e w5 ⟨sa,sc,rfl,hcv,hb5⟩;obtain⟨⟨r0,r1,r2,r3,r4⟩,⟨z0,z1,z2,z3⟩,hB5,hR5,hl5⟩:=HAf.out w5 (((tl w4.heap.size w4).drew.alloc (t9 _) _).trans (hb5.mono (by simp))))))
        ·have hlab:w5.heap[w4.heap.size]? = some (.cells #[.string ⟨xl.toArray⟩,.string ⟨yl.toArray⟩] 9 (0,0)):=(hb5.block _ (yK _ _)).trans (zM _ _)
         have HQ:=zA (HPo.out ((w5.setCell ⟨w.heap.size,0,none⟩ (.slice (some ⟨w4.heap.size,0,none⟩) 2 2)).setCell ⟨w.heap.size,1,none⟩ (.slice sa (I.length+C.length) sc)) (some ⟨w4.heap.size,0,none⟩) (.slice sa (I.length+C.length) sc) ((hB5.setCell (by simp) _).setCell (by simp) _) (KC hR5 (DI hlab) (by decide)).cel ⟨sa,sc,rfl,(KC hR5 hcv (by decide)).cel⟩);have HFr:=zA (JX (c:=.slice (some ⟨w4.heap.size,0,none⟩) 2 2) (d:=.slice sa (I.length+C.length) sc) hR5);go_wp2_with fail
         refine ph (v:=.agg #[.slice (some ⟨w4.heap.size,0,none⟩) 2 2,.slice sa (I.length+C.length) sc]) (results_cell_row Tryz.results38 _ _ w.heap.size 101 #[.slice (some ⟨w4.heap.size,0,none⟩) 2 2,.slice sa (I.length+C.length) sc] (0,0) _ rfl HFr.out Tryz.underlying101 rfl (K4 _ _)) rfl HQ.out
        ·have hlab:(((w5.setCell ⟨w.heap.size,0,none⟩ (.slice (some ⟨w5.heap.size,0,none⟩) 2 2)).setCell ⟨w.heap.size,1,none⟩ (.slice sa (I.length+C.length) sc)).alloc (.cells #[.string ⟨xl.toArray⟩,.string ⟨yl.toArray⟩] 9)).heap[w5.heap.size]? = some (.cells #[.string ⟨xl.toArray⟩,.string ⟨yl.toArray⟩] 9 (0,0)):=xY _ _ _ (by simp)
         have hbe:Below w.heap.size w ((w5.setCell ⟨w.heap.size,0,none⟩ (.slice (some ⟨w5.heap.size,0,none⟩) 2 2)).setCell ⟨w.heap.size,1,none⟩ (.slice sa (I.length+C.length) sc)):=(hB5.setCell (by simp) _).setCell (by simp) _;have HQ:=zA (HPo.out (((w5.setCell ⟨w.heap.size,0,none⟩ (.slice (some ⟨w5.heap.size,0,none⟩) 2 2)).setCell ⟨w.heap.size,1,none⟩ (.slice sa (I.length+C.length) sc)).alloc (.cells #[.string ⟨xl.toArray⟩,.string ⟨yl.toArray⟩] 9)) (some ⟨w5.heap.size,0,none⟩) (.slice sa (I.length+C.length) sc) (hbe.alloc hbe.size _) (DI hlab).cel ⟨sa,sc,rfl,((KC hR5 hcv (by decide)).below (gj (t9 _) _)).cel⟩);have HFr:Hid ((((w5.setCell ⟨w.heap.size,0,none⟩ (.slice (some ⟨w5.heap.size,0,none⟩) 2 2)).setCell ⟨w.heap.size,1,none⟩ (.slice sa (I.length+C.length) sc)).alloc (.cells #[.string ⟨xl.toArray⟩,.string ⟨yl.toArray⟩] 9)).heap[w.heap.size]? = some (.cells #[.slice (some ⟨w5.heap.size,0,none⟩) 2 2,.slice sa (I.length+C.length) sc] 101 (0,0))):=yJ (JX hR5);clear hlab hbe;go_wp2_with fail
         refine ph (v:=.agg #[.slice (some ⟨w5.heap.size,0,none⟩) 2 2,.slice sa (I.length+C.length) sc]) (results_cell_row Tryz.results38 _ _ w.heap.size 101 #[.slice (some ⟨w5.heap.size,0,none⟩) 2 2,.slice sa (I.length+C.length) sc] (0,0) _ rfl HFr.out Tryz.underlying101 rfl (K4 _ _)) rfl HQ.out
     ·have gg:(k:Int)<=(i:Int):=by omega
      have HNn:=zA (HNx.out (fun h=>hik (HCk.out.1 h).1));go_wp2_with fail
      go_roundw
      case rel=>exact⟨k+1,by omega,by go_num,HB7,HNn⟩
      case measure=>simp[intOf];omega
    ·obtain rfl:k=rs.length:=by omega
     have kk:¬(rs.length:Int)<(rs.length:Int):=by omega
     have HNo:Hid (∀i' k',R i' k'->i+1<=i'):=fun i' k' h=>by
      have h1:=HMk.out i' k' h;have h2:=((HCl.out i' k').1 h).2.1;omega
     have HBn:=zA (HGe.out _ HBy.out).1;go_wp2_with fail
     go_roundw
     case rel=>exact⟨i+1,by omega,by go_num,HBn,HNo⟩
     case measure=>simp[intOf];omega
  ·obtain rfl:i=rs.length:=by omega
   have ii:¬(rs.length:Int)<(rs.length:Int):=by omega
   have HQ:=zA (HFp.out ((wr.setCell ⟨w.heap.size,0,none⟩ (.slice none 0 0)).setCell ⟨w.heap.size,1,none⟩ (.slice none 0 0)) (.returned (.agg #[.slice none 0 0,.slice none 0 0])) ((zJB.setCell (by simp) _).setCell (by simp) _) (.inr ⟨fun i' k' h=>by
    have h1:=HM.out i' k' h;have h2:=(HCl.out i' k').1 h;omega,rfl⟩))
   have HFr:=zA (JX (c:=.slice none 0 0) (d:=.slice none 0 0) hX);have z0:wr.cell? ⟨w.heap.size,0,none⟩=some (.slice none 0 0):=(zD hX 0).trans rfl;have z1:wr.cell? ⟨w.heap.size,1,none⟩=some (.slice none 0 0):=(zD hX 1).trans rfl;have y0:wr.frozen? ⟨w.heap.size,0,none⟩=false:=by simp[World.frozen?,hX]
   have y1:wr.frozen? ⟨w.heap.size,1,none⟩=false:=by simp[World.frozen?,hX]
   go_wp2_with fail
   refine ph (v:=.agg #[.slice none 0 0,.slice none 0 0]) (results_cell_row Tryz.results38 _ _ w.heap.size 101 #[.slice none 0 0,.slice none 0 0] (0,0) _ rfl HFr.out Tryz.underlying101 rfl (K4 _ _)) rfl HQ.out
theorem YP{cv rv:Value}(k:Int)(hj:j<3+G.length):(mO iv cv rv G k)[j]? = (dM iv cv rv G)[j]? := by
 unfold mO;rw[dt (by rw[lS];exact hj)]
theorem KQ.made{cv rv:Value}{I:List yH}{C:List (Bs × Nat)}(h:w.heap[b]? = some (XB iv cv rv G 0))(hG:G.length=64)(hc:dC w iv cv rv I C rs)(hf:I.length<=100):KQ w b 0 I C rs G:=by
 unfold XB at h;obtain⟨g0,g1,g2⟩:=Kt iv cv rv G;obtain⟨a1,c1,e1,k1⟩:=hc.inp;obtain⟨a2,c2,e2,k2⟩:=hc.con;obtain⟨a3,c3,e3,k3⟩:=hc.rul;refine⟨⟨a1,c1,?_,k1⟩,⟨a2,c2,?_,k2⟩,⟨a3,c3,?_,k3⟩,hc.rows,fun k hk=>?_,hf,hc.few2,hc.few3⟩
 ·rw[<-e1];exact((zD h 0).trans (YP 0 (by omega))).trans g0
 ·rw[<-e2];exact((zD h 1).trans (YP 0 (by omega))).trans g1
 ·rw[<-e3];exact((zD h 2).trans (YP 0 (by omega))).trans g2
 ·rw[l8];exact((zD h (3+k)).trans (YP 0 (by omega))).trans (XF iv cv rv G k (by omega))
def Uh(F:List zF):List Bool:=xB (kZ (xH F) F gZ)
theorem DV(F:List zF):(Uh F).length=64:=by unfold Uh xB;rw[rJ,cH];exact xP
structure zFA(F:List zF):Prop where
 few:(yM F).length<=100
 inp:sV (yM F)
 rul:∀x∈kN ((yM F).map yH.name) ((uY F).map Prod.fst) F,Qx (yM F) (uY F).length x
def Qt(F:List zF)(w w':World)(e:Ending):Prop:=∃rs:List MX,rs.map Prod.fst=kN ((yM F).map yH.name) ((uY F).map Prod.fst) F/\Below w.heap.size w w'/\((∃b:Nat,e=.returned (.tuple #[.pointer (some ⟨b,0,none⟩),.int .i64 0])/\∀i j,¬Fm (yM F) (uY F).length rs (Uh F) i j)\/(e=.returned (.tuple #[.pointer none,.int .i64 8])/\∃i j,Fm (yM F) (uY F).length rs (Uh F) i j))
theorem UK(l:Bs)(w:World)(k:Int)(hk:k≠0)(hR:Calls Tryz.prog 37 #[.string ⟨l.toArray⟩] w fun e w'=>e=.returned (.agg (mO xD xD xD gZ k))/\Below w.heap.size w w') :
 Calls Tryz.prog 26 #[.string ⟨l.toArray⟩,.bool true] w fun e w'=>e=.returned (.tuple #[.pointer none,.int .i64 k])/\Below w.heap.size w w':=by
 have HR:=zA hR;have b0:(k != 0)=true:=by simpa using hk
 clear hR hk
 go_enter Tryz.func26,Tryz.ntmps26
 go_wp2_with fail
 refine HR.out.mono ?_;rintro e w1 ⟨rfl,hb⟩;have HB:=zA hb;have hs:=hb.size;clear hb HR;have zJ4:Hid ((w1.alloc (.cells Tryz.zeroCells98 98)).heap[w1.heap.size]? = some (.cells Tryz.zeroCells98 98 (0,0))):=zM _ _;have hM:((w1.alloc (.cells Tryz.zeroCells98 98)).setRow w1.heap.size (mO xD xD xD gZ k)).heap[w1.heap.size]? = some (XB xD xD xD gZ k):=lk _ _ _ _ _ _ zJ4.out;have c67:((w1.alloc (.cells Tryz.zeroCells98 98)).setRow w1.heap.size (mO xD xD xD gZ k)).cell? ⟨w1.heap.size,67,none⟩=some (.int .i64 k):=by unfold XB at hM;exact(zD hM 67).trans (YQ xP k)
 clear hM
 go_wp2_with (refine wpList_store_row ?zIO 98 (.tmp 6) (.tmp 9) ?ho w1.heap.size (mO xD xD xD gZ k) ?hx ?hy 98 Tryz.zeroCells98 zJ4.out (gH xP _ _ _ _) ?zIN (oB rfl rfl rfl _ _) ?_
              case ho=>rfl
              case zIO=>rfl
              case hx=>rfl
              case hy=>rfl
              case zIN=>rw[aF,kF,kF])
 go_quiet (fail)
 go_wp2_with fail
 go_ret2
 exact⟨rfl,yC (xA (HB.out.alloc hs _) hs _) _⟩
theorem QM(l:Bs)(w:World)(F:List zF)(hO:zFA F)(hR:Calls Tryz.prog 37 #[.string ⟨l.toArray⟩] w fun e w'=>sT F w w' e) :
 Calls Tryz.prog 26 #[.string ⟨l.toArray⟩,.bool true] w fun e w'=>Qt F w w' e:=by
 have HR:=zA hR;clear hR;have HGL:=zA (DV F);have HRN:Hid (∀w' e,sT F w w' e->∃iv cv rv rs,e=.returned (.agg (mO iv cv rv (Uh F) 0))/\rs.map Prod.fst=kN ((yM F).map yH.name) ((uY F).map Prod.fst) F/\dC w' iv cv rv (yM F) (uY F) rs/\Below w.heap.size w w'):=fun w' e h=>h;have HSI:Hid (∀w' e (rs:List MX),rs.map Prod.fst=kN ((yM F).map yH.name) ((uY F).map Prod.fst) F->Below w.heap.size w w'->((∃b:Nat,e=.returned (.tuple #[.pointer (some ⟨b,0,none⟩),.int .i64 0])/\∀i j,¬Fm (yM F) (uY F).length rs (Uh F) i j)\/(e=.returned (.tuple #[.pointer none,.int .i64 8])/\∃i j,Fm (yM F) (uY F).length rs (Uh F) i j))->Qt F w w' e):=fun w' e rs h1 h2 h3=>⟨rs,h1,h2,h3⟩
 have HFd:Hid (∀w' b rs iv cv rv,rs.map Prod.fst=kN ((yM F).map yH.name) ((uY F).map Prod.fst) F->w'.heap[b]? = some (XB iv cv rv (Uh F) 0)->dC w' iv cv rv (yM F) (uY F) rs->Calls Tryz.prog 38 #[.pointer (some ⟨b,0,none⟩)] w' fun e w2=>Below w'.heap.size w' w2/\((∃la sa sn sc,e=.returned (.agg #[.slice la 2 2,.slice sa sn sc])/\∃i j,Fm (yM F) (uY F).length rs (Uh F) i j)\/(e=.returned (.agg #[.slice none 0 0,.slice none 0 0])/\∀i j,¬Fm (yM F) (uY F).length rs (Uh F) i j))):=fun w' b rs iv cv rv h1 h2 h3=>by
  refine(zHA w' b 0 (yM F) (uY F) rs (Uh F) (KQ.made h2 (DV F) h3 hO.few) hO.inp (fun x hx=>hO.rul x.1 ?_)).mono ?_
  ·rw[<-h1];exact List.mem_map_of_mem hx
  ·rintro e w2 ⟨hb,⟨i,j,f,g,la,sv,hfp,rfl,-,⟨sa,sc,rfl,-⟩,-,-,-⟩|⟨hn,rfl⟩⟩
   ·exact⟨hb,.inl ⟨la,sa,_,sc,rfl,i,j,hfp.1⟩⟩
   ·exact⟨hb,.inr ⟨rfl,hn⟩⟩
 clear hO;generalize Uh F=G at *;generalize Qt F w=Q at *
 go_enter Tryz.func26,Tryz.ntmps26
 go_wp2_with fail
 refine HR.out.mono ?_;rintro e w1 hri;obtain⟨iv,cv,rv,rs,rfl,hrs,hmc,hb⟩:=HRN.out _ _ hri;obtain⟨o1,o2,o3⟩:=hmc.one;have HB:=zA hb;have HMc:=zA hmc;have hs:=hb.size;have HSJ:=zA (fun w' e=>HSI.out w' e rs hrs);have HFe:=zA (fun w' b=>HFd.out w' b rs iv cv rv hrs);clear hb HR hri hmc hrs HRN HSI HFd;have zJ4:Hid ((w1.alloc (.cells Tryz.zeroCells98 98)).heap[w1.heap.size]? = some (.cells Tryz.zeroCells98 98 (0,0))):=zM _ _;have HM:Hid (((w1.alloc (.cells Tryz.zeroCells98 98)).setRow w1.heap.size (mO iv cv rv G 0)).heap[w1.heap.size]? = some (XB iv cv rv G 0)):=lk _ _ _ _ _ _ zJ4.out;have c67:((w1.alloc (.cells Tryz.zeroCells98 98)).setRow w1.heap.size (mO iv cv rv G 0)).cell? ⟨w1.heap.size,67,none⟩=some (.int .i64 0):=by have h8:=HM.out;unfold XB at h8;exact(zD h8 67).trans (YQ HGL.out 0)
 have HBm:Hid (Below w1.heap.size w1 ((w1.alloc (.cells Tryz.zeroCells98 98)).setRow w1.heap.size (mO iv cv rv G 0))):=xA (gj (t9 _) _) (t9 _) _
 go_wp2_with (refine wpList_store_row ?zIO 98 (.tmp 6) (.tmp 9) ?ho w1.heap.size (mO iv cv rv G 0) ?hx ?hy 98 Tryz.zeroCells98 zJ4.out (gH HGL.out _ _ _ _) ?zIN (oB o1 o2 o3 _ _) ?_
              case ho=>rfl
              case zIO=>rfl
              case hx=>rfl
              case hy=>rfl
              case zIN=>rw[aF,kF,kF,xP,HGL.out])
 have HMm:=zA (HMc.out.below HBm.out);have zJ6:Hid (Below w.heap.size w ((w1.alloc (.cells Tryz.zeroCells98 98)).setRow w1.heap.size (mO iv cv rv G 0))):=HB.out.trans (HBm.out.mono hs);clear zJ4 c67 HBm HMc;generalize (w1.alloc (.cells Tryz.zeroCells98 98)).setRow w1.heap.size (mO iv cv rv G 0)=wM at *;have lm:=yI HM.out;refine(HFe.out wM w1.heap.size HM.out HMm.out).mono ?_;rintro e w2 ⟨hb2,⟨la,sa,sn,sc,rfl,hex⟩|⟨rfl,hno⟩⟩
 ·have HB2:Hid (Below w.heap.size w w2):=zJ6.out.trans (hb2.mono zJ6.out.size)
  have HEx:=zA hex;have hs2:=HB2.out.size;clear hex hb2 HFe HMm HM;have HQ:=zA (HSJ.out (w2.alloc (.cells #[.slice la 2 2,.slice sa sn sc] 101)) _ (HB2.out.alloc hs2 _) (.inr ⟨rfl,HEx.out⟩));go_wp2_with fail
  exact HQ.out
 ·have HB2:Hid (Below w.heap.size w w2):=zJ6.out.trans (hb2.mono zJ6.out.size)
  have HNo:=zA hno;have hs2:=HB2.out.size;have HM2:Hid (w2.heap[w1.heap.size]? = some (XB iv cv rv G 0)):=(hb2.block _ lm).trans HM.out;have lm2:=yI HM2.out
  have HRg:Hid ((w2.alloc (.cells #[.slice none 0 0,.slice none 0 0] 101)).rangeAt w1.heap.size 0 (dM iv cv rv G).toList):=fun j v hv=>by
   have h8:(w2.alloc (.cells #[.slice none 0 0,.slice none 0 0] 101)).heap[w1.heap.size]? = some (XB iv cv rv G 0):=yJ HM2.out;unfold XB mO at h8;have hj:j<(dM iv cv rv G).size:=by have:=(List.getElem?_eq_some_iff.1 hv).1;simpa using this
   rw[l8];refine(zD h8 j).trans ?_;rw[dt hj];rw[<-hv,ge]
  clear hno hb2 HFe HMm HM HM2
  go_wp2_with (first
   | (refine wpList_load_mid ?zIO 96 (.tmp 22) ?ho w1.heap.size 0 ?hx (dM iv cv rv G).toList _ HRg.out Tryz.underlying96 rfl ?hi ?_
      case ho=>rfl
      case zIO=>rfl
      case hx=>rfl
      case hi=>rw[Array.length_toList];exact aE HGL.out _ _ _)
   | (refine wpList_buildTo rfl 158 #[(0,.const (.bool true)),(1,.tmp 23)] rfl (some 24) rfl (xa iv cv rv G) (by rw[Array.toList_map];exact U5 iv cv rv G HGL.out) ?_))
  exact HSJ.out _ _ ((HB2.out.alloc hs2 _).alloc (by simp;omega) _) (.inl ⟨w2.heap.size+1,rfl,HNo.out⟩)
theorem XH{F:List zF}(h:uL F):(uY F).map Prod.fst=zS F:=by
 rw[j6 F h.heads h.nam];unfold zAL;rw[List.map_map];refine List.ext_getElem (by simp) fun i h1 h2=>?_;simp only[List.getElem_map,List.getElem_range,Function.comp];rw[l9,pe h2];rfl
theorem VB{F:List zF}(h:uL F):(uY F).length=(zS F).length:=by rw[<-XH h,ms]
theorem uq{r:Nat}(hr:r<(eW ls).length):(eW ls).getD r UU∈ls/\((eW ls).getD r UU).kind=3:=by
 have hm:(eW ls).getD r UU∈eW ls:=Zs _ hr;obtain⟨h1,h2⟩:=ma.1 hm;exact⟨h1,bg h2⟩
theorem Uy{x:zF}(hx:x∈ls)(hk:x.kind=3):jX ls x.conc=true:=mj.2 ⟨x,hx,by unfold KX;rw[tm hk];simp⟩
theorem Ug{i:Nat}(hi:i<8)(hj:j<8):ZL G (i:Int) (j:Int)=gA G i j:=by
 unfold ZL;rw[tm (show (0:Int)<=(i:Int) by omega),tm (show (i:Int)<8 by omega),tm (show (0:Int)<=(j:Int) by omega),tm (show (j:Int)<8 by omega)];simp
theorem DT(hA:yQ ls us)(h:uL ls){x:zF}(hx:x∈ls)(hk:x.kind=3)(hL:LT x u)(hu:cA u 0=zQ):(fO (vJ us) u).head=(xM ls).length+zH (zS ls) x.conc:=by
 obtain⟨w,hr⟩:=hL.rule hu;obtain⟨h1,c,h2,h3⟩:=K6 h (Uy hx hk);show zH (vJ us) (tA u 3)=_;rw[hr.conc,gF hA,dT,tg (by omega),tj (by omega)]
theorem kj(h:uL ls)(hr:rs.map Prod.fst=kN ((yM ls).map yH.name) ((uY ls).map Prod.fst) ls):rs.length=(eW ls).length/\∀i,i<(eW ls).length->(pQ rs i).1=qA (xM ls) (zS ls) ((eW ls).getD i UU):=by
 rw[XH h,QY]at hr;have hl:rs.length=(eW ls).length:=by have:=congrArg List.length hr;simpa using this
 refine⟨hl,fun i hi=>?_⟩;have h1:i<rs.length:=by omega
 have e1:(rs.map Prod.fst).getD i (qA [] [] UU)=(pQ rs i).1:=by simp[pQ,List.getD,h1]
 rw[<-e1,hr];exact XY _ _ _ _ _ hi
theorem Fa(hA:yQ ls us)(h:uL ls)(hr:rs.map Prod.fst=kN ((yM ls).map yH.name) ((uY ls).map Prod.fst) ls)(i j:Nat):Fm (yM ls) (uY ls).length rs (Uh ls) i j ↔ Fl us i j:=by
 obtain⟨hl,hat⟩:=kj h hr;obtain⟨hl2,hat2⟩:=B4 hA (vJ us);have h8:(eW ls).length<=8:=by rw[zFY];exact h.rules
 unfold Fm Fl;rw[hl,hl2,VB h];by_cases hij:i<j
 ·by_cases hj:j<(eW ls).length
  ·have hi:i<(eW ls).length:=by omega
   obtain⟨u,u1,u2,u3⟩:=hat2 i hi;obtain⟨v,v1,v2,v3⟩:=hat2 j hj;obtain⟨x1,x2⟩:=uq hi;obtain⟨y1,y2⟩:=uq hj;have hc:=zt hA h x1 x2 u1 u2 y1 y2 v1 v2;rw[hat i hi,hat j hj,u3,v3,hc,DT hA h x1 x2 u1 u2,DT hA h y1 y2 v1 v2,Qq hA h (by omega) (by omega),Qq hA h (by omega) (by omega)];unfold BE;rw[hat i hi,hat j hj,Ug (by omega) (by omega),Ug (by omega) (by omega),tz,tz,pw,Bool.not_eq_true',Bool.not_eq_true'];show (i<j/\j<(eW ls).length/\(zH (zS ls) ((eW ls).getD i UU).conc=zH (zS ls) ((eW ls).getD j UU).conc/\gA (Uh ls) i j=false/\gA (Uh ls) j i=false)/\_) ↔ (i<j/\j<(eW ls).length/\_/\gA (Uh ls) i j=false/\gA (Uh ls) j i=false/\_);constructor
   ·rintro⟨a,b,⟨c,d,e⟩,f⟩
    exact⟨a,b,by rw[c],d,e,f⟩
   ·rintro⟨a,b,c,d,e,f⟩
    exact⟨a,b,⟨by omega,d,e⟩,f⟩
  ·constructor <;> (rintro⟨_,b,_⟩;exact absurd b hj)
 ·constructor <;> (rintro⟨a,_⟩;exact absurd a hij)
theorem zGB(h:uL ls)(hg:∀x∈ls,dG x):zFA ls:=by
 refine⟨by have:=VZ h;omega,DN h hg,fun r hr=>?_⟩;rw[XH h,QY]at hr;obtain⟨x,hx,rfl⟩:=mn.1 hr;obtain⟨h1,h2⟩:=ma.1 hx;rw[VB h];exact zFX h h1 (bg h2) (hg x h1)
theorem Zh(hA:yQ ls us){r:pT}(hr:r∈kT (vJ us) us):∃x u,x∈ls/\x.kind=3/\LT x u/\cA u 0=zQ/\r=fO (vJ us) u:=by
 obtain⟨hl,hat⟩:=B4 hA (vJ us);obtain⟨i,hi,rfl⟩:=f9 hr;have hi2:i<(eW ls).length:=by omega
 obtain⟨u,u1,u2,u3⟩:=hat i hi2;obtain⟨x1,x2⟩:=uq hi2;refine⟨_,u,x1,x2,u1,u2,?_⟩;rw[<-u3];simp[List.getD,hi]
theorem J6(hg:∀x∈ls,dG x){x:zF}(hx:x∈ls)(hL:LT x u)(hu:cA u 0=zQ):∀z∈vV (fO (vJ us) u).steps,-1000000<=z/\z<=1000000:=fun z hz=>by
 obtain⟨w,hr⟩:=hL.rule hu;obtain⟨k,y0,hgr⟩:=hr.gr
 have eS:(fO (vJ us) u).steps=vM (vJ us) (u.length+1) (u.drop (w+1)):=by
  show vM (vJ us) (u.length+1) (u.drop (wC u+1))=_;rw[hr.wAt]
 rw[eS]at hz;obtain⟨s,hs,rfl⟩:=mn.1 hz;obtain⟨h1,h2⟩:=ma.1 hs;have hk:s.kind=2:=bg h2;rcases QV (names:=vJ us) hgr (u.length+1) (by rw[ty];omega) s h1 with h0|h0|⟨y,hy,hyk,rfl⟩|⟨y,hy,hyk,-,rfl⟩|⟨y,hy,hyk,ho,rfl⟩
 ·omega
 ·omega
 ·exact absurd hk (by simp)
 ·have:=qx (hg x hx).nodes hy hyk
  show -1000000<=y.num/\y.num<=1000000;omega
 ·exact absurd hk (by simp)
theorem B8(hA:yQ ls us)(h:uL ls)(hg:∀x∈ls,dG x)(k:Nat):0<=(qG us (vJ us) (tJ us).length k).1/\(qG us (vJ us) (tJ us).length k).1<=9999/\0<=(qG us (vJ us) (tJ us).length k).2/\(qG us (vJ us) (tJ us).length k).2<=9999:=by
 by_cases hn:k<(yM ls).length/\xU (yM ls) k=true
 ·rw[K3 hA h hn.1 hn.2]
  have:=(DN h hg).num k hn.1 hn.2;show 0<=(jA (yM ls) k).low/\(jA (yM ls) k).low<=9999/\0<=(jA (yM ls) k).high/\(jA (yM ls) k).high<=9999;omega
 ·have e:qG us (vJ us) (tJ us).length k=(0,1):=by
   by_cases hk:k<(vJ us).length
   ·refine((ke hA h).isF k hk ?_).2
    unfold iE;by_cases h1:k<(yM ls).length
    ·rw[tm h1,md]
     cases hc:xU (yM ls) k with
     | false=>rfl
     | true=>exact absurd ⟨h1,hc⟩ hn
    ·rw[th h1];rfl
   ·refine Xs (.inl ?_)
    have:(vJ us).length=(tJ us).length+(jB us).length:=by unfold vJ;rw[tq]
    omega
  rw[e];decide
theorem zCR(hA:yQ ls us)(h:uL ls)(hg:∀x∈ls,dG x):CY ls us:=by
 have hLn:(vJ us).length=(xM ls).length+(zS ls).length:=by rw[gF hA,tq]
 refine⟨hA,fun h0=>?_,?_,fun x hx y hy z hz=>?_,fun r hr vs hv=>?_⟩
 ·have hm:(kT (vJ us) us)[0]∈kT (vJ us) us:=List.getElem_mem h0
  obtain⟨x,u,x1,x2,-⟩:=Zh hA hm;obtain⟨-,c,-,hc⟩:=K6 h (Uy x1 x2);omega
 ·rw[(B4 hA (vJ us)).1,ZH hA,jl];simp
 ·obtain⟨a,u,a1,a2,a3,a4,rfl⟩:=Zh hA hx
  obtain⟨b,v,b1,b2,b3,b4,rfl⟩:=Zh hA hy;unfold uG at hz;rw[pt,pt]at hz;rcases hz with (hz|hz)|hz
  ·unfold sN at hz
   obtain⟨k,-,hk⟩:=List.mem_flatMap.1 hz;have hs:=B8 hA h hg k;unfold J4 at hk;split at hk
   ·rcases pi.1 hk with rfl|hk
    ·omega
    ·rw[pu]at hk;subst hk;omega
   ·cases hk
  ·exact J6 hg a1 a3 a4 z hz
  ·exact J6 hg b1 b3 b4 z hz
 ·obtain⟨a,u,a1,a2,a3,a4,rfl⟩:=Zh hA hr
  have hR:aY (xM ls) (zS ls) (zBR (xM ls).length vs) vs:=Kg (by rw[hv,hLn]);rw[dS hA,gF hA];exact(Qm hR (h.ruOk a1 a2) a3 a4).1
def zH7(l:Bs)(k:Int):Prop:=((jV l).1≠0/\k=(jV l).1)\/((jV l).1=0/\((k=8/\∃i j,Fl (jZ l) i j)\/(k=0/\∀i j,¬Fl (jZ l) i j)))
theorem ju{l:Bs}{k k':Int}(h:zH7 l k)(h':zH7 l k'):k=k':=by
 rcases h with ⟨h1,h2⟩|⟨h1,h2⟩
 ·rcases h' with ⟨h3,h4⟩|⟨h3,h4⟩
  ·rw[h2,h4]
  ·exact absurd h3 h1
 ·rcases h' with ⟨h3,h4⟩|⟨h3,h4⟩
  ·exact absurd h1 h3
  ·rcases h2 with ⟨rfl,i,j,e⟩|⟨rfl,e⟩
   ·rcases h4 with ⟨rfl,-⟩|⟨-,e'⟩
    ·rfl
    ·exact absurd e (e' i j)
   ·rcases h4 with ⟨-,i,j,e'⟩|⟨rfl,-⟩
    ·exact absurd e' (e i j)
    ·rfl
structure zIA(l:Bs):Prop where
 few:l.length<=4000
 read:(yZ l).2.2=false
 lines:yQ (yZ l).1 (jZ l)
 calm:uL (yZ l).1
 good:∀x∈(yZ l).1,dG x
theorem zAX{l:Bs}(hk:(jV l).1=0):zIA l:=by
 have hp:l.length<=4000->JH 4001 l/\JI l:=fun h=>aA h (by decide)
 have hl4:l.length<=4000:=by
  rcases po 4000 l.length with h|h
  ·unfold jV at hk;rw[tj h]at hk;exact absurd (show (1:Int)=0 from hk) (by decide)
  ·exact h
 have hrd:(yZ l).2.2=false:=by
  cases hr:(yZ l).2.2 with
  | false=>rfl
  | true=>unfold jV at hk;rw[tg (by omega),hr]at hk;exact absurd (show (2:Int)=0 from hk) (by decide)
 have hck:(qL (yZ l).1).1=0:=by unfold jV at hk;rw[tg (by omega),hrd]at hk;exact hk
 exact⟨hl4,hrd,(hp hl4).2.lines hrd,zI5 hck,(hp hl4).1.good hrd⟩
def zBG(l:Bs)(w w':World)(e:Ending):Prop:=∃pv k,e=.returned (.tuple #[pv,.int .i64 k])/\Below w.heap.size w w'/\zH7 l k/\((k=0/\∃b:Nat,pv=.pointer (some ⟨b,0,none⟩))\/(k≠0/\pv=.pointer none))
theorem yt(l:Bs)(w:World)(zJ3:l.length<=maxLen):Calls Tryz.prog 26 #[.string ⟨l.toArray⟩,.bool true] w fun e w'=>zBG l w w' e:=by
 have hp:l.length<=4000->JH 4001 l/\JI l:=fun h=>aA h (by decide)
 have bad:∀k:Int,k≠0->(jV l).1=k->Calls Tryz.prog 37 #[.string ⟨l.toArray⟩] w (fun e w'=>e=.returned (.agg (mO xD xD xD gZ k))/\Below w.heap.size w w')->Calls Tryz.prog 26 #[.string ⟨l.toArray⟩,.bool true] w fun e w'=>zBG l w w' e:=fun k hk hc hR=>by
  refine(UK l w k hk hR).mono ?_;rintro e w' ⟨h1,h2⟩;exact⟨.pointer none,k,h1,h2,.inl ⟨by rw[hc];exact hk,hc.symm⟩,.inr ⟨hk,rfl⟩⟩
 by_cases hl:4000<l.length
 ·have ec:jV l=(1,0):=by unfold jV;rw[tj hl]
  exact bad 1 (by decide) (by rw[ec]) (oQ l w 1 (.inl rfl) 0 (fun o=>eJ l (w.alloc o) zJ3 hl))
 ·have hl4:l.length<=4000:=by omega
  cases hf:(yZ l).2.2
  ·have ec:jV l=qL (yZ l).1:=by unfold jV;rw[tg hl,hf]
   have hR:=JG l w hl4 hf ((hp hl4).1.good hf) (hp hl4).1.many (qy hl4 hf) DC;by_cases hk:(qL (yZ l).1).1=0
   ·have hc:(jV l).1=0:=by rw[ec];exact hk
    have hT:=zAX hc;refine(QM l w (yZ l).1 (zGB hT.calm hT.good) (hR.mono fun e w' h=>h.2 hk)).mono ?_;rintro e w' ⟨rs,h1,h2,⟨b,h3,h4⟩|⟨h3,i,j,h4⟩⟩
    ·exact⟨_,0,h3,h2,.inr ⟨hc,.inr ⟨rfl,fun i j h=>h4 i j ((Fa hT.lines hT.calm h1 i j).2 h)⟩⟩,.inl ⟨rfl,b,rfl⟩⟩
    ·exact⟨_,8,h3,h2,.inr ⟨hc,.inl ⟨rfl,i,j,(Fa hT.lines hT.calm h1 i j).1 h4⟩⟩,.inr ⟨by decide,rfl⟩⟩
   ·exact bad _ hk (by rw[ec]) (hR.mono fun e w' h=>h.1 hk)
  ·have ec:jV l=(2,((yV (wD l) (yZ l).2.1).p:Int)):=by unfold jV;rw[tg hl,hf]
   refine bad 2 (by decide) (by rw[ec]) (oQ l w 2 (.inr rfl) ((yV (wD l) (yZ l).2.1).p:Int) (fun o=>(oT l (w.alloc o) (by omega)).mono ?_));rintro e w' ⟨h1,h2⟩;unfold Ya at h1;rw[hf]at h1;exact⟨h1,h2⟩
theorem Du(l:Bs)(w:World)(zJ3:l.length<=maxLen)(hf:jF w):∀w',Below w.heap.size w w'->Calls Tryz.prog 39 #[.string ⟨l.toArray⟩] w' fun e w''=>e=.returned (.tuple #[.int .i64 (jV l).1,.int .i64 (jV l).2])/\Below w'.heap.size w' w'':=fun w' hb=>by
 have hp:l.length<=4000->JH 4001 l/\JI l:=fun h=>aA h (by decide)
 have hlines:l.length<=4000->tQ l<0->(yZ l).2.2=false:=fun h1 h2=>by
  cases hr:(yZ l).2.2 with
  | false=>rfl
  | true=>have:=(hp h1).1.fails hr;omega
 have h1:=KL l w' zJ3 (hf.below hb) (fun h1 h2=>⟨_,(hp h1).2.lines (hlines h1 h2)⟩);rw[zAV hp]at h1;exact h1
theorem zFZ(l:Bs)(w:World)(zJ3:l.length<=maxLen)(hf:jF w):∀w',Below w.heap.size w w'->Calls Tryz.prog 27 #[.string ⟨l.toArray⟩,.bool true] w' fun e w''=>∃k,e=.returned (.int .i64 k)/\zH7 l k/\Below w'.heap.size w' w'':=fun w' hb=>by
 have hC:=Du l w zJ3 hf w' hb;by_cases hk:(jV l).1=0
 ·have hT:=zAX hk
  rw[hk]at hC;refine(KN l w' _ _ hT.few (zCR hT.lines hT.calm hT.good) (fun u hu hr=>by obtain⟨x,hx⟩:=hT.lines.mem u hu;exact zHV hx hr) hC).mono ?_;rintro e w'' ⟨h1,⟨h2,h3⟩|⟨h2,h3⟩⟩
  ·exact⟨8,h2,.inr ⟨hk,.inl ⟨rfl,h3⟩⟩,h1⟩
  ·exact⟨0,h2,.inr ⟨hk,.inr ⟨rfl,h3⟩⟩,h1⟩
 ·refine(yw l w' _ _ hk hC).mono ?_
  rintro e w'' ⟨h1,h2⟩;exact⟨_,h1,.inl ⟨hk,rfl⟩,h2⟩
theorem Gy(l:Bs)(w:World)(hL:Calls Tryz.prog 26 #[.string ⟨l.toArray⟩,.bool true] w fun e w'=>zBG l w w' e)(hR:∀w',Below w.heap.size w w'->Calls Tryz.prog 27 #[.string ⟨l.toArray⟩,.bool true] w' fun e w''=>∃k,e=.returned (.int .i64 k)/\zH7 l k/\Below w'.heap.size w' w'') :
 Calls Tryz.prog 10 #[.string ⟨l.toArray⟩,.bool true] w fun e w'=>∃pv,e=.returned (.tuple #[pv,.bool true])/\Below w.heap.size w w':=by
 have HL:=zA hL;have HR:=zA hR;have HS:Hid (∀k k',zH7 l k->zH7 l k'->k=k'):=fun _ _ h h'=>ju h h';clear hL hR
 go_enter Tryz.func10,Tryz.ntmps10
 go_wp2_with fail
 refine HL.out.mono ?_;rintro e w1 ⟨pv,k,rfl,hb1,hks,hpv⟩;have HB1:=zA hb1;have HRw:=zA (HR.out w1 hb1);have HKs:=zA hks;clear hb1 hks HR HL;rcases hpv with ⟨rfl,b,rfl⟩|⟨hk,rfl⟩
 ·go_wp2_with fail
  refine HRw.out.mono ?_;rintro e w2 ⟨k',rfl,hks',hb2⟩;obtain rfl:=HS.out _ _ HKs.out hks';have HB2:Hid (Below w.heap.size w w2):=HB1.out.trans (hb2.mono HB1.out.size);clear hb2 hks';go_wp2_with fail
  refine(D5 0 w2).mono ?_;rintro e w3 ⟨rfl,hw⟩;obtain rfl:=hw.symm;go_wp2_with fail
  go_ret2
  exact⟨_,rfl,HB2.out⟩
 ·have b0:(k != 0)=true:=by simpa using hk
  clear hk;go_wp2_with fail
  refine HRw.out.mono ?_;rintro e w2 ⟨k',rfl,hks',hb2⟩;obtain rfl:=HS.out _ _ HKs.out hks';have HB2:Hid (Below w.heap.size w w2):=HB1.out.trans (hb2.mono HB1.out.size);clear hb2 hks';go_wp2_with fail
  refine(D5 k w2).mono ?_;rintro e w3 ⟨rfl,hw⟩;obtain rfl:=hw.symm;go_wp2_with fail
  go_ret2
  exact⟨_,rfl,HB2.out⟩
theorem zBF(l:Bs)(st:Bool)(w:World)(hL:Calls Tryz.prog 10 #[.string ⟨l.toArray⟩,.bool st] w fun e w'=>∃pv,e=.returned (.tuple #[pv,.bool true])/\Below w.heap.size w w') :
 Calls Tryz.prog 3 #[.string ⟨l.toArray⟩,.bool st] w fun e w'=>e=.returned (.bool true)/\Below w.heap.size w w':=by
 have HL:=zA hL;clear hL
 go_enter Tryz.func3,Tryz.ntmps3
 go_wp2_with fail
 refine HL.out.mono ?_;rintro e w1 ⟨pv,rfl,hb1⟩;have HB1:=zA hb1;clear hb1;go_wp2_with fail
 go_ret
 exact⟨rfl,HB1.out⟩
theorem yz(l:Bs)(st:Bool)(w:World)(zJ3:l.length<=maxLen)(hf:jF w) :
 Calls Tryz.prog 3 #[.string ⟨l.toArray⟩,.bool st] w fun e w'=>e=.returned (.bool true)/\Below w.heap.size w w':=by
 have hp:l.length<=4000->JH 4001 l/\JI l:=fun h=>aA h (by decide);refine zBF l st w ?_;cases st
 ·refine(je l w (CW l w zJ3 (fun h1 h2=>(hp h1).1.good h2) (fun h1=>(hp h1).1.many)) (fun w' hb=>zEM l w' _ _ (Du l w zJ3 hf w' hb))).mono ?_
  rintro e w' ⟨pv,h1,h2,-⟩;exact⟨pv,h1,h2⟩
 ·exact Gy l w (yt l w zJ3) (zFZ l w zJ3 hf)
end Go.Proofs.YtnbpdffdnphbeaaGreatDoor
