import Derived.Test.YtnbpdffdnphbeabGreatDoorMRowF
import Derived.Test.YtnbpdffdnphbeabGreatDoorMMakeN
set_option maxHeartbeats 2000000
set_option maxRecDepth 100000
namespace Go.Proofs.YtnbpdffdnphbeabGreatDoor
open Go.RowKit
variable{rs:List MX}{ys xs:List Value}{T:List jV}{I:List zX}{x y:MX}{gi sc H j nc gn gh h n m b B k:Nat}{F:Nat->List (Int × Int)}{na sa:Option Addr}{t' t:TypeId}{nv sv v v':Value}{wr w' w wx wy:World}
def oR(K:SK)(at':Nat)(w:World)(s:vW)(w':World)(e:Ending):Prop:=∃r s',e=.returned (.bool r)/\kW w' K s'/\Below K.B w w'/\iR (uZ K) K.np K.P K.sw at' s s' r
theorem XV(K:SK)(ok:XB K):∀(m at':Nat) (w:World) (s:vW),at'+m=K.np->(∀p,p<at'->s.rk p<K.np)->kW w K s ->
 Calls Tryz.prog 100 #[.pointer (some ⟨K.b,0,none⟩),.int .i64 (at':Nat)] w fun e w'=>oR K at' w s w' e:=by
 intro m
 induction m with
 | zero =>
   intro at' w s hm hrk h;obtain rfl:at'=K.np:=by omega
   have HSn:=zA (Jl w K s ok hrk h);have HSw:=zA (fun w1 s1 (h1:kW w1 K s1)=>Ze K ok K.sw.length 0 w1 s1 (by omega) h1);have HN:Hid (∀s1 w1,kW w1 K s1->Below K.B w w1->aS K.np K.P s s1 false->oR K K.np w s w1 (.returned (.bool false))):=fun s1 w1 h1 h2 h3=>⟨false,s1,rfl,h1,h2,UE (tg _) h3⟩
   have HY:Hid (∀s1 w1,Below K.B w w1->aS K.np K.P s s1 true->∀e w2,Zk K 0 w1 s1 w2 e->∃r,e=.returned (.bool r)/\oR K K.np w s w2 (.returned (.bool r))):=fun s1 w1 h2 h3 e w2 h4=>by
    obtain⟨r,s2,rfl,q1,q2,q3⟩:=h4;exact⟨r,rfl,r,s2,rfl,q1,h2.trans q2,UD (VJ K) (tg _) ok.off hrk h3 q3⟩
   have c10:w.cell? ⟨K.b,10,none⟩=some (.slice K.na K.np K.nc):=h.cells 10;have hi:¬(K.np:Int)<(K.np:Int):=by omega
   clear h hm hrk ok
   go_enter Tryz.func100,Tryz.ntmps100
   go_wp2_with fail
   refine HSn.out.mono ?_;rintro e w1 ⟨r,s1,rfl,hS1,hB1,hR1⟩;cases r
   ·have HQ:=zA (HN.out s1 w1 hS1 hB1 hR1)
    clear hS1 hB1 hR1;go_wp2_with fail
    first|exact HQ.out|(go_ret;exact HQ.out)
   ·have HY1:=zA (HY.out s1 w1 hB1 hR1)
    have HSw1:=zA (HSw.out w1 s1 hS1);clear hS1 hB1 hR1;generalize Zk K 0 w1 s1=Q1 at *;go_wp2_with fail
    refine HSw1.out.mono ?_;rintro e w2 hp;obtain⟨r,rfl,hq⟩:=HY1.out _ _ hp;have HQ:=zA hq;clear hq hp;go_wp2_with fail
    first|exact HQ.out|(go_ret;exact HQ.out)
 | succ m ih =>
   intro at' w s hm hrk h;have zJS:at'<K.np:=by omega
   have hf:=ok.np;have HI:Hid (∀w1 s1,(∀p,p<at'+1->s1.rk p<K.np)->kW w1 K s1->Calls Tryz.prog 100 #[.pointer (some ⟨K.b,0,none⟩),.int .i64 ((at':Int)+1)] w1 fun e w'=>oR K (at'+1) w1 s1 w' e):=fun w1 s1 hk h1=>ih (at'+1) w1 s1 (by omega) hk h1
   have HC:Hid (∀w1 s1,kW w1 K s1->w1.cell? ⟨K.b,10,none⟩=some (.slice (some ⟨K.gn,0,none⟩) K.np K.nc)/\w1.cell? ⟨K.gn,at'*5+4,none⟩=some (.int .i64 (s1.rk at':Nat))/\w1.frozen? ⟨K.gn,at'*5+4,none⟩=false):=fun w1 s1 h1=>by
    have hn:=h1.num zJS;refine⟨?_,hn.2.2.2.2.2.1,hn.2.2.2.2.2.2 _⟩;have:=h1.cells 10;rw[<-hn.1];exact this
   have zKA:Hid (∀w1 s1 (v:Nat),v<K.np->iS (uZ K) K.np K.P K.sw at' s s1 v->kW w1 K s1->Below K.B w w1->(∀p,p<at'+1->(nL s1 at' v).rk p<K.np)/\kW (w1.setCell ⟨K.gn,at'*5+4,none⟩ (.int .i64 (v:Nat))) K (nL s1 at' v)/\Below K.B w (w1.setCell ⟨K.gn,at'*5+4,none⟩ (.int .i64 (v:Nat)))):=fun w1 s1 v hv hm h1 hb=>by
    refine⟨fun p hp=>?_,h1.setRk zJS v,hb.setCell (p:=⟨K.gn,at'*5+4,none⟩) (ok.lon (by omega)) _⟩;show (if p=at' then v else s1.rk p)<K.np;by_cases hpa:p=at'
    ·rw[tr hpa];exact hv
    ·rw[tj hpa,hm.kp p (by omega)];exact hrk p (by omega)
   have HY:Hid (∀v s1 s2 w2,iS (uZ K) K.np K.P K.sw at' s s1 v->kW w2 K s2->Below K.B w w2->iR (uZ K) K.np K.P K.sw (at'+1) (nL s1 at' v) s2 true->oR K at' w s w2 (.returned (.bool true))):=fun v s1 s2 w2 h1 h2 h3 h4=>⟨true,s2,rfl,h2,h3,Fa h1 h4⟩;have HN:Hid (∀s1 w1,iS (uZ K) K.np K.P K.sw at' s s1 K.np->kW w1 K s1->Below K.B w w1->oR K at' w s w1 (.returned (.bool false))):=fun s1 w1 h1 h2 h3=>⟨false,s1,rfl,h2,h3,Fb zJS h1⟩;have HM0:=zA (UF (uZ K) K.np K.P K.sw at' s);have HS:=zA h;have h10:=(HC.out w s h).1;have hltI:(at':Int)<(K.np:Int):=by omega
   have hltD:decide (K.np<=at')=false:=tu (by omega);have hltN:¬K.np<=at':=by omega
   clear h ih ok hm hrk
   go_enter Tryz.func100,Tryz.ntmps100
   go_wp2_with fail
   go_loopw [23] (fun iv wr=>∃(v:Nat) (s1:vW),v<=K.np/\iv=.int .i64 v/\Hid (kW wr K s1)/\Hid (Below K.B w wr)/\Hid (iS (uZ K) K.np K.P K.sw at' s s1 v)) (fun iv _=>K.np-(intOf iv).toNat)
   case atStart=>exact⟨0,s,by omega,rfl,HS,zA (tl _ _),HM0⟩
   case round =>
    obtain⟨v,s1,hv,rfl,HSr,HBr,HMr⟩:=hrel;by_cases hv1:v<K.np
    ·obtain⟨k10,k0,k1⟩:=HC.out wr s1 HSr.out
     obtain⟨p1,p2,p3⟩:=zKA.out wr s1 v hv1 HMr.out HSr.out HBr.out;have hvI:(v:Int)<(K.np:Int):=by omega
     have HI2:=zA (HI.out _ _ p1 p2);have HB2:=zA p3;clear p1 p2 p3;go_wp2_with fail
     refine HI2.out.mono ?_;rintro e w3 ⟨r,s3,rfl,hS3,hB3,hR3⟩;have HB3:Hid (Below K.B w w3):=HB2.out.trans hB3;cases r
     ·have HM3:=zA (vf HMr.out hR3)
      have HS3:=zA hS3;clear hS3 hB3 hR3;go_wp2_with fail
      go_roundw
      case rel=>exact⟨v+1,s3,by omega,by go_num,HS3,HB3,HM3⟩
      case measure=>simp[intOf];omega
     ·have HQ:=zA (HY.out v s1 s3 w3 HMr.out hS3 HB3.out hR3)
      clear hS3 hB3 hR3;go_wp2_with fail
      first|exact HQ.out|(go_ret;exact HQ.out)
    ·obtain rfl:v=K.np:=by omega
     have HQ:=zA (HN.out s1 wr HMr.out HSr.out HBr.out);have hvI:¬(K.np:Int)<(K.np:Int):=by omega
     go_wp2_with fail
     first|exact HQ.out|(go_ret;exact HQ.out)
def X6(K:SK)(at':Nat)(w:World)(s:vW)(w':World)(e:Ending):Prop:=∃r s',e=.returned (.bool r)/\kW w' K s'/\Below K.B w w'/\iN (uZ K) K.np K.P K.zs K.sw at' s s' r
theorem XU(K:SK)(ok:XB K):∀(m at':Nat) (w:World) (s:vW),at'+m=K.np->(∀p,p<at'->s.Z p∈K.zs p)->kW w K s ->
 Calls Tryz.prog 67 #[.pointer (some ⟨K.b,0,none⟩),.int .i64 (at':Nat)] w fun e w'=>X6 K at' w s w' e:=by
 intro m
 induction m with
 | zero =>
   intro at' w s hm hz h;obtain rfl:at'=K.np:=by omega
   have HRk:=zA (XV K ok K.np 0 w s (by omega) (fun p hp=>absurd hp (by omega)) h)
   have HY:Hid (∀e w2,oR K 0 w s w2 e->∃r,e=.returned (.bool r)/\X6 K K.np w s w2 (.returned (.bool r))):=fun e w2 h4=>by
    obtain⟨r,s2,rfl,q1,q2,q3⟩:=h4;exact⟨r,rfl,r,s2,rfl,q1,q2,GO (tg _) hz q3⟩
   have c10:w.cell? ⟨K.b,10,none⟩=some (.slice K.na K.np K.nc):=h.cells 10;have hi:¬(K.np:Int)<(K.np:Int):=by omega
   clear h hm hz ok;generalize oR K 0 w s=Q1 at *
   go_enter Tryz.func67,Tryz.ntmps67
   go_wp2_with fail
   refine HRk.out.mono ?_;rintro e w2 hp;obtain⟨r,rfl,hq⟩:=HY.out _ _ hp;have HQ:=zA hq;clear hq hp;go_wp2_with fail
   first|exact HQ.out|(go_ret;exact HQ.out)
 | succ m ih =>
   intro at' w s hm hz h;have zJS:at'<K.np:=by omega
   have hf:=ok.np;have hfz:=ok.zs at' zJS;have HI:Hid (∀w1 s1,(∀p,p<at'+1->s1.Z p∈K.zs p)->kW w1 K s1->Calls Tryz.prog 67 #[.pointer (some ⟨K.b,0,none⟩),.int .i64 ((at':Int)+1)] w1 fun e w'=>X6 K (at'+1) w1 s1 w' e):=fun w1 s1 hk h1=>ih (at'+1) w1 s1 (by omega) hk h1
   have HC:Hid (∀w1 s1,kW w1 K s1->w1.cell? ⟨K.b,10,none⟩=some (.slice (some ⟨K.gn,0,none⟩) K.np K.nc)/\w1.cell? ⟨K.gn,at'*5+1,none⟩=some (.slice (K.za at') (K.zs at').length (K.zc at'))/\(w1.cell? ⟨K.gn,at'*5+2,none⟩=some (.int .i64 (s1.Z at').1)/\w1.cell? ⟨K.gn,at'*5+3,none⟩=some (.int .i64 (s1.Z at').2))/\w1.frozen? ⟨K.gn,at'*5+2,none⟩=false/\w1.frozen? ⟨K.gn,at'*5+3,none⟩=false):=fun w1 s1 h1=>by
    have hn:=h1.num zJS;refine⟨?_,hn.2.2.1,⟨hn.2.2.2.1,hn.2.2.2.2.1⟩,hn.2.2.2.2.2.2 _,hn.2.2.2.2.2.2 _⟩;have:=h1.cells 10;rw[<-hn.1];exact this
   have HZc:Hid (∀w1 s1 (v:Nat),kW w1 K s1->v<(K.zs at').length->∃g,K.za at'=some ⟨g,0,none⟩/\w1.cell? ⟨g,v*2,none⟩=some (.int .i64 ((K.zs at').getD v (0,0)).1)/\w1.cell? ⟨g,v*2+1,none⟩=some (.int .i64 ((K.zs at').getD v (0,0)).2)):=fun w1 s1 v h1 hv=>GN (h1.zn at' zJS).cel hv
   have zKA:Hid (∀w1 s1 (v:Nat),v<(K.zs at').length->sJ (uZ K) K.np K.P K.zs K.sw at' s s1 v->kW w1 K s1->Below K.B w w1->(∀p,p<at'+1->(dT s1 at' ((K.zs at').getD v (0,0))).Z p∈K.zs p)/\∀w2,Below ((w1.setCell ⟨K.gn,at'*5+2,none⟩ (.int .i64 ((K.zs at').getD v (0,0)).1)).setCell ⟨K.gn,at'*5+2+1,none⟩ (.int .i64 ((K.zs at').getD v (0,0)).2)).heap.size ((w1.setCell ⟨K.gn,at'*5+2,none⟩ (.int .i64 ((K.zs at').getD v (0,0)).1)).setCell ⟨K.gn,at'*5+2+1,none⟩ (.int .i64 ((K.zs at').getD v (0,0)).2)) w2->kW w2 K (dT s1 at' ((K.zs at').getD v (0,0)))/\Below K.B w w2/\w2.cell? ⟨K.b,10,none⟩=some (.slice (some ⟨K.gn,0,none⟩) K.np K.nc)):=fun w1 s1 v hv hm h1 hb=>by
    refine⟨D4 hm hv hz,fun w2 hb2=>?_⟩;have hlb:=zQ h1.hd;have hlo:=ok.lob;have hS:=(h1.setZn zJS ((K.zs at').getD v (0,0))).below hb2;have hk:=(hb.setCell (p:=⟨K.gn,at'*5+2,none⟩) (ok.lon (by omega)) (.int .i64 ((K.zs at').getD v (0,0)).1)).setCell (p:=⟨K.gn,at'*5+2+1,none⟩) (ok.lon (by omega)) (.int .i64 ((K.zs at').getD v (0,0)).2);refine⟨hS,hk.trans (hb2.mono ?_),(HC.out _ _ hS).1⟩;have:K.B<=w1.heap.size:=by omega
    simpa[World.setCell] using this
   have HY:Hid (∀v s1 s2 w2,sJ (uZ K) K.np K.P K.zs K.sw at' s s1 v->kW w2 K s2->Below K.B w w2->iN (uZ K) K.np K.P K.zs K.sw (at'+1) (dT s1 at' ((K.zs at').getD v (0,0))) s2 true->X6 K at' w s w2 (.returned (.bool true))):=fun v s1 s2 w2 h1 h2 h3 h4=>⟨true,s2,rfl,h2,h3,D3 h1 h4⟩;have HN:Hid (∀s1 w1,sJ (uZ K) K.np K.P K.zs K.sw at' s s1 (K.zs at').length->kW w1 K s1->Below K.B w w1->X6 K at' w s w1 (.returned (.bool false))):=fun s1 w1 h1 h2 h3=>⟨false,s1,rfl,h2,h3,D5 zJS h1⟩;have HM0:=zA (Um (uZ K) K.np K.P K.zs K.sw at' s);have HS:=zA h;obtain⟨h10,h11,-,-⟩:=HC.out w s h;have hltI:(at':Int)<(K.np:Int):=by omega
   have hltD:decide (K.np<=at')=false:=tu (by omega);have hltN:¬K.np<=at':=by omega
   clear h ih ok hm hz;generalize hzn:(K.zs at').length=zn at *;have HZn:=zA hzn;clear hzn;generalize K.za at'=za at *
   go_enter Tryz.func67,Tryz.ntmps67
   go_wp2_with fail
   go_loopw [25] (fun iv wr=>∃(v:Nat) (s1:vW),v<=zn/\iv=.int .i64 v/\Hid (kW wr K s1)/\Hid (Below K.B w wr)/\Hid (sJ (uZ K) K.np K.P K.zs K.sw at' s s1 v)) (fun iv _=>zn-(intOf iv).toNat)
   case atStart=>exact⟨0,s,by omega,rfl,HS,zA (tl _ _),HM0⟩
   case round =>
    obtain⟨v,s1,hv,rfl,HSr,HBr,HMr⟩:=hrel;by_cases hv1:v<zn
    ·obtain⟨k10,k1,⟨k2,k3⟩,f2,f3⟩:=HC.out wr s1 HSr.out
     obtain⟨p1,p2⟩:=zKA.out wr s1 v hv1 HMr.out HSr.out HBr.out;obtain⟨g,ez,z0,z1⟩:=HZc.out wr s1 v HSr.out hv1;subst ez;have hvI:(v:Int)<(zn:Int):=by omega
     have HP1:=zA p1;have HP2:=zA p2;have hM:=zA HMr.out;have lg:=vK z0;have lgn:=vK k1;have lb:=vK k10;have n1:wr.heap.size≠g:=by omega
     have n2:wr.heap.size≠K.gn:=by omega
     have n3:wr.heap.size≠K.b:=by omega
     have n4:K.gn≠wr.heap.size:=by omega
     have HNo:=zA (fun s3 => @GP (uZ K) K.np K.P K.zs K.sw at' v s s1 s3 HMr.out);have HY1:=zA (fun s3 w3=>HY.out v s1 s3 w3 HMr.out);clear p1 p2;generalize (K.zs at').getD v (0,0)=zz at *;obtain⟨z1l,z1h⟩:=zz;simp only at z0 z1 HP2;generalize (s1.Z at').1=o1 at *;generalize (s1.Z at').2=o2 at *
     go_upto_region 6 with fail
     obtain⟨hS2,hB2,e10⟩:=HP2.out (((wr.setCell ⟨K.gn,at'*5+2,none⟩ (.int .i64 z1l)).setCell ⟨K.gn,at'*5+2+1,none⟩ (.int .i64 z1h)).alloc (.cells #[.int .i64 z1l,.int .i64 z1h] 221)).drew (pu (fe (tg _) _));have e0:(((wr.setCell ⟨K.gn,at'*5+2,none⟩ (.int .i64 z1l)).setCell ⟨K.gn,at'*5+2+1,none⟩ (.int .i64 z1h)).alloc (.cells #[.int .i64 z1l,.int .i64 z1h] 221)).cell? ⟨wr.heap.size,0,none⟩=some (.int .i64 z1l):=zC (vT _ _ _ (by simp[World.setCell])) 0;have e1:(((wr.setCell ⟨K.gn,at'*5+2,none⟩ (.int .i64 z1l)).setCell ⟨K.gn,at'*5+2+1,none⟩ (.int .i64 z1h)).alloc (.cells #[.int .i64 z1l,.int .i64 z1h] 221)).cell? ⟨wr.heap.size,1,none⟩=some (.int .i64 z1h):=zC (vT _ _ _ (by simp[World.setCell])) 1;have e10':(((wr.setCell ⟨K.gn,at'*5+2,none⟩ (.int .i64 z1l)).setCell ⟨K.gn,at'*5+2+1,none⟩ (.int .i64 z1h)).alloc (.cells #[.int .i64 z1l,.int .i64 z1h] 221)).cell? ⟨K.b,10,none⟩=some (.slice (some ⟨K.gn,0,none⟩) K.np K.nc):=e10;have HI2:=zA (HI.out _ _ HP1.out hS2);have HB2:=zA hB2;clear hS2 hB2 e10
     go_region_held3 (fun w'=>w'.cell? ⟨K.b,10,none⟩=some (.slice (some ⟨K.gn,0,none⟩) K.np K.nc)/\w'.cell? ⟨wr.heap.size,0,none⟩=some (.int .i64 z1l)/\w'.cell? ⟨wr.heap.size,1,none⟩=some (.int .i64 z1h)) (go_keep) (fail)
     all_goals
      go_wp2_with fail
      refine HI2.out.mono ?_;rintro e w3 ⟨r,s3,rfl,hS3,hB3,hR3⟩;have HB3:Hid (Below K.B w w3):=HB2.out.trans hB3;cases r
      ·have HM3:=zA (HNo.out s3 hR3)
       have HS3:=zA hS3;clear hS3 hB3 hR3;go_wp2_with fail
       go_roundw
       case rel=>exact⟨v+1,s3,by omega,by go_num,HS3,HB3,HM3⟩
       case measure=>simp[intOf];omega
      ·have HQ:=zA (HY1.out s3 w3 hS3 HB3.out hR3)
       clear hS3 hB3 hR3;go_wp2_with fail
       first|exact HQ.out|(go_ret;exact HQ.out)
    ·obtain rfl:v=zn:=by omega
     have HQ:=zA (HN.out s1 wr HMr.out HSr.out HBr.out);have hvI:¬(v:Int)<(v:Int):=by omega
     go_wp2_with fail
     first|exact HQ.out|(go_ret;exact HQ.out)
def mD(I:List zX)(e l:xU)(i:Nat):List Nat:=(List.range i).filter fun i=>qR e l i&&xN I i
theorem KM(I:List zX)(e l:xU)(i:Nat):mD I e l (i+1)=mD I e l i++(if (qR e l i&&xN I i)=true then [i] else []):=by
 unfold mD;rw[ly,dy,List.filter_cons,List.filter_nil]
def qD(I:List zX)(e l:xU)(i:Nat):List jV:=((List.range i).filter fun i=>qR e l i && !xN I i).map fun i=>⟨true,i⟩
theorem Ux(I:List zX)(e l:xU)(i:Nat):qD I e l (i+1)=qD I e l i++(if (qR e l i && !xN I i)=true then [⟨true,i⟩] else []):=by
 unfold qD;rw[ly,dy,lj,List.filter_cons,List.filter_nil];split <;> rfl
def uL(e l:xU)(c:Nat):List jV:=((List.range c).filter fun c => !uE e l c&&(vP e c || vP l c)).map fun c=>⟨false,c⟩
theorem Uw(e l:xU)(c:Nat):uL e l (c+1)=uL e l c++(if (!uE e l c&&(vP e c || vP l c))=true then [⟨false,c⟩] else []):=by
 unfold uL;rw[ly,dy,lj,List.filter_cons,List.filter_nil];split <;> rfl
theorem YK(I:List zX)(e l:xU)(i:Nat):(mD I e l i).length<=i:=by have:=dw (fun i=>qR e l i&&xN I i) (List.range i);simpa[mD] using this
theorem Qj(I:List zX)(e l:xU)(i:Nat):(qD I e l i).length<=i:=by unfold qD;rw[me];have:=dw (fun i=>qR e l i && !xN I i) (List.range i);simpa using this
theorem Qi(e l:xU)(c:Nat):(uL e l c).length<=c:=by unfold uL;rw[me];have:=dw (fun c => !uE e l c&&(vP e c || vP l c)) (List.range c);simpa using this
structure NE where
 place:Nat
 za:Option Addr
 zc:Nat
variable{L:List NE}
def zFH(F:Nat->List (Int × Int))(x:NE):List Value:=[.int .i64 (x.place:Nat),.slice x.za (F x.place).length x.zc,.int .i64 0,.int .i64 0,.int .i64 0]
def aB(F:Nat->List (Int × Int))(l:List NE):List Value:=l.flatMap (zFH F)
theorem ua(F:Nat->List (Int × Int))(a b:List NE):aB F (a++b)=aB F a++aB F b:=by unfold aB;rw[lk]
def Yy(l:List jV):List Value:=l.flatMap zIJ
theorem zq(a b:List jV):Yy (a++b)=Yy a++Yy b:=by unfold Yy;rw[lk]
def Uz(x y:MX)(nv sv iv hv:Value):Array Value := #[.string ⟨x.1.label.toArray⟩,.int .i64 x.1.conc,x.2.1,x.2.2,.int .i64 x.1.root,.string ⟨y.1.label.toArray⟩,.int .i64 y.1.conc,y.2.1,y.2.2,.int .i64 y.1.root,nv,sv,iv,hv,.slice none 0 0]
def Cp:Array Value := #[.string ⟨#[]⟩,.int .i64 0,.slice none 0 0,.slice none 0 0,.int .i64 0,.string ⟨#[]⟩,.int .i64 0,.slice none 0 0,.slice none 0 0,.int .i64 0,.slice none 0 0,.slice none 0 0,.slice none 0 0,.slice none 0 0,.slice none 0 0]
theorem yw(x y:MX)(nv sv iv hv:Value):(Tryz.prog.info? 170).map (·.size)=some (Uz x y nv sv iv hv).size:=by
 show _=some 15;kernel_rfl
theorem C3{iv hv:Value}(h1:x.2.1.oneCell'=true)(h2:x.2.2.oneCell'=true)(h3:y.2.1.oneCell'=true)(h4:y.2.2.oneCell'=true)(h5:nv.oneCell'=true)(h6:sv.oneCell'=true)(h7:iv.oneCell'=true)(h8:hv.oneCell'=true):(Uz x y nv sv iv hv).all (·.oneCell')=true:=by
 unfold Uz;simp only[List.all_toArray,fa,List.all_nil,h1,h2,h3,h4,h5,h6,h7,h8];rfl
theorem kG.grown{g:Nat}{e:TypeId}{f:Nat->Value}(h:kG w g t n f)(zJU:w.ownsRow B e k v m ys)(zJZ:t≠e)(hg:w.grownBy w' v.ownBlock):kG w' g t n f:=by
 obtain⟨cs,h1,h2⟩:=h;refine⟨cs,?_,h2⟩;rw[hg.block g (zQ h1) (fun e1=>?_)]
 ·exact h1
 ·rcases zJU.2 with ⟨k1,_⟩|⟨g',cap,yT,k1,_,k3,_⟩
  ·rw[k1]at e1;simp[Value.ownBlock]at e1
  ·rw[k1]at e1;simp[Value.ownBlock]at e1
   subst e1;rw[h1]at k3;simp only[cp,Obj.cells.injEq]at k3;exact zJZ k3.2.1
structure ZQ(w wx:World)(x y:MX)(n h gi gh:Nat)(nv sv:Value)(inp:Nat->Int)(has:Nat->Bool):Prop where
 bel:Below w.heap.size w wx
 sz:w.heap.size+4<=wx.heap.size
 bx:wx.heap[w.heap.size]? = some (.cells #[.string ⟨x.1.label.toArray⟩,.int .i64 x.1.conc,x.2.1,x.2.2,.int .i64 x.1.root] 162 (0,0))
 by':wx.heap[w.heap.size+1]? = some (.cells #[.string ⟨y.1.label.toArray⟩,.int .i64 y.1.conc,y.2.1,y.2.2,.int .i64 y.1.root] 162 (0,0))
 res:wx.heap[w.heap.size+1+1]? = some (.cells Cp 170 (0,0))
 hd:wx.heap[w.heap.size+1+1+1]? = some (.cells (Uz x y nv sv (.slice (some ⟨gi,0,none⟩) n n) (.slice (some ⟨gh,0,none⟩) h h)) 170 (0,0))
 rI:kG wx gi 3 n (fun i=>.int .i64 (inp i))
 rH:kG wx gh 4 h (fun c=>.bool (has c))
 loi:w.heap.size+4<=gi
 loh:w.heap.size+4<=gh
theorem ZQ.below{inp:Nat->Int}{has:Nat->Bool}(k:ZQ w wx x y n h gi gh nv sv inp has)(hb:Below wx.heap.size wx wy):ZQ w wy x y n h gi gh nv sv inp has:=by
 have hs:=k.sz;have hz:=hb.size;exact⟨k.bel.trans (hb.mono (by omega)),by omega,by rw[hb.block _ (by omega)];exact k.bx,by rw[hb.block _ (by omega)];exact k.by',by rw[hb.block _ (by omega)];exact k.res,by rw[hb.block _ (by omega)];exact k.hd,k.rI.below hb,k.rH.below hb,k.loi,k.loh⟩
theorem ZQ.setI{inp f:Nat->Int}{has:Nat->Bool}(k:ZQ w wx x y n h gi gh nv sv inp has){i:Nat}(hi:i<n)(v:Int)(e1:f i=v)(e2:∀r,r<n->r≠i->f r=inp r):ZQ w (wx.setCell ⟨gi,i,none⟩ (.int .i64 v)) x y n h gi gh nv sv f has:=by
 have hs:=k.sz;have hl:=k.loi;refine⟨k.bel.setCell (p:=⟨gi,i,none⟩) (by show w.heap.size<=gi;omega) _,by simp[World.setCell];exact hs,?_,?_,?_,?_,k.rI.set _ hi (congrArg (Value.int .i64) e1) (fun a ha zJZ=>congrArg (Value.int .i64) (e2 a ha zJZ)),k.rH.other _ (k.rH.ne k.rI (by decide)),k.loi,k.loh⟩
 ·rw[lq wx ⟨gi,i,none⟩ _ _ (by show w.heap.size≠gi;omega)];exact k.bx
 ·rw[lq wx ⟨gi,i,none⟩ _ _ (by show w.heap.size+1≠gi;omega)];exact k.by'
 ·rw[lq wx ⟨gi,i,none⟩ _ _ (by show w.heap.size+1+1≠gi;omega)];exact k.res
 ·rw[lq wx ⟨gi,i,none⟩ _ _ (by show w.heap.size+1+1+1≠gi;omega)];exact k.hd
theorem ZQ.setH{inp:Nat->Int}{has f:Nat->Bool}(k:ZQ w wx x y n h gi gh nv sv inp has){i:Nat}(hi:i<h)(v:Bool)(e1:f i=v)(e2:∀r,r<h->r≠i->f r=has r):ZQ w (wx.setCell ⟨gh,i,none⟩ (.bool v)) x y n h gi gh nv sv inp f:=by
 have hs:=k.sz;have hl:=k.loh;refine⟨k.bel.setCell (p:=⟨gh,i,none⟩) (by show w.heap.size<=gh;omega) _,by simp[World.setCell];exact hs,?_,?_,?_,?_,k.rI.other _ (k.rI.ne k.rH (by decide)),k.rH.set _ hi (congrArg Value.bool e1) (fun a ha zJZ=>congrArg Value.bool (e2 a ha zJZ)),k.loi,k.loh⟩
 ·rw[lq wx ⟨gh,i,none⟩ _ _ (by show w.heap.size≠gh;omega)];exact k.bx
 ·rw[lq wx ⟨gh,i,none⟩ _ _ (by show w.heap.size+1≠gh;omega)];exact k.by'
 ·rw[lq wx ⟨gh,i,none⟩ _ _ (by show w.heap.size+1+1≠gh;omega)];exact k.res
 ·rw[lq wx ⟨gh,i,none⟩ _ _ (by show w.heap.size+1+1+1≠gh;omega)];exact k.hd
theorem ZQ.setHd{inp:Nat->Int}{has:Nat->Bool}(k:ZQ w wx x y n h gi gh nv sv inp has){nv' sv':Value}(e:(Uz x y nv sv (.slice (some ⟨gi,0,none⟩) n n) (.slice (some ⟨gh,0,none⟩) h h)).setIfInBounds j v=Uz x y nv' sv' (.slice (some ⟨gi,0,none⟩) n n) (.slice (some ⟨gh,0,none⟩) h h)):ZQ w (wx.setCell ⟨w.heap.size+1+1+1,j,none⟩ v) x y n h gi gh nv' sv' inp has:=by
 have hs:=k.sz;have l1:=k.loi;have l2:=k.loh;refine⟨k.bel.setCell (p:=⟨w.heap.size+1+1+1,j,none⟩) (by show w.heap.size<=w.heap.size+1+1+1;omega) _,by simp[World.setCell];exact hs,?_,?_,?_,?_,k.rI.other _ (by omega),k.rH.other _ (by omega),k.loi,k.loh⟩
 ·rw[lq wx ⟨w.heap.size+1+1+1,j,none⟩ _ _ (by show w.heap.size≠w.heap.size+1+1+1;omega)];exact k.bx
 ·rw[lq wx ⟨w.heap.size+1+1+1,j,none⟩ _ _ (by show w.heap.size+1≠w.heap.size+1+1+1;omega)];exact k.by'
 ·rw[lq wx ⟨w.heap.size+1+1+1,j,none⟩ _ _ (by show w.heap.size+1+1≠w.heap.size+1+1+1;omega)];exact k.res
 ·rw[p9 wx _ j _ _ _ k.hd,e]
theorem ZQ.setN{inp:Nat->Int}{has:Nat->Bool}(k:ZQ w wx x y n h gi gh nv sv inp has)(v:Value):ZQ w (wx.setCell ⟨w.heap.size+1+1+1,10,none⟩ v) x y n h gi gh v sv inp has:=k.setHd rfl
theorem ZQ.setS{inp:Nat->Int}{has:Nat->Bool}(k:ZQ w wx x y n h gi gh nv sv inp has)(v:Value):ZQ w (wx.setCell ⟨w.heap.size+1+1+1,11,none⟩ v) x y n h gi gh nv v inp has:=k.setHd rfl
theorem ZQ.grown{inp:Nat->Int}{has:Nat->Bool}(k:ZQ w wx x y n h gi gh nv sv inp has){e:TypeId}{q:Nat}(zJU:wx.ownsRow (w.heap.size+4) e m v q ys)(h1:3≠e)(h2:4≠e)(hg:wx.grownBy wy v.ownBlock):ZQ w wy x y n h gi gh nv sv inp has:=by
 have hs:=k.sz;have hb:=fun b (hb:b<w.heap.size+4)=>hg.block b (by omega) (fun e1=>by have:=(zU zJU b e1.symm).1;omega);exact⟨k.bel.grown hg (by omega) (fun b hb=>by have:=(zU zJU b hb).1;omega),by have:=hg.size;omega,by rw[hb _ (by omega)];exact k.bx,by rw[hb _ (by omega)];exact k.by',by rw[hb _ (by omega)];exact k.res,by rw[hb _ (by omega)];exact k.hd,k.rI.grown zJU h1 hg,k.rH.grown zJU h2 hg,k.loi,k.loh⟩
theorem ZQ.fresh{w4:World}(bx:w4.heap[w.heap.size]? = some (.cells #[.string ⟨x.1.label.toArray⟩,.int .i64 x.1.conc,x.2.1,x.2.2,.int .i64 x.1.root] 162 (0,0)))(by':w4.heap[w.heap.size+1]? = some (.cells #[.string ⟨y.1.label.toArray⟩,.int .i64 y.1.conc,y.2.1,y.2.2,.int .i64 y.1.root] 162 (0,0)))(res:w4.heap[w.heap.size+1+1]? = some (.cells Cp 170 (0,0)))(hd:w4.heap[w.heap.size+1+1+1]? = some (.cells (Uz x y (.slice none 0 0) (.slice none 0 0) (.slice none 0 0) (.slice none 0 0)) 170 (0,0)))(bel:Below w.heap.size w w4)(hs:w.heap.size+4<=w4.heap.size)(hb:Below w4.heap.size w4 wx)(hI:wx.heap[gi]? = some (.cells (iC (List.replicate n 0)) 3 (0,0)))(hH:wx.heap[gh]? = some (.cells (gC (List.replicate h false)) 4 (0,0)))(l1:w4.heap.size<=gi)(l2:w4.heap.size<=gh) :
 ZQ w (((wx.setCell ⟨w.heap.size+1+1+1,12,none⟩ (.slice (some ⟨gi,0,none⟩) n n)).setCell ⟨w.heap.size+1+1+1,13,none⟩ (.slice (some ⟨gh,0,none⟩) h h)).setCell ⟨w.heap.size+1+1+1,14,none⟩ (.slice none 0 0)) x y n h gi gh (.slice none 0 0) (.slice none 0 0) (fun _=>0) (fun _=>false):=by
 have hz:=hb.size;have ne:∀(v:Value) (j:Nat) (W:World) (b:Nat),b≠w.heap.size+1+1+1->(W.setCell ⟨w.heap.size+1+1+1,j,none⟩ v).heap[b]? = W.heap[b]? := fun v j W b hb=>lq W ⟨w.heap.size+1+1+1,j,none⟩ b v hb;have q0:wx.heap[w.heap.size+1+1+1]? = _:=(hb.block _ (by omega)).trans hd;have q1:=p9 wx _ 12 _ _ (.slice (some ⟨gi,0,none⟩) n n) q0;have q2:=p9 _ _ 13 _ _ (.slice (some ⟨gh,0,none⟩) h h) q1;have q3:=p9 _ _ 14 _ _ (.slice none 0 0) q2;refine⟨?_,by simp[World.setCell];omega,?_,?_,?_,q3,?_,?_,by omega,by omega⟩
 ·have h0:w.heap.size<=w.heap.size+1+1+1:=by omega
  exact((((bel.trans (hb.mono (by omega))).setCell (p:=⟨w.heap.size+1+1+1,12,none⟩) h0 _).setCell (p:=⟨w.heap.size+1+1+1,13,none⟩) h0 _).setCell (p:=⟨w.heap.size+1+1+1,14,none⟩) h0 _)
 ·rw[ne _ _ _ _ (by omega),ne _ _ _ _ (by omega),ne _ _ _ _ (by omega),hb.block _ (by omega)];exact bx
 ·rw[ne _ _ _ _ (by omega),ne _ _ _ _ (by omega),ne _ _ _ _ (by omega),hb.block _ (by omega)];exact by'
 ·rw[ne _ _ _ _ (by omega),ne _ _ _ _ (by omega),ne _ _ _ _ (by omega),hb.block _ (by omega)];exact res
 ·refine⟨_,by rw[ne _ _ _ _ (by omega),ne _ _ _ _ (by omega),ne _ _ _ _ (by omega)];exact hI,fun j hj=>?_⟩
  rw[ky (by simpa using hj)];simp[List.getD,hj]
 ·refine⟨_,by rw[ne _ _ _ _ (by omega),ne _ _ _ _ (by omega),ne _ _ _ _ (by omega)];exact hH,fun j hj=>?_⟩
  rw[Xn (by simpa using hj)];simp[List.getD,hj]
theorem eC(h:w.ownsRow B t k v n xs){u:Value}{cs:Array Value}{fz:Nat × Nat}(hb:w.heap[b]? = some (.cells cs t' fz))(zJZ:t≠t'):(w.setCell ⟨b,j,none⟩ u).ownsRow B t k v n xs:=⟨h.1,by
 rcases h.2 with q|⟨g',cap,yT,k1,k2,q3,k4⟩
 ·exact .inl q
 ·exact .inr ⟨g',cap,yT,k1,k2,by rw[lq w ⟨b,j,none⟩ g' u (YO q3 hb zJZ)];exact q3,k4⟩⟩
theorem eD(h:w.ownsRow B t k v n xs){g:Nat}{f:Nat->Value}(u:Value)(hr:kG w g t' m f)(zJZ:t≠t'):(w.setCell ⟨g,j,none⟩ u).ownsRow B t k v n xs:=by
 obtain⟨cs,q,_⟩:=hr;exact eC h q zJZ
theorem eE(h:w.ownsRow B t k v n xs)(hb:Below w.heap.size w w'):w'.ownsRow B t k v n xs:=⟨h.1,by
 rcases h.2 with q|⟨g',cap,yT,k1,k2,q3,k4⟩
 ·exact .inl q
 ·exact .inr ⟨g',cap,yT,k1,k2,by rw[hb.block g' (zQ q3)];exact q3,k4⟩⟩
theorem YG(h:w.ownsRow B t k v n xs){B' q:Nat}(zJU:w.ownsRow B' t' m v' q ys)(zJZ:t≠t')(hg:w.grownBy w' v'.ownBlock):w'.ownsRow B t k v n xs:=⟨h.1,by
 rcases h.2 with q|⟨g',cap,yT,k1,k2,q3,k4⟩
 ·exact .inl q
 ·refine .inr ⟨g',cap,yT,k1,k2,?_,k4⟩
  rw[hg.block g' (zQ q3) (fun e1=>?_)]
  ·exact q3
  ·rcases zJU.2 with ⟨p1,_⟩|⟨g2,_,_,p1,_,p3,_⟩
   ·rw[p1]at e1;simp[Value.ownBlock]at e1
   ·rw[p1]at e1;simp[Value.ownBlock]at e1
    subst e1;rw[q3]at p3;simp only[cp,Obj.cells.injEq]at p3;exact zJZ p3.2.1⟩
structure ZE(w wr:World)(x y:MX)(n h gi gh:Nat)(F:Nat->List (Int × Int))(nv sv:Value)(L:List NE)(T:List jV)(inp:Nat->Int)(has:Nat->Bool):Prop where
 ns:ZQ w wr x y n h gi gh nv sv inp has
 nums:wr.ownsRow (w.heap.size+4) 223 5 nv L.length (aB F L)
 zn:∀q∈L,xM wr 221 q.za (cT (F q.place))
 sws:wr.ownsRow (w.heap.size+4) 216 2 sv T.length (Yy T)
theorem ZE.below{inp:Nat->Int}{has:Nat->Bool}(k:ZE w wr x y n h gi gh F nv sv L T inp has)(hb:Below wr.heap.size wr wy):ZE w wy x y n h gi gh F nv sv L T inp has :=
 ⟨k.ns.below hb,eE k.nums hb,fun q hq=>(k.zn q hq).below hb,eE k.sws hb⟩
theorem ZE.setI{inp f:Nat->Int}{has:Nat->Bool}(k:ZE w wr x y n h gi gh F nv sv L T inp has){i:Nat}(hi:i<n)(v:Int)(e1:f i=v)(e2:∀r,r<n->r≠i->f r=inp r):ZE w (wr.setCell ⟨gi,i,none⟩ (.int .i64 v)) x y n h gi gh F nv sv L T f has :=
 ⟨k.ns.setI hi v e1 e2,eD k.nums _ k.ns.rI (by decide),fun q hq=>(k.zn q hq).row _ k.ns.rI (by decide),eD k.sws _ k.ns.rI (by decide)⟩
theorem ZE.setH{inp:Nat->Int}{has f:Nat->Bool}(k:ZE w wr x y n h gi gh F nv sv L T inp has){i:Nat}(hi:i<h)(v:Bool)(e1:f i=v)(e2:∀r,r<h->r≠i->f r=has r):ZE w (wr.setCell ⟨gh,i,none⟩ (.bool v)) x y n h gi gh F nv sv L T inp f :=
 ⟨k.ns.setH hi v e1 e2,eD k.nums _ k.ns.rH (by decide),fun q hq=>(k.zn q hq).row _ k.ns.rH (by decide),eD k.sws _ k.ns.rH (by decide)⟩
theorem ZE.tog{inp:Nat->Int}{has:Nat->Bool}(k:ZE w wr x y n h gi gh F nv sv L T inp has)(t:jV)(zJU:wy.ownsRow (w.heap.size+4) 216 2 v' (T.length+1) (Yy T++zIJ t))(hg:wr.grownBy wy sv.ownBlock):ZE w (wy.setCell ⟨w.heap.size+1+1+1,11,none⟩ v') x y n h gi gh F nv v' L (T++[t]) inp has:=by
 have k1:=k.ns.grown k.sws (by decide) (by decide) hg;refine⟨k1.setS v',eC (YG k.nums k.sws (by decide) hg) k1.hd (by decide),fun q hq=>((k.zn q hq).grown k.sws (by decide) hg).set k1.hd (by decide),?_⟩;rw[zq,tq];have e:Yy [t]=zIJ t:=by simp[Yy]
 rw[e];exact eC zJU k1.hd (by decide)
theorem ZE.num{inp:Nat->Int}{has:Nat->Bool}(k:ZE w wr x y n h gi gh F nv sv L T inp has)(q:NE)(hq:xM wr 221 q.za (cT (F q.place)))(zJU:wy.ownsRow (w.heap.size+4) 223 5 v' (L.length+1) (aB F L++zFH F q))(hg:wr.grownBy wy nv.ownBlock):ZE w (wy.setCell ⟨w.heap.size+1+1+1,10,none⟩ v') x y n h gi gh F v' sv (L++[q]) T inp has:=by
 have k1:=k.ns.grown k.nums (by decide) (by decide) hg;refine⟨k1.setN v',?_,fun r hr=>?_,eC (YG k.sws k.nums (by decide) hg) k1.hd (by decide)⟩
 ·rw[ua,tq]
  have e:aB F [q]=zFH F q:=by simp[aB]
  rw[e];exact eC zJU k1.hd (by decide)
 ·rcases ph.1 hr with hr|hr
  ·exact((k.zn r hr).grown k.nums (by decide) hg).set k1.hd (by decide)
  ·simp at hr;subst hr
   exact(hq.grown k.nums (by decide) hg).set k1.hd (by decide)
theorem DY(w:World)(g k:Nat)(cs:Array Value)(h:k≠g):(w.setRow g cs).heap[k]? = w.heap[k]? := by
 unfold World.setRow;simp only[Array.getElem?_modify];rw[tj (by omega)]
structure zIC(w wr:World)(n h gi gh:Nat)(F:Nat->List (Int × Int))(nv sv:Value)(L:List NE)(T:List jV)(inp:Nat->Int)(has:Nat->Bool):Prop where
 bel:Below w.heap.size w wr
 nums:wr.ownsRow (w.heap.size+4) 223 5 nv L.length (aB F L)
 zn:∀q∈L,xM wr 221 q.za (cT (F q.place))
 sws:wr.ownsRow (w.heap.size+4) 216 2 sv T.length (Yy T)
 rI:kG wr gi 3 n (fun i=>.int .i64 (inp i))
 rH:kG wr gh 4 h (fun c=>.bool (has c))
 loi:w.heap.size<=gi
 loh:w.heap.size<=gh
theorem ZE.done{inp:Nat->Int}{has:Nat->Bool}(k:ZE w wr x y n h gi gh F nv sv L T inp has)(cs:Array Value):zIC w (wr.setRow (w.heap.size+1+1) cs) n h gi gh F nv sv L T inp has:=by
 have zJZ:∀ {g:Nat} {c:Array Value} {t:TypeId} {fz:Nat × Nat},wr.heap[g]? = some (.cells c t fz)->t≠170->(wr.setRow (w.heap.size+1+1) cs).heap[g]? = wr.heap[g]? := fun h1 h2=>DY _ _ _ _ (YO h1 k.ns.res h2)
 have zJU:∀ {t:TypeId} {m q:Nat} {v:Value} {ys:List Value},wr.ownsRow (w.heap.size+4) t m v q ys->t≠170->(wr.setRow (w.heap.size+1+1) cs).ownsRow (w.heap.size+4) t m v q ys:=fun h1 h2=>⟨h1.1,by
  rcases h1.2 with q|⟨g',cap,yT,k1,k2,q3,k4⟩
  ·exact .inl q
  ·exact .inr ⟨g',cap,yT,k1,k2,by rw[zJZ q3 h2];exact q3,k4⟩⟩
 have hrow:∀ {t:TypeId} {g m:Nat} {f:Nat->Value},kG wr g t m f->t≠170->kG (wr.setRow (w.heap.size+1+1) cs) g t m f:=fun h1 h2=>by
  obtain⟨c,q1,q2⟩:=h1;exact⟨c,by rw[zJZ q1 h2];exact q1,q2⟩
 have l1:=k.ns.loi;have l2:=k.ns.loh;exact⟨yW k.ns.bel (by omega) _,zJU k.nums (by decide),fun q hq=>(k.zn q hq).keep fun g c fz hg=>zJZ hg (by decide),zJU k.sws (by decide),hrow k.ns.rI (by decide),hrow k.ns.rH (by decide),by omega,by omega⟩
def lK(I:List zX)(i j:Nat):Int:=if j<i then (jC I j).low else 0
def lN(e l:xU)(c j:Nat):Bool:=decide (j<c)&&uE e l j
theorem zEB:(Tryz.prog.info? 223).map (fun i=>(i.zero,i.size,i.bytes))=some (some (.agg #[.int .i64 0,.slice none 0 0,.int .i64 0,.int .i64 0,.int .i64 0]),5,56):=by kernel_rfl
theorem zE9:(Tryz.prog.info? 216).map (fun i=>(i.zero,i.size,i.bytes))=some (some (.agg #[.bool false,.int .i64 0]),2,16):=by kernel_rfl
def Kd(I:List zX)(H:Nat)(x y:MX)(w w':World)(e:Ending):Prop:=∃gi gh nv sv L,e=.returned (.agg (Uz x y nv sv (.slice (some ⟨gi,0,none⟩) I.length I.length) (.slice (some ⟨gh,0,none⟩) H H)))/\zIC w w' I.length H gi gh (tW I x.1 y.1) nv sv L (qD I x.1 y.1 I.length++uL x.1 y.1 H) (lK I I.length) (lN x.1 y.1 H)/\L.map NE.place=vI I x.1 y.1
theorem FJ(I:List zX)(i:Nat):lK I (i+1) i=(jC I i).low/\∀r,r≠i->lK I (i+1) r=lK I i r:=by
 refine⟨by unfold lK;rw[tr (by omega)],fun r hr=>?_⟩;unfold lK;by_cases h:r<i
 ·rw[tr (by omega),tr h]
 ·rw[tj (by omega),tj h]
theorem FR(e l:xU)(i:Nat):lN e l (i+1) i=uE e l i/\∀r,r≠i->lN e l (i+1) r=lN e l i r:=by
 refine⟨by unfold lN;simp,fun r hr=>?_⟩;unfold lN;by_cases h:r<i
 ·rw[ty h,ty (show r<i+1 by omega)]
 ·rw[tu h,tu (show ¬r<i+1 by omega)]
theorem gJ(r:xU)(i:Nat):(xG r i).length<=r.guard.length:=by unfold xG;rw[me];exact dw _ _
theorem Q8{a:Option Addr}(h:jQ w a (I.flatMap qI)){i:Nat}(hi:i<I.length):∃g,a=some ⟨g,0,none⟩/\w.cell? ⟨g,i*4,none⟩=some (.string ⟨(jC I i).name.toArray⟩)/\w.cell? ⟨g,i*4+1,none⟩=some (.bool (jC I i).isFlag)/\w.cell? ⟨g,i*4+2,none⟩=some (.int .i64 (jC I i).low)/\w.cell? ⟨g,i*4+3,none⟩=some (.int .i64 (jC I i).high):=by
 obtain⟨g,e,c0⟩:=h.at ((zR qI 4 (fun _=>rfl) um I i 0 hi (by decide)).trans rfl);obtain⟨g1,e1,c1⟩:=h.at ((zR qI 4 (fun _=>rfl) um I i 1 hi (by decide)).trans rfl);obtain⟨g2,e2,c2⟩:=h.at ((zR qI 4 (fun _=>rfl) um I i 2 hi (by decide)).trans rfl);obtain⟨g3,e3,c3⟩:=h.at ((zR qI 4 (fun _=>rfl) um I i 3 hi (by decide)).trans rfl);obtain rfl:g=g1:=by rw[e]at e1;simpa using e1
 obtain rfl:g=g2:=by rw[e]at e2;simpa using e2
 obtain rfl:g=g3:=by rw[e]at e3;simpa using e3
 exact⟨g,e,c0,c1,c2,c3⟩
theorem KP(w:World)(b o:Nat)(I:List zX)(H:Nat)(x y:MX)(ia ca:Option Addr)(ic cc:Nat)(h0:w.cell? ⟨b,o,none⟩=some (.slice ia I.length ic))(h1:w.cell? ⟨b,o+1,none⟩=some (.slice ca H cc))(hI:xM w 204 ia (I.flatMap qI))(hx:qK w x)(hy:qK w y)(fI:I.length<=10000)(fH:H<=10000)(hbd:∀i z,z∈xG x.1 i++xG y.1 i -> -1000000<=z/\z<=1000000)(hzf:∀i,(tW I x.1 y.1 i).length<=100000) :
 Calls Tryz.prog 66 #[.pointer (some ⟨b,o,none⟩),qB x,qB y] w fun e w'=>Kd I H x y w w' e:=by
 have lb:=vK h0;obtain⟨i0,hi0,hz0,hz1,hz2⟩:=info_parts zE9;obtain⟨j0,hj0,hj1,hj2,hj3⟩:=info_parts zEB;have zKD:=zA (fun w' (hb:Below w.heap.size w w') i (hi:i<I.length)=>Q8 (hI.below hb).cel hi);have HAI1:=zA (fun w' (hb:Below w.heap.size w w') (c:Nat)=>ZH w' x c (hx.below hb));have HAI2:=zA (fun w' (hb:Below w.heap.size w w') (c:Nat)=>ZH w' y c (hy.below hb));have HBd1:=zA (fun w' (hb:Below w.heap.size w w') (c:Nat)=>Uf w' x c (hx.below hb));have HBd2:=zA (fun w' (hb:Below w.heap.size w w') (c:Nat)=>Uf w' y c (hy.below hb));have HNd1:=zA (fun w' (hb:Below w.heap.size w w') (c:Nat)=>Dz w' x c (hx.below hb));have HNd2:=zA (fun w' (hb:Below w.heap.size w w') (c:Nat)=>Dz w' y c (hy.below hb));have HAH1:=zA (fun w' (hb:Below w.heap.size w w') (c:Nat)=>Ja w' x c (hx.below hb));have HAH2:=zA (fun w' (hb:Below w.heap.size w w') (c:Nat)=>Ja w' y c (hy.below hb));have HZo:Hid (∀w' i (ea la:Option Addr) (ec lc:Nat),lR w' ea (xG x.1 i)->lR w' la (xG y.1 i)->Calls Tryz.prog 97 #[CI (jC I i),.slice ea (xG x.1 i).length ec,.slice la (xG y.1 i).length lc] w' fun e w''=>∃v,e=.returned v/\w''.ownsRow w'.heap.size 221 2 v (tW I x.1 y.1 i).length (cT (tW I x.1 y.1 i))/\Below w'.heap.size w' w''):=fun w' i ea la ec lc h1 h2=>D2 w' (jC I i) ea la ec lc _ _ h1 h2 (hbd i);have HBl1:Hid (∀i,(xG x.1 i).length<=10000):=fun i=>p8 (gJ _ _) hx.few2;have HBl2:Hid (∀i,(xG y.1 i).length<=10000):=fun i=>p8 (gJ _ _) hy.few2;have HNs:=zA (fun i=>KM I x.1 y.1 i);have HS1:=zA (fun i=>Ux I x.1 y.1 i);have HS2:=zA (fun i=>Uw x.1 y.1 i);have HNl:=zA (fun i=>YK I x.1 y.1 i);have HS1l:=zA (fun i=>Qj I x.1 y.1 i);have HS2l:=zA (fun i=>Qi x.1 y.1 i);have HIs:=zA (fun i=>FJ I i);have HHs:=zA (fun i=>FR x.1 y.1 i);have HAb:Hid (∀i,qR x.1 y.1 i=(tV x.1 i || tV y.1 i)):=fun _=>rfl;have HNb:Hid (∀i,uE x.1 y.1 i=(mG x.1 i || mG y.1 i)):=fun _=>rfl;have HIf:Hid (∀i,xN I i = !(jC I i).isFlag):=fun _=>rfl;have HPo:Hid (∀w' gi gh nv sv L,zIC w w' I.length H gi gh (tW I x.1 y.1) nv sv L (qD I x.1 y.1 I.length++uL x.1 y.1 H) (lK I I.length) (lN x.1 y.1 H)->L.map NE.place=mD I x.1 y.1 I.length->Kd I H x y w w' (.returned (.agg (Uz x y nv sv (.slice (some ⟨gi,0,none⟩) I.length I.length) (.slice (some ⟨gh,0,none⟩) H H))))):=fun w' gi gh nv sv L h1 h2=>⟨gi,gh,nv,sv,L,rfl,h1,h2⟩;have HZf:=zA hzf;obtain⟨pa,pc,e1,-⟩:=hx.sum;obtain⟨ga,gc,e2,-⟩:=hx.guard;obtain⟨pa',pc',e3,-⟩:=hy.sum;obtain⟨ga',gc',e4,-⟩:=hy.guard
 have HCx:Hid (∀wr n gi gh F nv sv L T f g,ZE w wr x y n H gi gh F nv sv L T f g->((wr.cell? ⟨w.heap.size,0,none⟩=some (.string ⟨x.1.label.toArray⟩)/\wr.cell? ⟨w.heap.size,1,none⟩=some (.int .i64 x.1.conc)/\wr.cell? ⟨w.heap.size,2,none⟩=some (.slice pa x.1.sum.length pc)/\wr.cell? ⟨w.heap.size,3,none⟩=some (.slice ga x.1.guard.length gc)/\wr.cell? ⟨w.heap.size,4,none⟩=some (.int .i64 x.1.root))/\(wr.cell? ⟨w.heap.size+1,0,none⟩=some (.string ⟨y.1.label.toArray⟩)/\wr.cell? ⟨w.heap.size+1,1,none⟩=some (.int .i64 y.1.conc)/\wr.cell? ⟨w.heap.size+1,2,none⟩=some (.slice pa' y.1.sum.length pc')/\wr.cell? ⟨w.heap.size+1,3,none⟩=some (.slice ga' y.1.guard.length gc')/\wr.cell? ⟨w.heap.size+1,4,none⟩=some (.int .i64 y.1.root))/\(wr.cell? ⟨w.heap.size+1+1+1,10,none⟩=some nv/\wr.cell? ⟨w.heap.size+1+1+1,11,none⟩=some sv/\wr.cell? ⟨w.heap.size+1+1+1,12,none⟩=some (.slice (some ⟨gi,0,none⟩) n n)/\wr.cell? ⟨w.heap.size+1+1+1,13,none⟩=some (.slice (some ⟨gh,0,none⟩) H H))/\∀j,wr.frozen? ⟨w.heap.size+1+1+1,j,none⟩=false)):=fun wr n gi gh F nv sv L T f g k=>by
  have q1:=k.ns.bx;have q2:=k.ns.by'
  rw[e1,e2]at q1;rw[e3,e4]at q2;exact⟨⟨zC q1 0,zC q1 1,zC q1 2,zC q1 3,zC q1 4⟩,⟨zC q2 0,zC q2 1,zC q2 2,zC q2 3,zC q2 4⟩,⟨zC k.ns.hd 10,zC k.ns.hd 11,zC k.ns.hd 12,zC k.ns.hd 13⟩,fun j=>by simp[World.frozen?,k.ns.hd]⟩
 have HFr:Hid (∀ {w4 wx:World} {n gi gh:Nat},w4.heap[w.heap.size]? = some (.cells #[.string ⟨x.1.label.toArray⟩,.int .i64 x.1.conc,.slice pa x.1.sum.length pc,.slice ga x.1.guard.length gc,.int .i64 x.1.root] 162 (0,0))->w4.heap[w.heap.size+1]? = some (.cells #[.string ⟨y.1.label.toArray⟩,.int .i64 y.1.conc,.slice pa' y.1.sum.length pc',.slice ga' y.1.guard.length gc',.int .i64 y.1.root] 162 (0,0))->w4.heap[w.heap.size+1+1]? = some (.cells Cp 170 (0,0))->w4.heap[w.heap.size+1+1+1]? = some (.cells #[.string ⟨x.1.label.toArray⟩,.int .i64 x.1.conc,.slice pa x.1.sum.length pc,.slice ga x.1.guard.length gc,.int .i64 x.1.root,.string ⟨y.1.label.toArray⟩,.int .i64 y.1.conc,.slice pa' y.1.sum.length pc',.slice ga' y.1.guard.length gc',.int .i64 y.1.root,.slice none 0 0,.slice none 0 0,.slice none 0 0,.slice none 0 0,.slice none 0 0] 170 (0,0))->Below w.heap.size w w4->w.heap.size+4<=w4.heap.size->Below w4.heap.size w4 wx->wx.heap[gi]? = some (.cells (iC (List.replicate n 0)) 3 (0,0))->wx.heap[gh]? = some (.cells (gC (List.replicate H false)) 4 (0,0))->w4.heap.size<=gi->w4.heap.size<=gh->ZE w (((wx.setCell ⟨w.heap.size+1+1+1,12,none⟩ (.slice (some ⟨gi,0,none⟩) n n)).setCell ⟨w.heap.size+1+1+1,13,none⟩ (.slice (some ⟨gh,0,none⟩) H H)).setCell ⟨w.heap.size+1+1+1,14,none⟩ (.slice none 0 0)) x y n H gi gh (tW I x.1 y.1) (.slice none 0 0) (.slice none 0 0) [] [] (lK I 0) (lN x.1 y.1 0)):=fun {w4 wx n gi gh} q1 q2 q3 q4 q5 q6 q7 q8 q9 q10 q11=>by
  have hz:lK I 0=fun _=>0:=by funext j;unfold lK;rw[tj (by omega)]
  have hz2:lN x.1 y.1 0=fun _=>false:=by funext j;unfold lN;rw[tu (by omega)];rfl
  rw[hz,hz2];exact⟨ZQ.fresh (x:=x) (y:=y) (by rw[e1,e2];exact q1) (by rw[e3,e4];exact q2) q3 (by unfold Uz;rw[e1,e2,e3,e4];exact q4) q5 q6 q7 q8 q9 q10 q11,⟨rfl,.inl ⟨rfl,rfl⟩⟩,fun q hq=>by simp at hq,⟨rfl,.inl ⟨rfl,rfl⟩⟩⟩
 have HOne:Hid (∀nv sv iv hv:Value,nv.oneCell'=true->sv.oneCell'=true->iv.oneCell'=true->hv.oneCell'=true->(Uz x y nv sv iv hv).all (·.oneCell')=true):=fun nv sv iv hv h1 h2 h3 h4=>C3 (by rw[e1];rfl) (by rw[e2];rfl) (by rw[e3];rfl) (by rw[e4];rfl) h1 h2 h3 h4
 simp only[qB]at HAI1 HAI2 HBd1 HBd2 HNd1 HNd2 HAH1 HAH2 ⊢;rw[e1,e2]at HAI1 HBd1 HNd1 HAH1;rw[e3,e4]at HAI2 HBd2 HNd2 HAH2;rw[e1,e2,e3,e4];have HE1:=zA (show x.2.1=_ from e1);clear e1 e2 e3 e4 hx hy hbd hzf hI;have hmI:=run_make_row' (P:=Tryz.prog) 22 3 (.int .i64 0) 8 Tryz.underlying22 Q9 rfl .i64 .i64 I.length (by omega) (by omega);have hmH:=run_make_row' (P:=Tryz.prog) 166 4 (.bool false) 1 Tryz.underlying166 Vn rfl .i64 .i64 H (by omega) (by omega);rw[YS]at hmH;rw[F7]at hmI;generalize x.1.label=xl at *;generalize x.1.conc=xc at *;generalize x.1.root=xr at *;generalize x.1.sum.length=xn at *;generalize x.1.guard.length=xm at *;generalize y.1.label=yl at *;generalize y.1.conc=yc at *;generalize y.1.root=yr at *;generalize y.1.sum.length=yn at *;generalize y.1.guard.length=ym at *;have h1':=h1;have lb1:=lb
 go_enter Tryz.func66,Tryz.ntmps66
 go_upto_region 2 with fail
 obtain⟨w4,hw4⟩:∃w4,w4=(((w.alloc (Obj.cells #[Value.string ⟨xl.toArray⟩,.int .i64 xc,.slice pa xn pc,.slice ga xm gc,.int .i64 xr] 162)).alloc (Obj.cells #[Value.string ⟨yl.toArray⟩,.int .i64 yc,.slice pa' yn pc',.slice ga' ym gc',.int .i64 yr] 162)).alloc (Obj.cells Cp 170)).alloc (Obj.cells #[.string ⟨xl.toArray⟩,.int .i64 xc,.slice pa xn pc,.slice ga xm gc,.int .i64 xr,.string ⟨yl.toArray⟩,.int .i64 yc,.slice pa' yn pc',.slice ga' ym gc',.int .i64 yr,.slice none 0 0,.slice none 0 0,.slice none 0 0,.slice none 0 0,.slice none 0 0] 170):=⟨_,rfl⟩;have hw4':=hw4;unfold Cp at hw4;rw[<-hw4];clear hw4;have x0:w4.heap[w.heap.size]? = some (.cells #[.string ⟨xl.toArray⟩,.int .i64 xc,.slice pa xn pc,.slice ga xm gc,.int .i64 xr] 162 (0,0)):=by rw[hw4'];exact yD (yD (yD (zH _ _)))
 have x1:w4.heap[w.heap.size+1]? = some (.cells #[.string ⟨yl.toArray⟩,.int .i64 yc,.slice pa' yn pc',.slice ga' ym gc',.int .i64 yr] 162 (0,0)):=by rw[hw4'];exact yD (yD (vT _ _ _ (by simp)))
 have x2:w4.heap[w.heap.size+1+1]? = some (.cells Cp 170 (0,0)):=by rw[hw4'];exact yD (vT _ _ _ (by simp))
 have x3:w4.heap[w.heap.size+1+1+1]? = some (.cells #[.string ⟨xl.toArray⟩,.int .i64 xc,.slice pa xn pc,.slice ga xm gc,.int .i64 xr,.string ⟨yl.toArray⟩,.int .i64 yc,.slice pa' yn pc',.slice ga' ym gc',.int .i64 yr,.slice none 0 0,.slice none 0 0,.slice none 0 0,.slice none 0 0,.slice none 0 0] 170 (0,0)):=by rw[hw4'];exact vT _ _ _ (by simp)
 have hs4:w4.heap.size=w.heap.size+4:=by rw[hw4'];simp
 have HB4:Hid (Below w.heap.size w w4):=by unfold Hid;rw[hw4'];exact(((fe (tg _) _).alloc (by simp) _).alloc (by simp;omega) _).alloc (by simp;omega) _
 have k0:w4.cell? ⟨b,o,none⟩=some (.slice ia I.length ic):=(HB4.out.cell (p:=⟨b,o,none⟩) lb).trans h0;have k1:w4.cell? ⟨b,o+1,none⟩=some (.slice ca H cc):=(HB4.out.cell (p:=⟨b,o+1,none⟩) lb).trans h1;have l3:w.heap.size+1+1+1<w4.heap.size:=by omega
 have l4:b<w4.heap.size:=by omega
 have HQ:Hid (∀A B:Obj,((w4.alloc A).alloc B).heap[w.heap.size+1+1+1]? = _):=fun A B=>yD (yD x3);have f12:∀A B:Obj,((w4.alloc A).alloc B).frozen? ⟨w.heap.size+1+1+1,12,none⟩=false:=fun A B=>by simp[World.frozen?,HQ.out A B]
 have f13:∀A B:Obj,((w4.alloc A).alloc B).frozen? ⟨w.heap.size+1+1+1,13,none⟩=false:=fun A B=>by simp[World.frozen?,HQ.out A B]
 have f14:∀A B:Obj,((w4.alloc A).alloc B).frozen? ⟨w.heap.size+1+1+1,14,none⟩=false:=fun A B=>by simp[World.frozen?,HQ.out A B]
 have c12:∀A B:Obj,((w4.alloc A).alloc B).cell? ⟨w.heap.size+1+1+1,12,none⟩=some (.slice none 0 0):=fun A B=>zC (HQ.out A B) 12;have c13:∀A B:Obj,((w4.alloc A).alloc B).cell? ⟨w.heap.size+1+1+1,13,none⟩=some (.slice none 0 0):=fun A B=>zC (HQ.out A B) 13;have c14:∀A B:Obj,((w4.alloc A).alloc B).cell? ⟨w.heap.size+1+1+1,14,none⟩=some (.slice none 0 0):=fun A B=>zC (HQ.out A B) 14;have HX0:=zA x0;have HX1:=zA x1;have HX2:=zA x2;have HX3:=zA x3;have hs4':w.heap.size+4<=w4.heap.size:=by omega
 clear hw4' hs4 x0 x1 x2 x3
 go_cut [7] from 17 to 30 (fun v7 wx=>v7=.pointer (some ⟨w.heap.size+1+1+1,0,none⟩)/\∃gi gh,Hid (ZE w wx x y I.length H gi gh (tW I x.1 y.1) (.slice none 0 0) (.slice none 0 0) [] [] (lK I 0) (lN x.1 y.1 0)))
 case first =>
  go_region
  all_goals
   go_wp2_with fail
   go_meet
  ·exact⟨rfl,w4.heap.size,w4.heap.size+1,zA ((HFr.out (n:=I.length) (gi:=w4.heap.size) (gh:=w4.heap.size+1) HX0.out HX1.out HX2.out HX3.out HB4.out hs4' ((fe (tg _) _).alloc (by simp) _) (yD (zH _ _)) (vT _ _ _ (by simp)) (by omega) (by omega)).below (pu (tl _ _)))⟩
  ·exact⟨rfl,w4.heap.size+1,w4.heap.size,zA ((HFr.out (n:=I.length) (gi:=w4.heap.size+1) (gh:=w4.heap.size) HX0.out HX1.out HX2.out HX3.out HB4.out hs4' ((fe (tg _) _).alloc (by simp) _) (vT _ _ _ (by simp)) (yD (zH _ _)) (by omega) (by omega)).below (pu (tl _ _)))⟩
 case rest =>
  obtain⟨rfl,gi,gh,HS⟩:=hcut;generalize hwA:wc=wA at *;clear hwA HX0 HX1 HX2 HX3 HB4 k0 k1 l3 l4 HQ f12 f13 f14 c12 c13 c14 hmI hmH hs4' HFr;have HMd:Hid (∀wr,Below w.heap.size w wr->wr.cell? ⟨b,o,none⟩=some (.slice ia I.length ic)/\wr.cell? ⟨b,o+1,none⟩=some (.slice ca H cc)):=fun wr hb=>⟨(hb.cell (p:=⟨b,o,none⟩) lb).trans h0,(hb.cell (p:=⟨b,o+1,none⟩) lb).trans h1⟩;obtain⟨k0,k1⟩:=HMd.out wA HS.out.ns.bel;clear h0 h1 h1' lb1;go_wp2_with fail
  go_loopw [36] (fun iv wr=>∃(i:Nat) (nv sv:Value) (L:List NE),i<=I.length/\iv=.int .i64 i/\Hid (ZE w wr x y I.length H gi gh (tW I x.1 y.1) nv sv L (qD I x.1 y.1 i) (lK I i) (lN x.1 y.1 0))/\Hid (L.map NE.place=mD I x.1 y.1 i)) (fun iv _=>I.length-(intOf iv).toNat)
  case atStart=>exact⟨0,_,_,[],p7 _,rfl,HS,zA rfl⟩
  case round =>
   obtain⟨i,nv,sv,L,hi,rfl,HN,HP⟩:=hrel;have zK2:=HN.out.ns.sz;by_cases zJS:i<I.length
   ·obtain⟨g,rfl,n0,n1,n2,n3⟩:=zKD.out wr HN.out.ns.bel i zJS
    obtain⟨-,-,⟨-,-,d12,-⟩,-⟩:=HCx.out _ _ _ _ _ _ _ _ _ _ _ HN.out;have ii:(i:Int)<(I.length:Int):=by omega
    have lg:=vK n0;have ng:wr.heap.size≠g:=by omega
    have m3:w.heap.size+1+1+1<wr.heap.size:=by omega
    have m3':wr.heap.size≠w.heap.size+1+1+1:=by omega
    have ci:wr.cell? ⟨gi,i,none⟩=some (.int .i64 (lK I i i)):=HN.out.ns.rI.cell zJS;have fi:wr.frozen? ⟨gi,i,none⟩=false:=HN.out.ns.rI.free i;have lgi:=vK ci;have ngi:wr.heap.size≠gi:=by omega
    have ngi':gi≠wr.heap.size:=by omega
    have HSet:Hid (ZE w (wr.setCell ⟨gi,i,none⟩ (.int .i64 (jC I i).low)) x y I.length H gi gh (tW I x.1 y.1) nv sv L (qD I x.1 y.1 i) (lK I (i+1)) (lN x.1 y.1 0)):=HN.out.setI zJS _ (HIs.out i).1 (fun r _ hr=>(HIs.out i).2 r hr);have HAI1i:=zA (fun w' hb=>HAI1.out w' hb i);have HAI2i:=zA (fun w' hb=>HAI2.out w' hb i);have HBd1i:=zA (fun w' hb=>HBd1.out w' hb i);have HBd2i:=zA (fun w' hb=>HBd2.out w' hb i);have HZoi:=zA (fun w'=>HZo.out w' i);have HBl1i:=HBl1.out i;have HBl2i:=HBl2.out i;have HNsi:=zA (HNs.out i);have HS1i:=zA (HS1.out i);have hNl:=HNl.out i;have hS1l:=HS1l.out i;have hLl:L.length<=i:=by have:=congrArg List.length HP.out;rw[me]at this;omega
    rw[HAb.out i,HIf.out i]at HNsi HS1i;have hzl:=HZf.out i;have HNeC:Hid (∀za zc,zFH (tW I x.1 y.1) ⟨i,za,zc⟩=[.int .i64 (i:Nat),.slice za (tW I x.1 y.1 i).length zc,.int .i64 0,.int .i64 0,.int .i64 0]):=fun _ _=>rfl;generalize lK I i i=old at *;generalize jC I i=xi at *;obtain⟨xin,xif,xil,xih⟩:=xi;simp only[CI]at n0 n1 n2 n3 HSet HNsi HS1i HZoi;generalize tV x.1 i=q1 at *;generalize tV y.1 i=q2 at *
    go_upto_region 7 with fail
    have HN7:Hid (ZE w ((wr.setCell ⟨gi,i,none⟩ (.int .i64 xil)).alloc (.cells #[.string ⟨xin.toArray⟩,.bool xif,.int .i64 xil,.int .i64 xih] 204)) x y I.length H gi gh (tW I x.1 y.1) nv sv L (qD I x.1 y.1 i) (lK I (i+1)) (lN x.1 y.1 0)):=HSet.out.below (fe (tg _) _);have HI7:Hid (((wr.setCell ⟨gi,i,none⟩ (.int .i64 xil)).alloc (.cells #[.string ⟨xin.toArray⟩,.bool xif,.int .i64 xil,.int .i64 xih] 204)).heap[wr.heap.size]? = some (.cells #[.string ⟨xin.toArray⟩,.bool xif,.int .i64 xil,.int .i64 xih] 204 (0,0))):=vT _ _ _ (by simp[World.setCell]);generalize (wr.setCell ⟨gi,i,none⟩ (.int .i64 xil)).alloc (.cells #[.string ⟨xin.toArray⟩,.bool xif,.int .i64 xil,.int .i64 xih] 204)=w7 at *;clear HSet n0 n1 n2 n3 ci fi lgi ngi ngi' d12 HN zK2 m3 m3' lg ng;obtain⟨⟨a0,a1,a2,a3,a4⟩,-,-,-⟩:=HCx.out _ _ _ _ _ _ _ _ _ _ _ HN7.out;have HAI1w:=zA (HAI1i.out w7 HN7.out.ns.bel)
    have HYc:Hid (∀w8,Below w7.heap.size w7 w8->Below w.heap.size w w8/\w8.cell? ⟨w.heap.size+1,0,none⟩=some (.string ⟨yl.toArray⟩)/\w8.cell? ⟨w.heap.size+1,1,none⟩=some (.int .i64 yc)/\w8.cell? ⟨w.heap.size+1,2,none⟩=some (.slice pa' yn pc')/\w8.cell? ⟨w.heap.size+1,3,none⟩=some (.slice ga' ym gc')/\w8.cell? ⟨w.heap.size+1,4,none⟩=some (.int .i64 yr)):=fun w8 hb=>by
     have k:=HN7.out.below hb;obtain⟨-,h9,-,-⟩:=HCx.out _ _ _ _ _ _ _ _ _ _ _ k;exact⟨k.ns.bel,h9⟩
    go_cut [57] from 48 to 57 (fun v57 wx=>v57=.bool (!(q1 || q2))/\Hid (Below w7.heap.size w7 wx))
    case first =>
     cases q1
     ·go_wp2_with fail
      refine HAI1w.out.mono ?_;rintro e w8 ⟨rfl,hb8⟩;obtain⟨p1,p2,p3,p4,p5,p6⟩:=HYc.out w8 hb8;have HA2w:=zA (HAI2i.out w8 p1);have HB8:=zA hb8;clear hb8 p1 a0 a1 a2 a3 a4;go_wp2_with fail
      refine HA2w.out.mono ?_;rintro e w9 ⟨rfl,hb9⟩;have HB9:Hid (Below w7.heap.size w7 w9):=HB8.out.trans (hb9.mono HB8.out.size);clear hb9;cases q2
      ·go_wp2_with fail
       go_meet
       exact⟨rfl,HB9⟩
      ·go_wp2_with fail
       go_meet
       exact⟨rfl,HB9⟩
     ·go_wp2_with fail
      refine HAI1w.out.mono ?_;rintro e w8 ⟨rfl,hb8⟩;have HB8:=zA hb8;clear hb8;go_wp2_with fail
      go_meet
      exact⟨rfl,HB8⟩
    case rest =>
     obtain⟨rfl,HB8⟩:=hcut;generalize hwB:wc=w8 at *;clear hwB a0 a1 a2 a3 a4 HAI1w HAI1i HAI2i HYc;have HN8:=zA (HN7.out.below HB8.out);have HI8:Hid (w8.heap[wr.heap.size]? = some (.cells #[.string ⟨xin.toArray⟩,.bool xif,.int .i64 xil,.int .i64 xih] 204 (0,0))):=by unfold Hid;rw[HB8.out.block _ (zQ HI7.out)];exact HI7.out
     clear HN7 HI7 HB8;generalize (q1 || q2)=qq at *;cases qq
     ·have HE1:Hid (qD I x.1 y.1 (i+1)=qD I x.1 y.1 i):=by have:=HS1i.out;unfold Hid;simpa using this
      have HE2:Hid (mD I x.1 y.1 (i+1)=mD I x.1 y.1 i):=by have:=HNsi.out;unfold Hid;simpa using this
      go_wp2_with fail
      go_roundw
      case rel=>exact⟨i+1,nv,sv,L,by omega,by go_num,by rw[HE1.out];exact HN8,by rw[HE2.out];exact HP⟩
      case measure=>simp[intOf];omega
     ·have u0:w8.cell? ⟨wr.heap.size,0,none⟩=some (.string ⟨xin.toArray⟩):=zC HI8.out 0
      have u1:w8.cell? ⟨wr.heap.size,1,none⟩=some (.bool xif):=zC HI8.out 1;have u2:w8.cell? ⟨wr.heap.size,2,none⟩=some (.int .i64 xil):=zC HI8.out 2;have u3:w8.cell? ⟨wr.heap.size,3,none⟩=some (.int .i64 xih):=zC HI8.out 3;obtain⟨⟨a0,a1,a2,a3,a4⟩,⟨b0,b1,b2,b3,b4⟩,⟨d10,d11,d12,d13⟩,dF⟩:=HCx.out _ _ _ _ _ _ _ _ _ _ _ HN8.out;have hs8:=HN8.out.ns.sz;have m3:w.heap.size+1+1+1<w8.heap.size:=by omega
      have m3':w8.heap.size≠w.heap.size+1+1+1:=by omega
      cases xif
      ·have HE1:Hid (qD I x.1 y.1 (i+1)=qD I x.1 y.1 i):=by have:=HS1i.out;unfold Hid;simpa using this
       have HE2:Hid (mD I x.1 y.1 (i+1)=mD I x.1 y.1 i++[i]):=by have:=HNsi.out;unfold Hid;simpa using this
       have HB1w:=zA (HBd1i.out w8 HN8.out.ns.bel);go_wp2_with fail
       refine HB1w.out.mono ?_;rintro e w9 ⟨v9,rfl,ho9,hb9⟩;have HN9:=zA (HN8.out.below hb9);obtain⟨ea,ec,rfl,hcel9,-,-⟩:=fV ho9;have HIa:Hid (lR w9 ea (xG x.1 i)):=⟨hcel9,HBl1i⟩;have HI9:Hid (w9.heap[wr.heap.size]? = some (.cells #[.string ⟨xin.toArray⟩,.bool false,.int .i64 xil,.int .i64 xih] 204 (0,0))):=by unfold Hid;rw[hb9.block _ (zQ HI8.out)];exact HI8.out
       obtain⟨-,⟨e0,e1,e2,e3,e4⟩,-,-⟩:=HCx.out _ _ _ _ _ _ _ _ _ _ _ HN9.out;have HB2w:=zA (HBd2i.out w9 HN9.out.ns.bel);clear ho9 hb9 hcel9 u0 u1 u2 u3 a0 a1 a2 a3 a4 b0 b1 b2 b3 b4 d10 d11 d12 d13 dF m3 m3' hs8 HN8 HI8 HB1w;generalize xG x.1 i=be at *;go_wp2_with fail
       refine HB2w.out.mono ?_;rintro e w10 ⟨v10,rfl,ho10,hb10⟩;have HN10:=zA (HN9.out.below hb10);obtain⟨la,lc,rfl,hcel10,-,-⟩:=fV ho10;have HIb:Hid (lR w10 la (xG y.1 i)):=⟨hcel10,HBl2i⟩;have HIa2:=zA (HIa.out.below hb10);have HI10:Hid (w10.heap[wr.heap.size]? = some (.cells #[.string ⟨xin.toArray⟩,.bool false,.int .i64 xil,.int .i64 xih] 204 (0,0))):=by unfold Hid;rw[hb10.block _ (zQ HI9.out)];exact HI9.out
       have u0:w10.cell? ⟨wr.heap.size,0,none⟩=some (.string ⟨xin.toArray⟩):=zC HI10.out 0;have u1:w10.cell? ⟨wr.heap.size,1,none⟩=some (.bool false):=zC HI10.out 1;have u2:w10.cell? ⟨wr.heap.size,2,none⟩=some (.int .i64 xil):=zC HI10.out 2;have u3:w10.cell? ⟨wr.heap.size,3,none⟩=some (.int .i64 xih):=zC HI10.out 3;have HZw:=zA (HZoi.out w10 ea la ec lc HIa2.out HIb.out);clear ho10 hb10 hcel10 e0 e1 e2 e3 e4 HN9 HI9 HB2w HIa HIa2 HIb;generalize xG y.1 i=bl at *;go_wp2_with fail
       refine HZw.out.mono ?_;rintro e w11 ⟨v11,rfl,ho11,hb11⟩;have HN11:=zA (HN10.out.below hb11);obtain⟨za,zc,rfl,hcT⟩:=uM ho11;have HCT:=zA hcT;obtain⟨-,-,⟨d10,d11,d12,d13⟩,dF⟩:=HCx.out _ _ _ _ _ _ _ _ _ _ _ HN11.out;have hs11:=HN11.out.ns.sz;have m3:w.heap.size+1+1+1<w11.heap.size:=by omega
       have m3':w11.heap.size≠w.heap.size+1+1+1:=by omega
       clear ho11 hb11 hcT u0 u1 u2 u3 HN10 HI10 HZw;have HNum:=zA (fun (ob:Obj) (wy:World) (v':Value) (zJU:wy.ownsRow (w.heap.size+4) 223 5 v' (L.length+1) (aB (tW I x.1 y.1) L++zFH (tW I x.1 y.1) ⟨i,za,zc⟩)) (hg:(w11.alloc ob).grownBy wy nv.ownBlock)=>(HN11.out.below (fe (tg _) ob)).num ⟨i,za,zc⟩ (HCT.out.below (fe (tg _) ob)) zJU hg);obtain⟨na,nc,rfl⟩:=zO HN11.out.nums;have HOn:=zA HN11.out.nums;have HPl:Hid ((L++[(⟨i,za,zc⟩:NE)]).map NE.place=mD I x.1 y.1 (i+1)):=by unfold Hid;rw[lj,HP.out,HE2.out];rfl
       rw[HNeC.out za zc]at HNum;generalize (tW I x.1 y.1 i).length=zl at *
       go_wp2_with (at_builtin;refine wpList_append_own _ rfl _ _ 164 rfl (w.heap.size+4) 223 j0 _ 5 56 Tryz.underlying164 hj0 hj1 hj2 hj3 rfl (by decide) _ _ _ rfl (HOn.out.alloc _) ⟨w11.heap.size,0,none⟩ 1 1 [.int .i64 (i:Nat),.slice za zl zc,.int .i64 0,.int .i64 0,.int .i64 0] rfl rfl ?c1k1 ?c1k2 ?c1k3 ?c1k4 ?c1k5 ?_)
       try (case c1k1=>first|exact zM _ _ _ _ rfl|exact fun _ _ h=>h)
       try (case c1k2=>first|exact⟨rfl,rfl,rfl,rfl,rfl⟩|(intro u hu;simp at hu;rcases hu with rfl|rfl|rfl <;> rfl)|simp[Value.oneCell'])
       try (case c1k3=>unfold maxLen;omega)
       try (case c1k4=>omega)
       try (case c1k5=>first|omega|(simp;omega))
       intro v12 w12 hown12 hgrow12 _;have HN12:=zA (HNum.out _ w12 v12 hown12 hgrow12)
       have e10:w12.cell? ⟨w.heap.size+1+1+1,10,none⟩=some (.slice na L.length nc):=by
        have hb:=hgrow12.block (w.heap.size+1+1+1) (by simp;omega) (fun e=>by have:=(zU HOn.out _ e.symm).1;omega);rw[bg (w:=w11.alloc _) (a:=⟨w.heap.size+1+1+1,10,none⟩) hb,bg (w:=w11) (a:=⟨w.heap.size+1+1+1,10,none⟩) (l5 _ _ _ m3)];exact d10
       have f10:w12.frozen? ⟨w.heap.size+1+1+1,10,none⟩=false:=by
        have hb:=hgrow12.block (w.heap.size+1+1+1) (by simp;omega) (fun e=>by have:=(zU HOn.out _ e.symm).1;omega);rw[dk (w:=w11.alloc _) (a:=⟨w.heap.size+1+1+1,10,none⟩) hb,dk (w:=w11) (a:=⟨w.heap.size+1+1+1,10,none⟩) (l5 _ _ _ m3)];exact dF 10
       obtain⟨va,vc,rfl⟩:=zO hown12;clear hown12 hgrow12 d10 d11 d12 d13 dF;go_wp2_with fail
       go_roundw
       case rel=>exact⟨i+1,_,sv,L++[⟨i,za,zc⟩],by omega,by go_num,by rw[HE1.out];exact HN12,HPl⟩
       case measure=>simp[intOf];omega
      ·have HE1:Hid (qD I x.1 y.1 (i+1)=qD I x.1 y.1 i++[⟨true,i⟩]):=by have:=HS1i.out;unfold Hid;simpa using this
       have HE2:Hid (mD I x.1 y.1 (i+1)=mD I x.1 y.1 i):=by have:=HNsi.out;unfold Hid;simpa using this
       have HTg:=zA (fun (ob:Obj) (wy:World) (v':Value) (zJU:wy.ownsRow (w.heap.size+4) 216 2 v' ((qD I x.1 y.1 i).length+1) (Yy (qD I x.1 y.1 i)++[.bool true,.int .i64 (i:Nat)])) (hg:(w8.alloc ob).grownBy wy sv.ownBlock)=>(HN8.out.below (fe (tg _) ob)).tog ⟨true,i⟩ zJU hg);obtain⟨sa,sc,rfl⟩:=zO HN8.out.sws;have HOs:=zA HN8.out.sws;clear u0 u2 u3 a0 a1 a2 a3 a4 b0 b1 b2 b3 b4
       go_wp2_with (at_builtin;refine wpList_append_own _ rfl _ _ 165 rfl (w.heap.size+4) 216 i0 _ 2 16 Tryz.underlying165 hi0 hz0 hz1 hz2 rfl (by decide) _ _ _ rfl (HOs.out.alloc _) ⟨w8.heap.size,0,none⟩ 1 1 [.bool true,.int .i64 (i:Nat)] rfl rfl ?c2k1 ?c2k2 ?c2k3 ?c2k4 ?c2k5 ?_)
       try (case c2k1=>first|exact zM _ _ _ _ rfl|exact fun _ _ h=>h)
       try (case c2k2=>first|exact⟨rfl,rfl⟩|(intro u hu;simp at hu;rcases hu with rfl|rfl <;> rfl)|simp[Value.oneCell'])
       try (case c2k3=>unfold maxLen;omega)
       try (case c2k4=>omega)
       try (case c2k5=>first|omega|(simp;omega))
       intro v12 w12 hown12 hgrow12 _;have HN12:=zA (HTg.out _ w12 v12 hown12 hgrow12)
       have e11:w12.cell? ⟨w.heap.size+1+1+1,11,none⟩=some (.slice sa (qD I x.1 y.1 i).length sc):=by
        have hb:=hgrow12.block (w.heap.size+1+1+1) (by simp;omega) (fun e=>by have:=(zU HOs.out _ e.symm).1;omega);rw[bg (w:=w8.alloc _) (a:=⟨w.heap.size+1+1+1,11,none⟩) hb,bg (w:=w8) (a:=⟨w.heap.size+1+1+1,11,none⟩) (l5 _ _ _ m3)];exact d11
       have f11:w12.frozen? ⟨w.heap.size+1+1+1,11,none⟩=false:=by
        have hb:=hgrow12.block (w.heap.size+1+1+1) (by simp;omega) (fun e=>by have:=(zU HOs.out _ e.symm).1;omega);rw[dk (w:=w8.alloc _) (a:=⟨w.heap.size+1+1+1,11,none⟩) hb,dk (w:=w8) (a:=⟨w.heap.size+1+1+1,11,none⟩) (l5 _ _ _ m3)];exact dF 11
       obtain⟨va,vc,rfl⟩:=zO hown12;clear hown12 hgrow12 d10 d11 d12 d13 dF;go_wp2_with fail
       go_roundw
       case rel=>exact⟨i+1,nv,_,L,by omega,by go_num,by rw[HE1.out];exact HN12,by rw[HE2.out];exact HP⟩
       case measure=>simp[intOf];omega
   ·obtain rfl:i=I.length:=by omega
    have ii:¬(I.length:Int)<(I.length:Int):=by omega
    obtain⟨wq,hwq⟩:∃wq,wq=wr:=⟨_,rfl⟩;rw[<-hwq]at HN ⊢;clear hwq zK2 k0 k1;obtain⟨k0,k1⟩:=HMd.out wq HN.out.ns.bel
    have HN0:Hid (ZE w wq x y I.length H gi gh (tW I x.1 y.1) nv sv L (qD I x.1 y.1 I.length++uL x.1 y.1 0) (lK I I.length) (lN x.1 y.1 0)):=by
     have e:qD I x.1 y.1 I.length++uL x.1 y.1 0=qD I x.1 y.1 I.length:=ms _;unfold Hid;rw[e];exact HN.out
    have hTl:=HS1l.out I.length;clear HN HNs HS1 HNl HS1l HIs HBl1 HBl2 HZo HBd1 HBd2 HAI1 HAI2 zKD HIf HAb HZf;go_wp2_with fail
    generalize hT1:qD I x.1 y.1 I.length=T1 at *;have HT1:=zA hT1;clear hT1
    go_loopw [91] (fun iv wr=>∃(c:Nat) (sv:Value),c<=H/\iv=.int .i64 c/\Hid (ZE w wr x y I.length H gi gh (tW I x.1 y.1) nv sv L (T1++uL x.1 y.1 c) (lK I I.length) (lN x.1 y.1 c))) (fun iv _=>H-(intOf iv).toNat)
    case atStart=>exact⟨0,_,p7 _,rfl,HN0⟩
    case round =>
     obtain⟨c,sv,hc,rfl,HN⟩:=hrel;by_cases zJS:c<H
     ·have jj:(c:Int)<(H:Int):=by omega
      obtain⟨⟨a0,a1,a2,a3,a4⟩,-,-,-⟩:=HCx.out _ _ _ _ _ _ _ _ _ _ _ HN.out;have HNd1w:=zA (HNd1.out wr HN.out.ns.bel c);have HNd2i:=zA (fun w' hb=>HNd2.out w' hb c);have HAH1i:=zA (fun w' hb=>HAH1.out w' hb c);have HAH2i:=zA (fun w' hb=>HAH2.out w' hb c);have HS2i:=zA (HS2.out c);have HHi:=zA (HHs.out c);have hS2l:=HS2l.out c;rw[HNb.out c]at HS2i HHi
      have HYc:Hid (∀w8,Below wr.heap.size wr w8->(Below w.heap.size w w8/\w8.cell? ⟨w.heap.size+1,0,none⟩=some (.string ⟨yl.toArray⟩)/\w8.cell? ⟨w.heap.size+1,1,none⟩=some (.int .i64 yc)/\w8.cell? ⟨w.heap.size+1,2,none⟩=some (.slice pa' yn pc')/\w8.cell? ⟨w.heap.size+1,3,none⟩=some (.slice ga' ym gc')/\w8.cell? ⟨w.heap.size+1,4,none⟩=some (.int .i64 yr))/\w8.cell? ⟨w.heap.size,0,none⟩=some (.string ⟨xl.toArray⟩)/\w8.cell? ⟨w.heap.size,1,none⟩=some (.int .i64 xc)/\w8.cell? ⟨w.heap.size,2,none⟩=some (.slice pa xn pc)/\w8.cell? ⟨w.heap.size,3,none⟩=some (.slice ga xm gc)/\w8.cell? ⟨w.heap.size,4,none⟩=some (.int .i64 xr)):=fun w8 hb=>by
       have k:=HN.out.below hb;obtain⟨h8,h9,-,-⟩:=HCx.out _ _ _ _ _ _ _ _ _ _ _ k;exact⟨⟨k.ns.bel,h9⟩,h8⟩
      generalize mG x.1 c=q1 at *;generalize mG y.1 c=q2 at *;generalize vP x.1 c=q3 at *;generalize vP y.1 c=q4 at *
      go_upto_region 18 with fail
      go_cut [101] from 94 to 101 (fun v wx=>v=.bool (q1 || q2)/\Hid (Below wr.heap.size wr wx))
      case first =>
       cases q1
       ·go_wp2_with fail
        refine HNd1w.out.mono ?_;rintro e w8 ⟨rfl,hb8⟩;obtain⟨⟨p1,p2,p3,p4,p5,p6⟩,-⟩:=HYc.out w8 hb8;have HA2w:=zA (HNd2i.out w8 p1);have HB8:=zA hb8;clear hb8 p1 a0 a1 a2 a3 a4;go_wp2_with fail
        refine HA2w.out.mono ?_;rintro e w9 ⟨rfl,hb9⟩;have HB9:Hid (Below wr.heap.size wr w9):=HB8.out.trans (hb9.mono HB8.out.size);clear hb9;go_wp2_with fail
        go_meet
        exact⟨rfl,HB9⟩
       ·go_wp2_with fail
        refine HNd1w.out.mono ?_;rintro e w8 ⟨rfl,hb8⟩;have HB8:=zA hb8;clear hb8;go_wp2_with fail
        go_meet
        exact⟨rfl,HB8⟩
      case rest =>
       obtain⟨rfl,HB8⟩:=hcut;generalize hwB:wc=w8 at *;clear hwB a0 a1 a2 a3 a4 HNd1w HNd2i;generalize (q1 || q2)=qq at *;cases qq
       ·have HHe:Hid (lN x.1 y.1 (c+1)=lN x.1 y.1 c):=by
         unfold Hid;funext r;by_cases hr:r=c
         ·subst hr;rw[HHi.out.1];unfold lN;rw[tu (by omega)];rfl
         ·exact HHi.out.2 r hr
        obtain⟨⟨p1,-⟩,a0,a1,a2,a3,a4⟩:=HYc.out w8 HB8.out;have HAH1w:=zA (HAH1i.out w8 p1);clear p1
        go_upto_region 20 with fail
        go_cut [114] from 107 to 114 (fun v wx=>v=.bool (q3 || q4)/\Hid (Below wr.heap.size wr wx))
        case first =>
         cases q3
         ·go_wp2_with fail
          refine HAH1w.out.mono ?_;rintro e w9 ⟨rfl,hb9⟩;have HB9:Hid (Below wr.heap.size wr w9):=HB8.out.trans (hb9.mono HB8.out.size);obtain⟨⟨p1,p2,p3,p4,p5,p6⟩,-⟩:=HYc.out w9 HB9.out;have HA2w:=zA (HAH2i.out w9 p1);clear hb9 p1 a0 a1 a2 a3 a4;go_wp2_with fail
          refine HA2w.out.mono ?_;rintro e w10 ⟨rfl,hb10⟩;have HB10:Hid (Below wr.heap.size wr w10):=HB9.out.trans (hb10.mono HB9.out.size);clear hb10;go_wp2_with fail
          go_meet
          exact⟨rfl,HB10⟩
         ·go_wp2_with fail
          refine HAH1w.out.mono ?_;rintro e w9 ⟨rfl,hb9⟩;have HB9:Hid (Below wr.heap.size wr w9):=HB8.out.trans (hb9.mono HB8.out.size);clear hb9;go_wp2_with fail
          go_meet
          exact⟨rfl,HB9⟩
        case rest =>
         obtain⟨rfl,HB9⟩:=hcut;generalize hwB:wc=w9 at *;clear hwB a0 a1 a2 a3 a4 HAH1w HAH1i HAH2i HYc HB8;have HN9:=zA (HN.out.below HB9.out);clear HN HB9;generalize (q3 || q4)=qh at *;cases qh
         ·have HE1:Hid (uL x.1 y.1 (c+1)=uL x.1 y.1 c):=by have:=HS2i.out;unfold Hid;simpa using this
          go_wp2_with fail
          go_roundw
          case rel=>exact⟨c+1,sv,by omega,by go_num,by rw[HE1.out,HHe.out];exact HN9⟩
          case measure=>simp[intOf];omega
         ·have HE1:Hid (T1++uL x.1 y.1 (c+1)=(T1++uL x.1 y.1 c)++[⟨false,c⟩]):=by have:=HS2i.out;unfold Hid;rw[this];simp
          have hTT:(T1++uL x.1 y.1 c).length<=20000:=by rw[tq];omega
          obtain⟨-,-,⟨d10,d11,d12,d13⟩,dF⟩:=HCx.out _ _ _ _ _ _ _ _ _ _ _ HN9.out;have hs9:=HN9.out.ns.sz;have m3:w.heap.size+1+1+1<w9.heap.size:=by omega
          have m3':w9.heap.size≠w.heap.size+1+1+1:=by omega
          have HTg:=zA (fun (ob:Obj) (wy:World) (v':Value) (zJU:wy.ownsRow (w.heap.size+4) 216 2 v' ((T1++uL x.1 y.1 c).length+1) (Yy (T1++uL x.1 y.1 c)++[.bool false,.int .i64 (c:Nat)])) (hg:(w9.alloc ob).grownBy wy sv.ownBlock)=>(HN9.out.below (fe (tg _) ob)).tog ⟨false,c⟩ zJU hg);obtain⟨sa,sc,rfl⟩:=zO HN9.out.sws;have HOs:=zA HN9.out.sws;generalize hTe:T1++uL x.1 y.1 c=TT at *;clear hTe
          go_wp2_with (at_builtin;refine wpList_append_own _ rfl _ _ 165 rfl (w.heap.size+4) 216 i0 _ 2 16 Tryz.underlying165 hi0 hz0 hz1 hz2 rfl (by decide) _ _ _ rfl (HOs.out.alloc _) ⟨w9.heap.size,0,none⟩ 1 1 [.bool false,.int .i64 (c:Nat)] rfl rfl ?c1k1 ?c1k2 ?c1k3 ?c1k4 ?c1k5 ?_)
          try (case c1k1=>first|exact zM _ _ _ _ rfl|exact fun _ _ h=>h)
          try (case c1k2=>first|exact⟨rfl,rfl⟩|(intro u hu;simp at hu;rcases hu with rfl|rfl <;> rfl)|simp[Value.oneCell'])
          try (case c1k3=>unfold maxLen;omega)
          try (case c1k4=>omega)
          try (case c1k5=>first|omega|(simp;omega))
          intro v12 w12 hown12 hgrow12 _;have HN12:=zA (HTg.out _ w12 v12 hown12 hgrow12)
          have e11:w12.cell? ⟨w.heap.size+1+1+1,11,none⟩=some (.slice sa TT.length sc):=by
           have hb:=hgrow12.block (w.heap.size+1+1+1) (by simp;omega) (fun e=>by have:=(zU HOs.out _ e.symm).1;omega);rw[bg (w:=w9.alloc _) (a:=⟨w.heap.size+1+1+1,11,none⟩) hb,bg (w:=w9) (a:=⟨w.heap.size+1+1+1,11,none⟩) (l5 _ _ _ m3)];exact d11
          have f11:w12.frozen? ⟨w.heap.size+1+1+1,11,none⟩=false:=by
           have hb:=hgrow12.block (w.heap.size+1+1+1) (by simp;omega) (fun e=>by have:=(zU HOs.out _ e.symm).1;omega);rw[dk (w:=w9.alloc _) (a:=⟨w.heap.size+1+1+1,11,none⟩) hb,dk (w:=w9) (a:=⟨w.heap.size+1+1+1,11,none⟩) (l5 _ _ _ m3)];exact dF 11
          obtain⟨va,vc,rfl⟩:=zO hown12;clear hown12 hgrow12 d10 d11 d12 d13 dF;go_wp2_with fail
          go_roundw
          case rel=>exact⟨c+1,_,by omega,by go_num,by rw[HE1.out,HHe.out];exact HN12⟩
          case measure=>simp[intOf];omega
       ·have HE1:Hid (uL x.1 y.1 (c+1)=uL x.1 y.1 c):=by have:=HS2i.out;unfold Hid;simpa using this
        have HN8:=zA (HN.out.below HB8.out);obtain⟨-,-,⟨-,-,-,d13⟩,-⟩:=HCx.out _ _ _ _ _ _ _ _ _ _ _ HN8.out;have ch:w8.cell? ⟨gh,c,none⟩=some (.bool (lN x.1 y.1 c c)):=HN8.out.ns.rH.cell zJS;have fh:w8.frozen? ⟨gh,c,none⟩=false:=HN8.out.ns.rH.free c
        have HN9:Hid (ZE w (w8.setCell ⟨gh,c,none⟩ (.bool true)) x y I.length H gi gh (tW I x.1 y.1) nv sv L (T1++uL x.1 y.1 (c+1)) (lK I I.length) (lN x.1 y.1 (c+1))):=by
         unfold Hid;rw[HE1.out];exact HN8.out.setH zJS _ HHi.out.1 (fun r _ hr=>HHi.out.2 r hr)
        generalize lN x.1 y.1 c c=old at *;go_wp2_with fail
        go_roundw
        case rel=>exact⟨c+1,sv,by omega,by go_num,HN9⟩
        case measure=>simp[intOf];omega
     ·obtain rfl:c=H:=by omega
      have jj:¬(c:Int)<(c:Int):=by omega
      obtain⟨na,nc,rfl⟩:=zO HN.out.nums;obtain⟨sa,sc,rfl⟩:=zO HN.out.sws;have HAl:=zA (HOne.out (.slice na L.length nc) (.slice sa (T1++uL x.1 y.1 c).length sc) (.slice (some ⟨gi,0,none⟩) I.length I.length) (.slice (some ⟨gh,0,none⟩) c c) rfl rfl rfl rfl);have HRes:=zA HN.out.ns.res;have HHd:=zA HN.out.ns.hd;have HFn:=zA (HPo.out _ gi gh _ _ L (HN.out.done (Uz x y (.slice na L.length nc) (.slice sa (T1++uL x.1 y.1 c).length sc) (.slice (some ⟨gi,0,none⟩) I.length I.length) (.slice (some ⟨gh,0,none⟩) c c))) HP.out);have HIf:=zA (yw x y (.slice na L.length nc) (.slice sa (T1++uL x.1 y.1 c).length sc) (.slice (some ⟨gi,0,none⟩) I.length I.length) (.slice (some ⟨gh,0,none⟩) c c));have HSz:Hid ((Uz x y (.slice na L.length nc) (.slice sa (T1++uL x.1 y.1 c).length sc) (.slice (some ⟨gi,0,none⟩) I.length I.length) (.slice (some ⟨gh,0,none⟩) c c)).size=15):=rfl;generalize Uz x y (.slice na L.length nc) (.slice sa (T1++uL x.1 y.1 c).length sc) (.slice (some ⟨gi,0,none⟩) I.length I.length) (.slice (some ⟨gh,0,none⟩) c c)=SR at *;clear HN
      go_wp2_with (first
       | (refine wpList_load_row ?zJW 170 (.tmp 7) ?ho (w.heap.size+1+1+1) ?hx 170 SR (0,0) _ HHd.out Tryz.underlying170 rfl HIf.out ?_
          case ho=>rfl
          case zJW=>rfl
          case hx=>rfl)
       | (refine wpList_store_row ?zJW 170 (.tmp 6) (.tmp 123) ?ho (w.heap.size+1+1) SR ?hx ?hy 170 Cp HRes.out HIf.out ?zJY HAl.out ?_
          case ho=>rfl
          case zJW=>rfl
          case hx=>rfl
          case hy=>rfl
          case zJY=>rw[HSz.out];rfl))
      refine pm (v:=.agg SR) (results_cell_row Tryz.results66 _ _ (w.heap.size+1+1) 170 SR (0,0) _ rfl (bf _ _ Cp _ _ _ HRes.out) Tryz.underlying170 rfl HIf.out) rfl HFn.out
def Zx:NE:=⟨0,none,0⟩
def zBK(I:List zX)(H:Nat)(e l:xU):Prop:=∃y,dN I H y/\jN e y=true/\jN l y=true
structure oS(I:List zX):Prop where
 num:∀i,i<I.length->xN I i=true->0<=(jC I i).low/\(jC I i).low<=(jC I i).high/\(jC I i).high<=9999
 flag:∀i,i<I.length->xN I i=false->(jC I i).low=0
 few:I.length<=100
def cN(w:World)(b:Nat)(I:List zX)(H:Nat)(x y:MX)(L:List NE)(na:Option Addr)(gn nc:Nat)(sa:Option Addr)(sc gi gh:Nat):SK :=
 ⟨w.heap.size,b,x,y,L.length,fun p=>(L.getD p Zx).place,fun p=>tW I x.1 y.1 (L.getD p Zx).place,fun p=>(L.getD p Zx).za,fun p=>(L.getD p Zx).zc,na,gn,nc,qD I x.1 y.1 I.length++uL x.1 y.1 H,sa,sc,gi,gh,I.length,H⟩
def yv(I:List zX)(H:Nat)(x y:MX):vW:=⟨fun _=>(0,0),fun _=>0,lK I I.length,lN x.1 y.1 H⟩
theorem Y3{e l:xU}{t:jV}(h:t∈qD I e l I.length++uL e l H):(t.flag=true/\t.place<I.length/\qR e l t.place=true/\xN I t.place=false)\/(t.flag=false/\t.place<H/\uE e l t.place=false/\(vP e t.place || vP l t.place)=true):=by
 rcases ph.1 h with h|h
 ·obtain⟨i,hi,rfl⟩:=pd.1 h
  have:=mw.1 hi;simp only[md,mc,Bool.not_eq_true']at this;exact .inl ⟨rfl,this.1,this.2.1,this.2.2⟩
 ·obtain⟨i,hi,rfl⟩:=pd.1 h
  have:=mw.1 hi;simp only[md,mc,Bool.not_eq_true']at this;exact .inr ⟨rfl,this.1,this.2.1,this.2.2⟩
theorem C1{e l:xU}{i:Nat}(h1:i<I.length)(h2:qR e l i=true)(h3:xN I i=false):(⟨true,i⟩:jV)∈qD I e l I.length++uL e l H :=
 ph.2 (.inl (pd.2 ⟨i,mw.2 ⟨by simpa using h1,by simp[h2,h3]⟩,rfl⟩))
theorem zGL{e l:xU}{c:Nat}(h1:c<H)(h2:uE e l c=false)(h3:(vP e c || vP l c)=true):(⟨false,c⟩:jV)∈qD I e l I.length++uL e l H :=
 ph.2 (.inr (pd.2 ⟨c,mw.2 ⟨by simpa using h1,by rw[h2,h3];rfl⟩,rfl⟩))
theorem jE{e l:xU}(h:L.map NE.place=vI I e l){p:Nat}(hp:p<L.length):(L.getD p Zx).place=(vI I e l).getD p 0:=by
 rw[<-h];simp[List.getD,hp]
theorem KL{e l:xU}{p q:Nat}(hp:p<(vI I e l).length)(hq:q<(vI I e l).length)(h:(vI I e l).getD p 0=(vI I e l).getD q 0):p=q:=by
 have hnd:(vI I e l).Nodup:=List.Pairwise.filter _ List.nodup_range;rw[ma,ma,pw hp,pw hq]at h;exact(List.getElem_inj hnd).1 h
theorem zJ1(hL:L.map NE.place=vI I x.1 y.1)(hI:oS I)(fH:H<=10000)(hzf:∀i,(tW I x.1 y.1 i).length<=100000)(l1:w.heap.size<=b)(l2:w.heap.size<=gi)(l3:w.heap.size<=gh)(l4:0<L.length->w.heap.size<=gn):XB (cN w b I H x y L na gn nc sa sc gi gh):=by
 have hl:L.length=(vI I x.1 y.1).length:=by rw[<-hL,me]
 have zJV:(vI I x.1 y.1).length<=I.length:=YK I x.1 y.1 I.length;have h1:=Qj I x.1 y.1 I.length;have h2:=Qi x.1 y.1 H;have hf:=hI.few
 have hm:∀p,p<L.length->(L.getD p Zx).place<I.length/\qR x.1 y.1 (L.getD p Zx).place=true/\xN I (L.getD p Zx).place=true:=fun p hp=>by
  rw[jE hL hp];exact mC.1 (fX (by omega))
 refine⟨l1,l2,l3,l4,by show L.length<=100;omega,by show I.length<=10000;omega,fH,by show (_++_:List jV).length<=20000;rw[tq];omega,fun p _=>hzf _,fun p hp=>(hm p hp).1,fun p q hp hq e=>?_,fun p hp t ht h=>?_,fun t ht hf=>?_,fun t ht hf=>?_⟩
 ·have e':(vI I x.1 y.1).getD p 0=(vI I x.1 y.1).getD q 0:=by rw[<-jE hL hp,<-jE hL hq];exact e
  exact KL (hl ▸ hp) (hl ▸ hq) e'
 ·rcases Y3 ht with ⟨_,_,_,h9⟩|⟨h9,_⟩
  ·rw[h.2]at h9;have:=(hm p hp).2.2;rw[show (cN w b I H x y L na gn nc sa sc gi gh).P p=(L.getD p Zx).place from rfl,this]at h9;cases h9
  ·rw[h.1]at h9;cases h9
 ·rcases Y3 ht with ⟨_,h9,_⟩|⟨h9,_⟩
  ·exact h9
  ·rw[hf]at h9;cases h9
 ·rcases Y3 ht with ⟨h9,_⟩|⟨_,h9,_⟩
  ·rw[hf]at h9;cases h9
  ·exact h9
theorem qx(l:List Bool)(c:Nat):kV l (c:Int)=(decide (c<l.length)&&l.getD c false):=by
 unfold kV;rw[ty (show (0:Int)<=(c:Int) by omega),ld];by_cases h:c<l.length
 ·rw[ty h,ty (show (c:Int)<(l.length:Int) by omega)];rfl
 ·rw[tu h,tu (show ¬(c:Int)<(l.length:Int) by omega)];rfl
theorem zCQ{s':vW}(hL:L.map NE.place=vI I x.1 y.1)(hI:oS I)(hpe:aT x.1 I.length (xN I))(hpl:aT y.1 I.length (xN I))(hneH:∀c,uE x.1 y.1 c=true->c<H)(haH:∀c,(vP x.1 c || vP y.1 c)=true->c<H)
 (h:iN (uZ (cN w b I H x y L na gn nc sa sc gi gh)) L.length (fun p=>(L.getD p Zx).place) (fun p=>tW I x.1 y.1 (L.getD p Zx).place) (qD I x.1 y.1 I.length++uL x.1 y.1 H) 0 (yv I H x y) s' false):¬zBK I H x.1 y.1:=by
 rintro⟨v,hv,h1,h2⟩;have hl:L.length=(vI I x.1 y.1).length:=by rw[<-hL,me]
 obtain⟨Z,hZl,hZ,rk,hrl,hrr,o,ho,ht⟩:=K4 hpe hpl (fun i hi hn=>⟨(hI.num i hi hn).1,(hI.num i hi hn).2.2⟩) hv h1 h2
 obtain⟨F,hF⟩:∃F:Nat->Int,(∀p,p<L.length->F (L.getD p Zx).place=o.getD (rk.getD p 0) 0)/\∀i,(∀p,p<L.length->(L.getD p Zx).place≠i)->F i=if qR x.1 y.1 i=true/\xN I i=false/\i<I.length then v.inputs.getD i 0 else lK I I.length i:=by
  refine⟨fun i=>if hq:∃p,p<L.length/\(L.getD p Zx).place=i then o.getD (rk.getD (Classical.choose hq) 0) 0 else if qR x.1 y.1 i=true/\xN I i=false/\i<I.length then v.inputs.getD i 0 else lK I I.length i,fun p hp=>?_,fun i hi=>?_⟩
  ·have hq:∃q,q<L.length/\(L.getD q Zx).place=(L.getD p Zx).place:=⟨p,hp,rfl⟩
   simp only[hq,dite_true];have hc:=Classical.choose_spec hq;have e':(vI I x.1 y.1).getD (Classical.choose hq) 0=(vI I x.1 y.1).getD p 0:=by rw[<-jE hL hc.1,<-jE hL hp];exact hc.2
   rw[KL (hl ▸ hc.1) (hl ▸ hp) e']
  ·have hq:¬ ∃p,p<L.length/\(L.getD p Zx).place=i:=fun ⟨p,hp,e⟩=>hi p hp e
   simp only[hq,dite_false]
 obtain⟨t,htd⟩:∃t:vW,t=⟨fun _=>(0,0),fun _=>0,F,fun c=>uE x.1 y.1 c || ((vP x.1 c || vP y.1 c)&&kV v.has (c:Int))⟩:=⟨_,rfl⟩;have hoff:∀i,Fs (qD I x.1 y.1 I.length++uL x.1 y.1 H) i->¬(qR x.1 y.1 i=true/\xN I i=false/\i<I.length):=fun i hi hh=>hi _ (C1 hh.2.2 hh.1 hh.2.1) ⟨rfl,rfl⟩
 have hrest:lQ L.length (fun p=>(L.getD p Zx).place) (qD I x.1 y.1 I.length++uL x.1 y.1 H) (yv I H x y) t:=by
  rw[htd];refine⟨fun i hp hi=>?_,fun c hc=>?_⟩
  ·show F i=lK I I.length i
   rw[hF.2 i hp,tj (hoff i hi)]
  ·show (uE x.1 y.1 c || ((vP x.1 c || vP y.1 c)&&kV v.has (c:Int)))=lN x.1 y.1 H c
   unfold lN;cases hn:uE x.1 y.1 c
   ·cases ha:(vP x.1 c || vP y.1 c)
    ·simp
    ·exact absurd ⟨rfl,rfl⟩ (hc _ (zGL (haH c ha) hn ha))
   ·rw[ty (hneH c hn)];simp
 have hno:=h.no rfl (fun p=>Z.getD p (0,0)) (fun p hp=>absurd hp (by omega)) (fun p hp=>by rw[jE hL hp];exact hZ p (by omega)) (fun p=>rk.getD p 0) (fun p hp=>by
  have hp2:p<rk.length:=by omega
  have:=hrr (rk.getD p 0) (by simp[List.getD,hp2])
  omega) o (by
  have e:bE L.length (fun p=>Z.getD p (0,0)) (fun p=>rk.getD p 0)=dV Z rk:=by unfold bE dV;rw[hZl,hl]
  rw[e];exact ho) t hrest (fun p hp=>by rw[htd];exact hF.1 p hp) (fun q hq hqf=>by
  rcases Y3 hq with ⟨_,g1,g2,g3⟩|⟨g1,_⟩
  ·have hpn:∀p,p<L.length->(L.getD p Zx).place≠q.place:=fun p hp e=>by
    rw[jE hL hp]at e;have:=(mC.1 (fX (I:=I) (e:=x.1) (l:=y.1) (p:=p) (by omega))).2.2;rw[e,g3]at this;cases this
   rw[htd];show F q.place=0\/F q.place=1;rw[hF.2 _ hpn,tr ⟨g2,g3,g1⟩];exact hv.flag _ g1 g3
  ·rw[hqf]at g1;cases g1)
 have htry:zFT I x.1 y.1 rk o v (sR (cN w b I H x y L na gn nc sa sc gi gh) t):=by
  have zK3:∀i,i<I.length->(sR (cN w b I H x y L na gn nc sa sc gi gh) t).inputs.getD i 0=t.inp i:=fun i hi=>by simp[sR,cN,List.getD,hi]
  have hhas:∀c:Nat,kV (sR (cN w b I H x y L na gn nc sa sc gi gh) t).has (c:Int)=(decide (c<H)&&t.has c):=fun c=>by
   rw[qx];by_cases hc:c<H
   ·simp[sR,cN,List.getD,hc]
   ·simp[sR,cN,hc]
  refine⟨by simp[sR,cN],fun p hp=>?_,fun i hi ha hn=>?_,fun c hc=>?_,fun c hc ha=>?_⟩
  ·have hm:=mC.1 (fX hp)
   rw[zK3 _ hm.1,htd,<-jE hL (show p<L.length by omega)];exact hF.1 p (by omega)
  ·have hpn:∀p,p<L.length->(L.getD p Zx).place≠i:=fun p hp e=>by
    rw[jE hL hp]at e;have:=(mC.1 (fX (I:=I) (e:=x.1) (l:=y.1) (p:=p) (by omega))).2.2;rw[e,hn]at this;cases this
   rw[zK3 i hi,htd];show F i=_;rw[hF.2 i hpn,tr ⟨ha,hn,hi⟩]
  ·rw[hhas,ty (hneH c hc),htd]
   show (true&&(uE x.1 y.1 c || _))=true;rw[hc];rfl
  ·rw[hhas,ty (haH c ha),htd]
   show (true&&(uE x.1 y.1 c || ((vP x.1 c || vP y.1 c)&&kV v.has (c:Int))))=_;rw[hc,ha];simp
 have:=ht _ htry;unfold uZ at hno;rw[show (cN w b I H x y L na gn nc sa sc gi gh).e.1=x.1 from rfl,show (cN w b I H x y L na gn nc sa sc gi gh).l.1=y.1 from rfl,this.1,this.2]at hno;cases hno
theorem x7{s':vW}(hL:L.map NE.place=vI I x.1 y.1)(hI:oS I)
 (h:iN (uZ (cN w b I H x y L na gn nc sa sc gi gh)) L.length (fun p=>(L.getD p Zx).place) (fun p=>tW I x.1 y.1 (L.getD p Zx).place) (qD I x.1 y.1 I.length++uL x.1 y.1 H) 0 (yv I H x y) s' true):dN I H (sR (cN w b I H x y L na gn nc sa sc gi gh) s')/\jN x.1 (sR (cN w b I H x y L na gn nc sa sc gi gh) s')=true/\jN y.1 (sR (cN w b I H x y L na gn nc sa sc gi gh) s')=true:=by
 have hl:L.length=(vI I x.1 y.1).length:=by rw[<-hL,me]
 obtain⟨hb,hbit,Z,rk,o,hZ,hrk,ho,hn⟩:=h.yes rfl;have zK3:∀i,i<I.length->(sR (cN w b I H x y L na gn nc sa sc gi gh) s').inputs.getD i 0=s'.inp i:=fun i hi=>by simp[sR,cN,List.getD,hi]
 have hlow:∀i,i<I.length->(∀p,p<L.length->(L.getD p Zx).place≠i)->¬(qR x.1 y.1 i=true/\xN I i=false)->s'.inp i=(jC I i).low:=fun i hi hp hna=>by
  rw[h.rest.inp i hp (fun t ht hh=>by
   rcases Y3 ht with ⟨_,g1,g2,g3⟩|⟨g1,_⟩
   ·exact hna ⟨hh.2 ▸ g2,hh.2 ▸ g3⟩
   ·rw[hh.1]at g1;cases g1)]
  show lK I I.length i=_;unfold lK;rw[tr hi]
 refine⟨⟨by simp[sR,cN],by simp[sR,cN],fun i hi hnum=>?_,fun i hi hfl=>?_⟩,?_⟩
 ·rw[zK3 i hi]
  have hr:=hI.num i hi hnum;by_cases ha:qR x.1 y.1 i=true
  ·obtain⟨p,hp,e⟩:=ZZ hi ha hnum
   have hp2:p<L.length:=by omega
   have e2:=jE hL hp2;rw[e]at e2
   have hs:=Y8 (L:=bE L.length Z rk) (fun z hz=>by
    obtain⟨q,hq,rfl⟩:=pd.1 hz;rw[oU];exact hrk q (by simpa using hq)) ho ⟨(Z p).1,(Z p).2,rk p⟩ (pd.2 ⟨p,by simpa using hp2,rfl⟩)
   have hnp:=hn p hp2;simp only at hnp hs;rw[e2]at hnp;rw[hnp];have hzo:=(Yo (jC I i).low (jC I i).high (xG x.1 i) (xG y.1 i)).sub (Z p) (by have:=hZ p hp2;rw[e2]at this;exact this);omega
  ·rw[hlow i hi (fun p hp e=>ha (by
    have:=(mC.1 (fX (I:=I) (e:=x.1) (l:=y.1) (p:=p) (by omega))).2.1;rw[jE hL hp]at e;rw[e]at this;exact this)) (fun hh=>ha hh.1)]
   omega
 ·rw[zK3 i hi]
  by_cases ha:qR x.1 y.1 i=true
  ·exact hbit _ (C1 hi ha hfl) rfl
  ·rw[hlow i hi (fun p hp e=>ha (by
    have:=(mC.1 (fX (I:=I) (e:=x.1) (l:=y.1) (p:=p) (by omega))).2.1;rw[jE hL hp]at e;rw[e]at this;exact this)) (fun hh=>ha hh.1)]
   exact .inl (hI.flag i hi hfl)
 ·unfold uZ at hb
  rw[mc]at hb;exact hb
def zIM:MX:=(⟨[],0,[],[],0⟩,.slice none 0 0,.slice none 0 0)
def jK(rs:List MX)(i:Nat):MX:=rs.getD i zIM
structure XZ(w:World)(b o:Nat)(I:List zX)(C:List (Bs × Nat))(rs:List MX)(G:List Bool):Prop where
 inp:∃a c,w.cell? ⟨b,o,none⟩=some (.slice a I.length c)/\xM w 204 a (I.flatMap qI)
 con:∃a c,w.cell? ⟨b,o+1,none⟩=some (.slice a C.length c)/\xM w 208 a (Zy C)
 rul:∃a c,w.cell? ⟨b,o+2,none⟩=some (.slice a rs.length c)/\xM w 162 a (rs.flatMap lY)
 rows:∀x∈rs,qK w x
 gr:zIR w b (o+3) G
 few1:I.length<=100
 few2:C.length<=10000
 few3:rs.length<=10000
theorem XZ.below{o:Nat}{C:List (Bs × Nat)}{G:List Bool}(h:XZ w b o I C rs G)(hb:Below w.heap.size w w'):XZ w' b o I C rs G:=by
 obtain⟨a1,c1,p1,q1⟩:=h.inp;obtain⟨a2,c2,p2,q2⟩:=h.con;obtain⟨a3,c3,p3,q3⟩:=h.rul;exact⟨⟨a1,c1,(hb.cell (p:=⟨b,o,none⟩) (zY p1)).trans p1,q1.below hb⟩,⟨a2,c2,(hb.cell (p:=⟨b,o+1,none⟩) (zY p2)).trans p2,q2.below hb⟩,⟨a3,c3,(hb.cell (p:=⟨b,o+2,none⟩) (zY p3)).trans p3,q3.below hb⟩,fun x hx=>(h.rows x hx).below hb,h.gr.below hb,h.few1,h.few2,h.few3⟩
theorem eQ{a:Option Addr}(h:jQ w a (rs.flatMap lY)){i:Nat}(hi:i<rs.length):∃g,a=some ⟨g,0,none⟩/\w.cell? ⟨g,i*5,none⟩=some (.string ⟨(jK rs i).1.label.toArray⟩)/\w.cell? ⟨g,i*5+1,none⟩=some (.int .i64 (jK rs i).1.conc)/\w.cell? ⟨g,i*5+2,none⟩=some (jK rs i).2.1/\w.cell? ⟨g,i*5+3,none⟩=some (jK rs i).2.2/\w.cell? ⟨g,i*5+4,none⟩=some (.int .i64 (jK rs i).1.root):=by
 obtain⟨g,e,c0⟩:=h.at ((zR lY 5 (fun _=>rfl) zIM rs i 0 hi (by decide)).trans rfl);obtain⟨g1,e1,c1⟩:=h.at ((zR lY 5 (fun _=>rfl) zIM rs i 1 hi (by decide)).trans rfl);obtain⟨g2,e2,c2⟩:=h.at ((zR lY 5 (fun _=>rfl) zIM rs i 2 hi (by decide)).trans rfl);obtain⟨g3,e3,c3⟩:=h.at ((zR lY 5 (fun _=>rfl) zIM rs i 3 hi (by decide)).trans rfl);obtain⟨g4,e4,c4⟩:=h.at ((zR lY 5 (fun _=>rfl) zIM rs i 4 hi (by decide)).trans rfl);obtain rfl:g=g1:=by rw[e]at e1;simpa using e1
 obtain rfl:g=g2:=by rw[e]at e2;simpa using e2
 obtain rfl:g=g3:=by rw[e]at e3;simpa using e3
 obtain rfl:g=g4:=by rw[e]at e4;simpa using e4
 exact⟨g,e,c0,c1,c2,c3,c4⟩
theorem rB{i:Nat}(h:i<rs.length):jK rs i∈rs:=by simp[jK,List.getD,h]
def KA(rs:List MX)(G:List Bool)(i j:Nat):Bool:=decide ((jK rs i).1.conc=(jK rs j).1.conc)&&(!wR G (i:Int) (j:Int) && !wR G (j:Int) (i:Int))
theorem VP(w:World)(b o:Nat)(I:List zX)(C:List (Bs × Nat))(rs:List MX)(G:List Bool)(i j:Nat)(h:XZ w b o I C rs G)(hi:i<rs.length)(hj:j<rs.length) :
 Calls Tryz.prog 65 #[.pointer (some ⟨b,o,none⟩),.int .i64 (i:Nat),.int .i64 (j:Nat)] w fun e w'=>e=.returned (.bool (KA rs G i j))/\Below w.heap.size w w':=by
 obtain⟨a,c,h2,hr⟩:=h.rul;obtain⟨g,rfl,-,ci,-,-,-⟩:=eQ hr.cel hi;obtain⟨g',e',-,cj,-,-,-⟩:=eQ hr.cel hj;obtain rfl:g=g':=by simpa using e'
 have hf:=h.few3;have ii:(i:Int)<(rs.length:Int):=by omega
 have jj:(j:Int)<(rs.length:Int):=by omega
 have HR:Hid (KA rs G i j=(decide ((jK rs i).1.conc=(jK rs j).1.conc)&&(!wR G (i:Int) (j:Int) && !wR G (j:Int) (i:Int)))):=rfl;have HS1:=zA (fun w' (hb:Below w.heap.size w w')=>sK w' b o G (i:Int) (j:Int) (h.gr.below hb));have HS2:=zA (fun w' (hb:Below w.heap.size w w')=>sK w' b o G (j:Int) (i:Int) (h.gr.below hb));clear h hr e';generalize KA rs G i j=ans at *;generalize wR G (i:Int) (j:Int)=s1 at *;generalize wR G (j:Int) (i:Int)=s2 at *;generalize (jK rs i).1.conc=k1 at *;generalize (jK rs j).1.conc=k2 at *
 go_enter Tryz.func65,Tryz.ntmps65
 by_cases hk:k1=k2
 ·have HR2:Hid (ans=(!s1 && !s2)):=by have:=HR.out;rw[ty hk,ld]at this;exact this
  subst hk;go_wp2_with fail
  go_quiet (fail)
  have HBq:Hid (Below w.heap.size w (w.drewN nq)):=qY (tl _ _) nq;generalize w.drewN nq=wq at *;have HS1w:=zA (HS1.out wq HBq.out);have HS2w:=zA (HS2.out wq HBq.out);clear HS1 HS2 HR;cases s1
  ·have HR3:Hid (ans = !s2):=by have:=HR2.out;simpa[Hid] using this
   go_wp2_with fail
   refine HS1w.out.mono ?_;rintro e w' ⟨rfl,hw⟩;obtain rfl:=hw.symm;go_wp2_with fail
   refine HS2w.out.mono ?_;rintro e w' ⟨rfl,hw⟩;obtain rfl:=hw.symm;go_wp2_with fail
   go_ret
   exact⟨zF HR3.out.symm,HBq.out⟩
  ·have HR3:Hid (ans=false):=by have:=HR2.out;simpa[Hid] using this
   go_wp2_with fail
   refine HS1w.out.mono ?_;rintro e w' ⟨rfl,hw⟩;obtain rfl:=hw.symm;go_wp2_with fail
   go_ret
   exact⟨zF HR3.out.symm,HBq.out⟩
 ·have HR2:Hid (ans=false):=by have:=HR.out;rw[tu hk,Bool.false_and]at this;exact this
  have b1:(k1==k2)=false:=by simpa using hk
  have b2:(k1 != k2)=true:=by simp only[bne,b1];rfl
  clear hk;go_wp2_with fail
  go_quiet (fail)
  go_wp2_with fail
  go_ret
  exact⟨zF HR2.out.symm,qY (tl _ _) _⟩
end Go.Proofs.YtnbpdffdnphbeabGreatDoor
