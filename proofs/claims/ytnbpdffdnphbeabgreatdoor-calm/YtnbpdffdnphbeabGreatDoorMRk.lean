import Derived.Test.YtnbpdffdnphbeabGreatDoorMRowF
import Derived.Test.YtnbpdffdnphbeabGreatDoorMMakeN
set_option maxHeartbeats 2000000
set_option maxRecDepth 100000
namespace Go.Proofs.YtnbpdffdnphbeabGreatDoor
open Go.RowKit
variable{rs:List MX}{xs ys:List Value}{T:List jJ}{I:List zP}{x y:MX}{B h n nc j H gn gh gi b m sc k:Nat}{has:Nat->Bool}{F:Nat->List (Int × Int)}{sa na:Option Addr}{t' t:TypeId}{v' v nv sv:Value}{w w' wx wr wy:World}
def rM(K:SK)(at':Nat)(w:World)(s:vW)(w':World)(e:Ending):Prop:=∃r s',e=.returned (.bool r)/\kW w' K s'/\Below K.B w w'/\wC (uV K) K.np K.P K.sw at' s s' r
theorem Qj(K:SK)(ok:XN K):∀(m at':Nat) (w:World) (s:vW),at'+m=K.np->(∀p,p<at'->s.rk p<K.np)->kW w K s ->
 Calls Tryz.prog 100 #[.pointer (some ⟨K.b,0,none⟩),.int .i64 (at':Nat)] w fun e w'=>rM K at' w s w' e:=by
 intro m
 induction m with
 | zero =>
   intro at' w s hm hrk h;obtain rfl:at'=K.np:=by omega
   have HSn:=zA (Jx w K s ok hrk h);have HSw:=zA (fun w1 s1 (h1:kW w1 K s1)=>Zo K ok K.sw.length 0 w1 s1 (by omega) h1);have HN:Hid (∀s1 w1,kW w1 K s1->Below K.B w w1->eF K.np K.P s s1 false->rM K K.np w s w1 (.returned (.bool false))):=fun s1 w1 h1 h2 h3=>⟨false,s1,rfl,h1,h2,UN (j1 _) h3⟩
   have HY:Hid (∀s1 w1,Below K.B w w1->eF K.np K.P s s1 true->∀e w2,Zt K 0 w1 s1 w2 e->∃r,e=.returned (.bool r)/\rM K K.np w s w2 (.returned (.bool r))):=fun s1 w1 h2 h3 e w2 h4=>by
    obtain⟨r,s2,rfl,q1,q2,q3⟩:=h4;exact⟨r,rfl,r,s2,rfl,q1,h2.trans q2,UM (VX K) (j1 _) ok.off hrk h3 q3⟩
   have c10:w.cell? ⟨K.b,10,none⟩=some (.slice K.na K.np K.nc):=h.cells 10;have hi:¬(K.np:Int)<(K.np:Int):=by omega
   clear h hm hrk ok
   go_enter Tryz.func100,Tryz.ntmps100
   go_wp2_with fail
   refine HSn.out.mono ?_;rintro e w1 ⟨r,s1,rfl,hS1,hB1,hR1⟩;cases r
   ·have HQ:=zA (HN.out s1 w1 hS1 hB1 hR1)
    clear hS1 hB1 hR1;go_wp2_with fail
    first|exact HQ.out|(go_ret;exact HQ.out)
   ·have HY1:=zA (HY.out s1 w1 hB1 hR1)
    have HSw1:=zA (HSw.out w1 s1 hS1);clear hS1 hB1 hR1;generalize Zt K 0 w1 s1=Q1 at *;go_wp2_with fail
    refine HSw1.out.mono ?_;rintro e w2 hp;obtain⟨r,rfl,hq⟩:=HY1.out _ _ hp;have HQ:=zA hq;clear hq hp;go_wp2_with fail
    first|exact HQ.out|(go_ret;exact HQ.out)
 | succ m ih =>
   intro at' w s hm hrk h;have zK4:at'<K.np:=by omega
   have hf:=ok.np;have HI:Hid (∀w1 s1,(∀p,p<at'+1->s1.rk p<K.np)->kW w1 K s1->Calls Tryz.prog 100 #[.pointer (some ⟨K.b,0,none⟩),.int .i64 ((at':Int)+1)] w1 fun e w'=>rM K (at'+1) w1 s1 w' e):=fun w1 s1 hk h1=>ih (at'+1) w1 s1 (by omega) hk h1
   have HC:Hid (∀w1 s1,kW w1 K s1->w1.cell? ⟨K.b,10,none⟩=some (.slice (some ⟨K.gn,0,none⟩) K.np K.nc)/\w1.cell? ⟨K.gn,at'*5+4,none⟩=some (.int .i64 (s1.rk at':Nat))/\w1.frozen? ⟨K.gn,at'*5+4,none⟩=false):=fun w1 s1 h1=>by
    have hn:=h1.num zK4;refine⟨?_,hn.2.2.2.2.2.1,hn.2.2.2.2.2.2 _⟩;have:=h1.cells 10;rw[<-hn.1];exact this
   have zKN:Hid (∀w1 s1 (v:Nat),v<K.np->wD (uV K) K.np K.P K.sw at' s s1 v->kW w1 K s1->Below K.B w w1->(∀p,p<at'+1->(oC s1 at' v).rk p<K.np)/\kW (w1.setCell ⟨K.gn,at'*5+4,none⟩ (.int .i64 (v:Nat))) K (oC s1 at' v)/\Below K.B w (w1.setCell ⟨K.gn,at'*5+4,none⟩ (.int .i64 (v:Nat)))):=fun w1 s1 v hv hm h1 hb=>by
    refine⟨fun p hp=>?_,h1.setRk zK4 v,hb.setCell (p:=⟨K.gn,at'*5+4,none⟩) (ok.lon (by omega)) _⟩;show (if p=at' then v else s1.rk p)<K.np;by_cases hpa:p=at'
    ·rw[tm hpa];exact hv
    ·rw[tb hpa,hm.kp p (by omega)];exact hrk p (by omega)
   have HY:Hid (∀v s1 s2 w2,wD (uV K) K.np K.P K.sw at' s s1 v->kW w2 K s2->Below K.B w w2->wC (uV K) K.np K.P K.sw (at'+1) (oC s1 at' v) s2 true->rM K at' w s w2 (.returned (.bool true))):=fun v s1 s2 w2 h1 h2 h3 h4=>⟨true,s2,rfl,h2,h3,Fk h1 h4⟩;have HN:Hid (∀s1 w1,wD (uV K) K.np K.P K.sw at' s s1 K.np->kW w1 K s1->Below K.B w w1->rM K at' w s w1 (.returned (.bool false))):=fun s1 w1 h1 h2 h3=>⟨false,s1,rfl,h2,h3,Fl zK4 h1⟩;have HM0:=zA (UO (uV K) K.np K.P K.sw at' s);have HS:=zA h;have h10:=(HC.out w s h).1;have hltI:(at':Int)<(K.np:Int):=by omega
   have hltD:decide (K.np<=at')=false:=tq (by omega);have hltN:¬K.np<=at':=by omega
   clear h ih ok hm hrk
   go_enter Tryz.func100,Tryz.ntmps100
   go_wp2_with fail
   go_loopw [23] (fun iv wr=>∃(v:Nat) (s1:vW),v<=K.np/\iv=.int .i64 v/\Hid (kW wr K s1)/\Hid (Below K.B w wr)/\Hid (wD (uV K) K.np K.P K.sw at' s s1 v)) (fun iv _=>K.np-(intOf iv).toNat)
   case atStart=>exact⟨0,s,by omega,rfl,HS,zA (tg _ _),HM0⟩
   case round =>
    obtain⟨v,s1,hv,rfl,HSr,zKM,HMr⟩:=hrel;by_cases hv1:v<K.np
    ·obtain⟨k10,k0,k1⟩:=HC.out wr s1 HSr.out
     obtain⟨p1,p2,p3⟩:=zKN.out wr s1 v hv1 HMr.out HSr.out zKM.out;have hvI:(v:Int)<(K.np:Int):=by omega
     have HI2:=zA (HI.out _ _ p1 p2);have HB2:=zA p3;clear p1 p2 p3;go_wp2_with fail
     refine HI2.out.mono ?_;rintro e w3 ⟨r,s3,rfl,hS3,hB3,hR3⟩;have HB3:Hid (Below K.B w w3):=HB2.out.trans hB3;cases r
     ·have HM3:=zA (xw HMr.out hR3)
      have HS3:=zA hS3;clear hS3 hB3 hR3;go_wp2_with fail
      go_roundw
      case rel=>exact⟨v+1,s3,by omega,by go_num,HS3,HB3,HM3⟩
      case measure=>simp[intOf];omega
     ·have HQ:=zA (HY.out v s1 s3 w3 HMr.out hS3 HB3.out hR3)
      clear hS3 hB3 hR3;go_wp2_with fail
      first|exact HQ.out|(go_ret;exact HQ.out)
    ·obtain rfl:v=K.np:=by omega
     have HQ:=zA (HN.out s1 wr HMr.out HSr.out zKM.out);have hvI:¬(K.np:Int)<(K.np:Int):=by omega
     go_wp2_with fail
     first|exact HQ.out|(go_ret;exact HQ.out)
def XJ(K:SK)(at':Nat)(w:World)(s:vW)(w':World)(e:Ending):Prop:=∃r s',e=.returned (.bool r)/\kW w' K s'/\Below K.B w w'/\iX (uV K) K.np K.P K.zs K.sw at' s s' r
theorem Qi(K:SK)(ok:XN K):∀(m at':Nat) (w:World) (s:vW),at'+m=K.np->(∀p,p<at'->s.Z p∈K.zs p)->kW w K s ->
 Calls Tryz.prog 67 #[.pointer (some ⟨K.b,0,none⟩),.int .i64 (at':Nat)] w fun e w'=>XJ K at' w s w' e:=by
 intro m
 induction m with
 | zero =>
   intro at' w s hm hz h;obtain rfl:at'=K.np:=by omega
   have HRk:=zA (Qj K ok K.np 0 w s (by omega) (fun p hp=>absurd hp (by omega)) h)
   have HY:Hid (∀e w2,rM K 0 w s w2 e->∃r,e=.returned (.bool r)/\XJ K K.np w s w2 (.returned (.bool r))):=fun e w2 h4=>by
    obtain⟨r,s2,rfl,q1,q2,q3⟩:=h4;exact⟨r,rfl,r,s2,rfl,q1,q2,GP (j1 _) hz q3⟩
   have c10:w.cell? ⟨K.b,10,none⟩=some (.slice K.na K.np K.nc):=h.cells 10;have hi:¬(K.np:Int)<(K.np:Int):=by omega
   clear h hm hz ok;generalize rM K 0 w s=Q1 at *
   go_enter Tryz.func67,Tryz.ntmps67
   go_wp2_with fail
   refine HRk.out.mono ?_;rintro e w2 hp;obtain⟨r,rfl,hq⟩:=HY.out _ _ hp;have HQ:=zA hq;clear hq hp;go_wp2_with fail
   first|exact HQ.out|(go_ret;exact HQ.out)
 | succ m ih =>
   intro at' w s hm hz h;have zK4:at'<K.np:=by omega
   have hf:=ok.np;have hfz:=ok.zs at' zK4;have HI:Hid (∀w1 s1,(∀p,p<at'+1->s1.Z p∈K.zs p)->kW w1 K s1->Calls Tryz.prog 67 #[.pointer (some ⟨K.b,0,none⟩),.int .i64 ((at':Int)+1)] w1 fun e w'=>XJ K (at'+1) w1 s1 w' e):=fun w1 s1 hk h1=>ih (at'+1) w1 s1 (by omega) hk h1
   have HC:Hid (∀w1 s1,kW w1 K s1->w1.cell? ⟨K.b,10,none⟩=some (.slice (some ⟨K.gn,0,none⟩) K.np K.nc)/\w1.cell? ⟨K.gn,at'*5+1,none⟩=some (.slice (K.za at') (K.zs at').length (K.zc at'))/\(w1.cell? ⟨K.gn,at'*5+2,none⟩=some (.int .i64 (s1.Z at').1)/\w1.cell? ⟨K.gn,at'*5+3,none⟩=some (.int .i64 (s1.Z at').2))/\w1.frozen? ⟨K.gn,at'*5+2,none⟩=false/\w1.frozen? ⟨K.gn,at'*5+3,none⟩=false):=fun w1 s1 h1=>by
    have hn:=h1.num zK4;refine⟨?_,hn.2.2.1,⟨hn.2.2.2.1,hn.2.2.2.2.1⟩,hn.2.2.2.2.2.2 _,hn.2.2.2.2.2.2 _⟩;have:=h1.cells 10;rw[<-hn.1];exact this
   have HZc:Hid (∀w1 s1 (v:Nat),kW w1 K s1->v<(K.zs at').length->∃g,K.za at'=some ⟨g,0,none⟩/\w1.cell? ⟨g,v*2,none⟩=some (.int .i64 ((K.zs at').getD v (0,0)).1)/\w1.cell? ⟨g,v*2+1,none⟩=some (.int .i64 ((K.zs at').getD v (0,0)).2)):=fun w1 s1 v h1 hv=>GO (h1.zn at' zK4).cel hv
   have zKN:Hid (∀w1 s1 (v:Nat),v<(K.zs at').length->sX (uV K) K.np K.P K.zs K.sw at' s s1 v->kW w1 K s1->Below K.B w w1->(∀p,p<at'+1->(fF s1 at' ((K.zs at').getD v (0,0))).Z p∈K.zs p)/\∀w2,Below ((w1.setCell ⟨K.gn,at'*5+2,none⟩ (.int .i64 ((K.zs at').getD v (0,0)).1)).setCell ⟨K.gn,at'*5+2+1,none⟩ (.int .i64 ((K.zs at').getD v (0,0)).2)).heap.size ((w1.setCell ⟨K.gn,at'*5+2,none⟩ (.int .i64 ((K.zs at').getD v (0,0)).1)).setCell ⟨K.gn,at'*5+2+1,none⟩ (.int .i64 ((K.zs at').getD v (0,0)).2)) w2->kW w2 K (fF s1 at' ((K.zs at').getD v (0,0)))/\Below K.B w w2/\w2.cell? ⟨K.b,10,none⟩=some (.slice (some ⟨K.gn,0,none⟩) K.np K.nc)):=fun w1 s1 v hv hm h1 hb=>by
    refine⟨DE hm hv hz,fun w2 hb2=>?_⟩;have hlb:=zL h1.hd;have hlo:=ok.lob;have hS:=(h1.setZn zK4 ((K.zs at').getD v (0,0))).below hb2;have hk:=(hb.setCell (p:=⟨K.gn,at'*5+2,none⟩) (ok.lon (by omega)) (.int .i64 ((K.zs at').getD v (0,0)).1)).setCell (p:=⟨K.gn,at'*5+2+1,none⟩) (ok.lon (by omega)) (.int .i64 ((K.zs at').getD v (0,0)).2);refine⟨hS,hk.trans (hb2.mono ?_),(HC.out _ _ hS).1⟩;have:K.B<=w1.heap.size:=by omega
    simpa[World.setCell] using this
   have HY:Hid (∀v s1 s2 w2,sX (uV K) K.np K.P K.zs K.sw at' s s1 v->kW w2 K s2->Below K.B w w2->iX (uV K) K.np K.P K.zs K.sw (at'+1) (fF s1 at' ((K.zs at').getD v (0,0))) s2 true->XJ K at' w s w2 (.returned (.bool true))):=fun v s1 s2 w2 h1 h2 h3 h4=>⟨true,s2,rfl,h2,h3,DD h1 h4⟩;have HN:Hid (∀s1 w1,sX (uV K) K.np K.P K.zs K.sw at' s s1 (K.zs at').length->kW w1 K s1->Below K.B w w1->XJ K at' w s w1 (.returned (.bool false))):=fun s1 w1 h1 h2 h3=>⟨false,s1,rfl,h2,h3,DF zK4 h1⟩;have HM0:=zA (Uu (uV K) K.np K.P K.zs K.sw at' s);have HS:=zA h;obtain⟨h10,h11,-,-⟩:=HC.out w s h;have hltI:(at':Int)<(K.np:Int):=by omega
   have hltD:decide (K.np<=at')=false:=tq (by omega);have hltN:¬K.np<=at':=by omega
   clear h ih ok hm hz;generalize hzn:(K.zs at').length=zn at *;have HZn:=zA hzn;clear hzn;generalize K.za at'=za at *
   go_enter Tryz.func67,Tryz.ntmps67
   go_wp2_with fail
   go_loopw [25] (fun iv wr=>∃(v:Nat) (s1:vW),v<=zn/\iv=.int .i64 v/\Hid (kW wr K s1)/\Hid (Below K.B w wr)/\Hid (sX (uV K) K.np K.P K.zs K.sw at' s s1 v)) (fun iv _=>zn-(intOf iv).toNat)
   case atStart=>exact⟨0,s,by omega,rfl,HS,zA (tg _ _),HM0⟩
   case round =>
    obtain⟨v,s1,hv,rfl,HSr,zKM,HMr⟩:=hrel;by_cases hv1:v<zn
    ·obtain⟨k10,k1,⟨k2,k3⟩,f2,f3⟩:=HC.out wr s1 HSr.out
     obtain⟨p1,p2⟩:=zKN.out wr s1 v hv1 HMr.out HSr.out zKM.out;obtain⟨g,ez,z0,z1⟩:=HZc.out wr s1 v HSr.out hv1;subst ez;have hvI:(v:Int)<(zn:Int):=by omega
     have HP1:=zA p1;have HP2:=zA p2;have hM:=zA HMr.out;have lg:=yG z0;have lgn:=yG k1;have lb:=yG k10;have n1:wr.heap.size≠g:=by omega
     have n2:wr.heap.size≠K.gn:=by omega
     have n3:wr.heap.size≠K.b:=by omega
     have n4:K.gn≠wr.heap.size:=by omega
     have HNo:=zA (fun s3 => @GQ (uV K) K.np K.P K.zs K.sw at' v s s1 s3 HMr.out);have HY1:=zA (fun s3 w3=>HY.out v s1 s3 w3 HMr.out);clear p1 p2;generalize (K.zs at').getD v (0,0)=zz at *;obtain⟨z1l,z1h⟩:=zz;simp only at z0 z1 HP2;generalize (s1.Z at').1=o1 at *;generalize (s1.Z at').2=o2 at *
     go_upto_region 6 with fail
     obtain⟨hS2,hB2,e10⟩:=HP2.out (((wr.setCell ⟨K.gn,at'*5+2,none⟩ (.int .i64 z1l)).setCell ⟨K.gn,at'*5+2+1,none⟩ (.int .i64 z1h)).alloc (.cells #[.int .i64 z1l,.int .i64 z1h] 221)).drew (po (fj (j1 _) _));have e0:(((wr.setCell ⟨K.gn,at'*5+2,none⟩ (.int .i64 z1l)).setCell ⟨K.gn,at'*5+2+1,none⟩ (.int .i64 z1h)).alloc (.cells #[.int .i64 z1l,.int .i64 z1h] 221)).cell? ⟨wr.heap.size,0,none⟩=some (.int .i64 z1l):=zB (yW _ _ _ (by simp[World.setCell])) 0;have e1:(((wr.setCell ⟨K.gn,at'*5+2,none⟩ (.int .i64 z1l)).setCell ⟨K.gn,at'*5+2+1,none⟩ (.int .i64 z1h)).alloc (.cells #[.int .i64 z1l,.int .i64 z1h] 221)).cell? ⟨wr.heap.size,1,none⟩=some (.int .i64 z1h):=zB (yW _ _ _ (by simp[World.setCell])) 1;have e10':(((wr.setCell ⟨K.gn,at'*5+2,none⟩ (.int .i64 z1l)).setCell ⟨K.gn,at'*5+2+1,none⟩ (.int .i64 z1h)).alloc (.cells #[.int .i64 z1l,.int .i64 z1h] 221)).cell? ⟨K.b,10,none⟩=some (.slice (some ⟨K.gn,0,none⟩) K.np K.nc):=e10;have HI2:=zA (HI.out _ _ HP1.out hS2);have HB2:=zA hB2;clear hS2 hB2 e10
     go_region_held3 (fun w'=>w'.cell? ⟨K.b,10,none⟩=some (.slice (some ⟨K.gn,0,none⟩) K.np K.nc)/\w'.cell? ⟨wr.heap.size,0,none⟩=some (.int .i64 z1l)/\w'.cell? ⟨wr.heap.size,1,none⟩=some (.int .i64 z1h)) (go_keep) (fail)
     all_goals
      go_wp2_with fail
      refine HI2.out.mono ?_;rintro e w3 ⟨r,s3,rfl,hS3,hB3,hR3⟩;have HB3:Hid (Below K.B w w3):=HB2.out.trans hB3;cases r
      ·have HM3:=zA (HNo.out s3 hR3)
       have HS3:=zA hS3;clear hS3 hB3 hR3;go_wp2_with fail
       go_roundw
       case rel=>exact⟨v+1,s3,by omega,by go_num,HS3,HB3,HM3⟩
       case measure=>simp[intOf];omega
      ·have HQ:=zA (HY1.out s3 w3 hS3 HB3.out hR3)
       clear hS3 hB3 hR3;go_wp2_with fail
       first|exact HQ.out|(go_ret;exact HQ.out)
    ·obtain rfl:v=zn:=by omega
     have HQ:=zA (HN.out s1 wr HMr.out HSr.out zKM.out);have hvI:¬(v:Int)<(v:Int):=by omega
     go_wp2_with fail
     first|exact HQ.out|(go_ret;exact HQ.out)
def pV(I:List zP)(e l:xO)(i:Nat):List Nat:=(List.range i).filter fun i=>qM e l i&&xQ I i
theorem KZ(I:List zP)(e l:xO)(i:Nat):pV I e l (i+1)=pV I e l i++(if (qM e l i&&xQ I i)=true then [i] else []):=by
 unfold pV;rw[lh,dk,List.filter_cons,dy]
def uY(I:List zP)(e l:xO)(i:Nat):List jJ:=((List.range i).filter fun i=>qM e l i && !xQ I i).map fun i=>⟨true,i⟩
theorem U3(I:List zP)(e l:xO)(i:Nat):uY I e l (i+1)=uY I e l i++(if (qM e l i && !xQ I i)=true then [⟨true,i⟩] else []):=by
 unfold uY;rw[lh,dk,bg,List.filter_cons,dy];split <;> rfl
def uQ(e l:xO)(c:Nat):List jJ:=((List.range c).filter fun c => !uG e l c&&(vL e c || vL l c)).map fun c=>⟨false,c⟩
theorem U2(e l:xO)(c:Nat):uQ e l (c+1)=uQ e l c++(if (!uG e l c&&(vL e c || vL l c))=true then [⟨false,c⟩] else []):=by
 unfold uQ;rw[lh,dk,bg,List.filter_cons,dy];split <;> rfl
theorem YP(I:List zP)(e l:xO)(i:Nat):(pV I e l i).length<=i:=by have:=da (fun i=>qM e l i&&xQ I i) (List.range i);simpa[pV] using this
theorem Qq(I:List zP)(e l:xO)(i:Nat):(uY I e l i).length<=i:=by unfold uY;rw[pi];have:=da (fun i=>qM e l i && !xQ I i) (List.range i);simpa using this
theorem Qp(e l:xO)(c:Nat):(uQ e l c).length<=c:=by unfold uQ;rw[pi];have:=da (fun c => !uG e l c&&(vL e c || vL l c)) (List.range c);simpa using this
structure NE where
 place:Nat
 za:Option Addr
 zc:Nat
variable{L:List NE}
def zFH(F:Nat->List (Int × Int))(x:NE):List Value:=[.int .i64 (x.place:Nat),.slice x.za (F x.place).length x.zc,.int .i64 0,.int .i64 0,.int .i64 0]
def aM(F:Nat->List (Int × Int))(l:List NE):List Value:=l.flatMap (zFH F)
theorem vy(F:Nat->List (Int × Int))(a b:List NE):aM F (a++b)=aM F a++aM F b:=by unfold aM;rw[li]
def Y3(l:List jJ):List Value:=l.flatMap zIV
theorem zr(a b:List jJ):Y3 (a++b)=Y3 a++Y3 b:=by unfold Y3;rw[li]
def U6(x y:MX)(nv sv iv hv:Value):Array Value := #[.string ⟨x.1.label.toArray⟩,.int .i64 x.1.conc,x.2.1,x.2.2,.int .i64 x.1.root,.string ⟨y.1.label.toArray⟩,.int .i64 y.1.conc,y.2.1,y.2.2,.int .i64 y.1.root,nv,sv,iv,hv,.slice none 0 0]
def C2:Array Value := #[.string ⟨#[]⟩,.int .i64 0,.slice none 0 0,.slice none 0 0,.int .i64 0,.string ⟨#[]⟩,.int .i64 0,.slice none 0 0,.slice none 0 0,.int .i64 0,.slice none 0 0,.slice none 0 0,.slice none 0 0,.slice none 0 0,.slice none 0 0]
theorem yu(x y:MX)(nv sv iv hv:Value):(Tryz.prog.info? 170).map (·.size)=some (U6 x y nv sv iv hv).size:=by
 show _=some 15;kernel_rfl
theorem CH{iv hv:Value}(h1:x.2.1.oneCell'=true)(h2:x.2.2.oneCell'=true)(h3:y.2.1.oneCell'=true)(h4:y.2.2.oneCell'=true)(h5:nv.oneCell'=true)(h6:sv.oneCell'=true)(h7:iv.oneCell'=true)(h8:hv.oneCell'=true):(U6 x y nv sv iv hv).all (·.oneCell')=true:=by
 unfold U6;simp only[List.all_toArray,fd,List.all_nil,h1,h2,h3,h4,h5,h6,h7,h8];rfl
theorem vX.grown{g:Nat}{e:TypeId}{f:Nat->Value}(h:vX w g t n f)(zK6:w.ownsRow B e k v m ys)(zK8:t≠e)(hg:w.grownBy w' v.ownBlock):vX w' g t n f:=by
 obtain⟨cs,h1,h2⟩:=h;refine⟨cs,?_,h2⟩;rw[hg.block g (zL h1) (fun e1=>?_)]
 ·exact h1
 ·rcases zK6.2 with ⟨k1,_⟩|⟨g',cap,yM,k1,_,k3,_⟩
  ·rw[k1]at e1;simp[Value.ownBlock]at e1
  ·rw[k1]at e1;simp[Value.ownBlock]at e1
   subst e1;rw[h1]at k3;simp only[ly,Obj.cells.injEq]at k3;exact zK8 k3.2.1
structure ZX(w wx:World)(x y:MX)(n h gi gh:Nat)(nv sv:Value)(inp:Nat->Int)(has:Nat->Bool):Prop where
 bel:Below w.heap.size w wx
 sz:w.heap.size+4<=wx.heap.size
 bx:wx.heap[w.heap.size]? = some (.cells #[.string ⟨x.1.label.toArray⟩,.int .i64 x.1.conc,x.2.1,x.2.2,.int .i64 x.1.root] 162 (0,0))
 by':wx.heap[w.heap.size+1]? = some (.cells #[.string ⟨y.1.label.toArray⟩,.int .i64 y.1.conc,y.2.1,y.2.2,.int .i64 y.1.root] 162 (0,0))
 res:wx.heap[w.heap.size+1+1]? = some (.cells C2 170 (0,0))
 hd:wx.heap[w.heap.size+1+1+1]? = some (.cells (U6 x y nv sv (.slice (some ⟨gi,0,none⟩) n n) (.slice (some ⟨gh,0,none⟩) h h)) 170 (0,0))
 rI:vX wx gi 3 n (fun i=>.int .i64 (inp i))
 rH:vX wx gh 4 h (fun c=>.bool (has c))
 loi:w.heap.size+4<=gi
 loh:w.heap.size+4<=gh
theorem ZX.below{inp:Nat->Int}(k:ZX w wx x y n h gi gh nv sv inp has)(hb:Below wx.heap.size wx wy):ZX w wy x y n h gi gh nv sv inp has:=by
 have hs:=k.sz;have hz:=hb.size;exact⟨k.bel.trans (hb.mono (by omega)),by omega,by rw[hb.block _ (by omega)];exact k.bx,by rw[hb.block _ (by omega)];exact k.by',by rw[hb.block _ (by omega)];exact k.res,by rw[hb.block _ (by omega)];exact k.hd,k.rI.below hb,k.rH.below hb,k.loi,k.loh⟩
theorem ZX.setI{inp f:Nat->Int}(k:ZX w wx x y n h gi gh nv sv inp has){i:Nat}(hi:i<n)(v:Int)(e1:f i=v)(e2:∀r,r<n->r≠i->f r=inp r):ZX w (wx.setCell ⟨gi,i,none⟩ (.int .i64 v)) x y n h gi gh nv sv f has:=by
 have hs:=k.sz;have hl:=k.loi;refine⟨k.bel.setCell (p:=⟨gi,i,none⟩) (by show w.heap.size<=gi;omega) _,by simp[World.setCell];exact hs,?_,?_,?_,?_,k.rI.set _ hi (congrArg (Value.int .i64) e1) (fun a ha zK8=>congrArg (Value.int .i64) (e2 a ha zK8)),k.rH.other _ (k.rH.ne k.rI (by decide)),k.loi,k.loh⟩
 ·rw[py wx ⟨gi,i,none⟩ _ _ (by show w.heap.size≠gi;omega)];exact k.bx
 ·rw[py wx ⟨gi,i,none⟩ _ _ (by show w.heap.size+1≠gi;omega)];exact k.by'
 ·rw[py wx ⟨gi,i,none⟩ _ _ (by show w.heap.size+1+1≠gi;omega)];exact k.res
 ·rw[py wx ⟨gi,i,none⟩ _ _ (by show w.heap.size+1+1+1≠gi;omega)];exact k.hd
theorem ZX.setH{inp:Nat->Int}{f:Nat->Bool}(k:ZX w wx x y n h gi gh nv sv inp has){i:Nat}(hi:i<h)(v:Bool)(e1:f i=v)(e2:∀r,r<h->r≠i->f r=has r):ZX w (wx.setCell ⟨gh,i,none⟩ (.bool v)) x y n h gi gh nv sv inp f:=by
 have hs:=k.sz;have hl:=k.loh;refine⟨k.bel.setCell (p:=⟨gh,i,none⟩) (by show w.heap.size<=gh;omega) _,by simp[World.setCell];exact hs,?_,?_,?_,?_,k.rI.other _ (k.rI.ne k.rH (by decide)),k.rH.set _ hi (congrArg Value.bool e1) (fun a ha zK8=>congrArg Value.bool (e2 a ha zK8)),k.loi,k.loh⟩
 ·rw[py wx ⟨gh,i,none⟩ _ _ (by show w.heap.size≠gh;omega)];exact k.bx
 ·rw[py wx ⟨gh,i,none⟩ _ _ (by show w.heap.size+1≠gh;omega)];exact k.by'
 ·rw[py wx ⟨gh,i,none⟩ _ _ (by show w.heap.size+1+1≠gh;omega)];exact k.res
 ·rw[py wx ⟨gh,i,none⟩ _ _ (by show w.heap.size+1+1+1≠gh;omega)];exact k.hd
theorem ZX.setHd{inp:Nat->Int}(k:ZX w wx x y n h gi gh nv sv inp has){nv' sv':Value}(e:(U6 x y nv sv (.slice (some ⟨gi,0,none⟩) n n) (.slice (some ⟨gh,0,none⟩) h h)).setIfInBounds j v=U6 x y nv' sv' (.slice (some ⟨gi,0,none⟩) n n) (.slice (some ⟨gh,0,none⟩) h h)):ZX w (wx.setCell ⟨w.heap.size+1+1+1,j,none⟩ v) x y n h gi gh nv' sv' inp has:=by
 have hs:=k.sz;have l1:=k.loi;have l2:=k.loh;refine⟨k.bel.setCell (p:=⟨w.heap.size+1+1+1,j,none⟩) (by show w.heap.size<=w.heap.size+1+1+1;omega) _,by simp[World.setCell];exact hs,?_,?_,?_,?_,k.rI.other _ (by omega),k.rH.other _ (by omega),k.loi,k.loh⟩
 ·rw[py wx ⟨w.heap.size+1+1+1,j,none⟩ _ _ (by show w.heap.size≠w.heap.size+1+1+1;omega)];exact k.bx
 ·rw[py wx ⟨w.heap.size+1+1+1,j,none⟩ _ _ (by show w.heap.size+1≠w.heap.size+1+1+1;omega)];exact k.by'
 ·rw[py wx ⟨w.heap.size+1+1+1,j,none⟩ _ _ (by show w.heap.size+1+1≠w.heap.size+1+1+1;omega)];exact k.res
 ·rw[tr wx _ j _ _ _ k.hd,e]
theorem ZX.setN{inp:Nat->Int}(k:ZX w wx x y n h gi gh nv sv inp has)(v:Value):ZX w (wx.setCell ⟨w.heap.size+1+1+1,10,none⟩ v) x y n h gi gh v sv inp has:=k.setHd rfl
theorem ZX.setS{inp:Nat->Int}(k:ZX w wx x y n h gi gh nv sv inp has)(v:Value):ZX w (wx.setCell ⟨w.heap.size+1+1+1,11,none⟩ v) x y n h gi gh nv v inp has:=k.setHd rfl
theorem ZX.grown{inp:Nat->Int}(k:ZX w wx x y n h gi gh nv sv inp has){e:TypeId}{q:Nat}(zK6:wx.ownsRow (w.heap.size+4) e m v q ys)(h1:3≠e)(h2:4≠e)(hg:wx.grownBy wy v.ownBlock):ZX w wy x y n h gi gh nv sv inp has:=by
 have hs:=k.sz;have hb:=fun b (hb:b<w.heap.size+4)=>hg.block b (by omega) (fun e1=>by have:=(yA zK6 b e1.symm).1;omega);exact⟨k.bel.grown hg (by omega) (fun b hb=>by have:=(yA zK6 b hb).1;omega),by have:=hg.size;omega,by rw[hb _ (by omega)];exact k.bx,by rw[hb _ (by omega)];exact k.by',by rw[hb _ (by omega)];exact k.res,by rw[hb _ (by omega)];exact k.hd,k.rI.grown zK6 h1 hg,k.rH.grown zK6 h2 hg,k.loi,k.loh⟩
theorem ZX.fresh{w4:World}(bx:w4.heap[w.heap.size]? = some (.cells #[.string ⟨x.1.label.toArray⟩,.int .i64 x.1.conc,x.2.1,x.2.2,.int .i64 x.1.root] 162 (0,0)))(by':w4.heap[w.heap.size+1]? = some (.cells #[.string ⟨y.1.label.toArray⟩,.int .i64 y.1.conc,y.2.1,y.2.2,.int .i64 y.1.root] 162 (0,0)))(res:w4.heap[w.heap.size+1+1]? = some (.cells C2 170 (0,0)))(hd:w4.heap[w.heap.size+1+1+1]? = some (.cells (U6 x y (.slice none 0 0) (.slice none 0 0) (.slice none 0 0) (.slice none 0 0)) 170 (0,0)))(bel:Below w.heap.size w w4)(hs:w.heap.size+4<=w4.heap.size)(hb:Below w4.heap.size w4 wx)(hI:wx.heap[gi]? = some (.cells (iC (List.replicate n 0)) 3 (0,0)))(hH:wx.heap[gh]? = some (.cells (gC (List.replicate h false)) 4 (0,0)))(l1:w4.heap.size<=gi)(l2:w4.heap.size<=gh) :
 ZX w (((wx.setCell ⟨w.heap.size+1+1+1,12,none⟩ (.slice (some ⟨gi,0,none⟩) n n)).setCell ⟨w.heap.size+1+1+1,13,none⟩ (.slice (some ⟨gh,0,none⟩) h h)).setCell ⟨w.heap.size+1+1+1,14,none⟩ (.slice none 0 0)) x y n h gi gh (.slice none 0 0) (.slice none 0 0) (fun _=>0) (fun _=>false):=by
 have hz:=hb.size;have ne:∀(v:Value) (j:Nat) (W:World) (b:Nat),b≠w.heap.size+1+1+1->(W.setCell ⟨w.heap.size+1+1+1,j,none⟩ v).heap[b]? = W.heap[b]? := fun v j W b hb=>py W ⟨w.heap.size+1+1+1,j,none⟩ b v hb;have q0:wx.heap[w.heap.size+1+1+1]? = _:=(hb.block _ (by omega)).trans hd;have q1:=tr wx _ 12 _ _ (.slice (some ⟨gi,0,none⟩) n n) q0;have q2:=tr _ _ 13 _ _ (.slice (some ⟨gh,0,none⟩) h h) q1;have q3:=tr _ _ 14 _ _ (.slice none 0 0) q2;refine⟨?_,by simp[World.setCell];omega,?_,?_,?_,q3,?_,?_,by omega,by omega⟩
 ·have h0:w.heap.size<=w.heap.size+1+1+1:=by omega
  exact((((bel.trans (hb.mono (by omega))).setCell (p:=⟨w.heap.size+1+1+1,12,none⟩) h0 _).setCell (p:=⟨w.heap.size+1+1+1,13,none⟩) h0 _).setCell (p:=⟨w.heap.size+1+1+1,14,none⟩) h0 _)
 ·rw[ne _ _ _ _ (by omega),ne _ _ _ _ (by omega),ne _ _ _ _ (by omega),hb.block _ (by omega)];exact bx
 ·rw[ne _ _ _ _ (by omega),ne _ _ _ _ (by omega),ne _ _ _ _ (by omega),hb.block _ (by omega)];exact by'
 ·rw[ne _ _ _ _ (by omega),ne _ _ _ _ (by omega),ne _ _ _ _ (by omega),hb.block _ (by omega)];exact res
 ·refine⟨_,by rw[ne _ _ _ _ (by omega),ne _ _ _ _ (by omega),ne _ _ _ _ (by omega)];exact hI,fun j hj=>?_⟩
  rw[kf (by simpa using hj)];simp[List.getD,hj]
 ·refine⟨_,by rw[ne _ _ _ _ (by omega),ne _ _ _ _ (by omega),ne _ _ _ _ (by omega)];exact hH,fun j hj=>?_⟩
  rw[Xu (by simpa using hj)];simp[List.getD,hj]
theorem eQ(h:w.ownsRow B t k v n xs){u:Value}{cs:Array Value}{fz:Nat × Nat}(hb:w.heap[b]? = some (.cells cs t' fz))(zK8:t≠t'):(w.setCell ⟨b,j,none⟩ u).ownsRow B t k v n xs:=⟨h.1,by
 rcases h.2 with q|⟨g',cap,yM,k1,k2,q3,k4⟩
 ·exact .inl q
 ·exact .inr ⟨g',cap,yM,k1,k2,by rw[py w ⟨b,j,none⟩ g' u (YT q3 hb zK8)];exact q3,k4⟩⟩
theorem eR(h:w.ownsRow B t k v n xs){g:Nat}{f:Nat->Value}(u:Value)(hr:vX w g t' m f)(zK8:t≠t'):(w.setCell ⟨g,j,none⟩ u).ownsRow B t k v n xs:=by
 obtain⟨cs,q,_⟩:=hr;exact eQ h q zK8
theorem eS(h:w.ownsRow B t k v n xs)(hb:Below w.heap.size w w'):w'.ownsRow B t k v n xs:=⟨h.1,by
 rcases h.2 with q|⟨g',cap,yM,k1,k2,q3,k4⟩
 ·exact .inl q
 ·exact .inr ⟨g',cap,yM,k1,k2,by rw[hb.block g' (zL q3)];exact q3,k4⟩⟩
theorem YM(h:w.ownsRow B t k v n xs){B' q:Nat}(zK6:w.ownsRow B' t' m v' q ys)(zK8:t≠t')(hg:w.grownBy w' v'.ownBlock):w'.ownsRow B t k v n xs:=⟨h.1,by
 rcases h.2 with q|⟨g',cap,yM,k1,k2,q3,k4⟩
 ·exact .inl q
 ·refine .inr ⟨g',cap,yM,k1,k2,?_,k4⟩
  rw[hg.block g' (zL q3) (fun e1=>?_)]
  ·exact q3
  ·rcases zK6.2 with ⟨p1,_⟩|⟨g2,_,_,p1,_,p3,_⟩
   ·rw[p1]at e1;simp[Value.ownBlock]at e1
   ·rw[p1]at e1;simp[Value.ownBlock]at e1
    subst e1;rw[q3]at p3;simp only[ly,Obj.cells.injEq]at p3;exact zK8 p3.2.1⟩
structure ZM(w wr:World)(x y:MX)(n h gi gh:Nat)(F:Nat->List (Int × Int))(nv sv:Value)(L:List NE)(T:List jJ)(inp:Nat->Int)(has:Nat->Bool):Prop where
 ns:ZX w wr x y n h gi gh nv sv inp has
 nums:wr.ownsRow (w.heap.size+4) 223 5 nv L.length (aM F L)
 zn:∀q∈L,xG wr 221 q.za (dH (F q.place))
 sws:wr.ownsRow (w.heap.size+4) 216 2 sv T.length (Y3 T)
theorem ZM.below{inp:Nat->Int}(k:ZM w wr x y n h gi gh F nv sv L T inp has)(hb:Below wr.heap.size wr wy):ZM w wy x y n h gi gh F nv sv L T inp has :=
 ⟨k.ns.below hb,eS k.nums hb,fun q hq=>(k.zn q hq).below hb,eS k.sws hb⟩
theorem ZM.setI{inp f:Nat->Int}(k:ZM w wr x y n h gi gh F nv sv L T inp has){i:Nat}(hi:i<n)(v:Int)(e1:f i=v)(e2:∀r,r<n->r≠i->f r=inp r):ZM w (wr.setCell ⟨gi,i,none⟩ (.int .i64 v)) x y n h gi gh F nv sv L T f has :=
 ⟨k.ns.setI hi v e1 e2,eR k.nums _ k.ns.rI (by decide),fun q hq=>(k.zn q hq).row _ k.ns.rI (by decide),eR k.sws _ k.ns.rI (by decide)⟩
theorem ZM.setH{inp:Nat->Int}{f:Nat->Bool}(k:ZM w wr x y n h gi gh F nv sv L T inp has){i:Nat}(hi:i<h)(v:Bool)(e1:f i=v)(e2:∀r,r<h->r≠i->f r=has r):ZM w (wr.setCell ⟨gh,i,none⟩ (.bool v)) x y n h gi gh F nv sv L T inp f :=
 ⟨k.ns.setH hi v e1 e2,eR k.nums _ k.ns.rH (by decide),fun q hq=>(k.zn q hq).row _ k.ns.rH (by decide),eR k.sws _ k.ns.rH (by decide)⟩
theorem ZM.tog{inp:Nat->Int}(k:ZM w wr x y n h gi gh F nv sv L T inp has)(t:jJ)(zK6:wy.ownsRow (w.heap.size+4) 216 2 v' (T.length+1) (Y3 T++zIV t))(hg:wr.grownBy wy sv.ownBlock):ZM w (wy.setCell ⟨w.heap.size+1+1+1,11,none⟩ v') x y n h gi gh F nv v' L (T++[t]) inp has:=by
 have k1:=k.ns.grown k.sws (by decide) (by decide) hg;refine⟨k1.setS v',eQ (YM k.nums k.sws (by decide) hg) k1.hd (by decide),fun q hq=>((k.zn q hq).grown k.sws (by decide) hg).set k1.hd (by decide),?_⟩;rw[zr,tl];have e:Y3 [t]=zIV t:=by simp[Y3]
 rw[e];exact eQ zK6 k1.hd (by decide)
theorem ZM.num{inp:Nat->Int}(k:ZM w wr x y n h gi gh F nv sv L T inp has)(q:NE)(hq:xG wr 221 q.za (dH (F q.place)))(zK6:wy.ownsRow (w.heap.size+4) 223 5 v' (L.length+1) (aM F L++zFH F q))(hg:wr.grownBy wy nv.ownBlock):ZM w (wy.setCell ⟨w.heap.size+1+1+1,10,none⟩ v') x y n h gi gh F v' sv (L++[q]) T inp has:=by
 have k1:=k.ns.grown k.nums (by decide) (by decide) hg;refine⟨k1.setN v',?_,fun r hr=>?_,eQ (YM k.sws k.nums (by decide) hg) k1.hd (by decide)⟩
 ·rw[vy,tl]
  have e:aM F [q]=zFH F q:=by simp[aM]
  rw[e];exact eQ zK6 k1.hd (by decide)
 ·rcases pu.1 hr with hr|hr
  ·exact((k.zn r hr).grown k.nums (by decide) hg).set k1.hd (by decide)
  ·simp at hr;subst hr
   exact(hq.grown k.nums (by decide) hg).set k1.hd (by decide)
theorem Fg(w:World)(g k:Nat)(cs:Array Value)(h:k≠g):(w.setRow g cs).heap[k]? = w.heap[k]? := by
 unfold World.setRow;simp only[Array.getElem?_modify];rw[tb (by omega)]
structure zIP(w wr:World)(n h gi gh:Nat)(F:Nat->List (Int × Int))(nv sv:Value)(L:List NE)(T:List jJ)(inp:Nat->Int)(has:Nat->Bool):Prop where
 bel:Below w.heap.size w wr
 nums:wr.ownsRow (w.heap.size+4) 223 5 nv L.length (aM F L)
 zn:∀q∈L,xG wr 221 q.za (dH (F q.place))
 sws:wr.ownsRow (w.heap.size+4) 216 2 sv T.length (Y3 T)
 rI:vX wr gi 3 n (fun i=>.int .i64 (inp i))
 rH:vX wr gh 4 h (fun c=>.bool (has c))
 loi:w.heap.size<=gi
 loh:w.heap.size<=gh
theorem ZM.done{inp:Nat->Int}(k:ZM w wr x y n h gi gh F nv sv L T inp has)(cs:Array Value):zIP w (wr.setRow (w.heap.size+1+1) cs) n h gi gh F nv sv L T inp has:=by
 have zK8:∀ {g:Nat} {c:Array Value} {t:TypeId} {fz:Nat × Nat},wr.heap[g]? = some (.cells c t fz)->t≠170->(wr.setRow (w.heap.size+1+1) cs).heap[g]? = wr.heap[g]? := fun h1 h2=>Fg _ _ _ _ (YT h1 k.ns.res h2)
 have zK6:∀ {t:TypeId} {m q:Nat} {v:Value} {ys:List Value},wr.ownsRow (w.heap.size+4) t m v q ys->t≠170->(wr.setRow (w.heap.size+1+1) cs).ownsRow (w.heap.size+4) t m v q ys:=fun h1 h2=>⟨h1.1,by
  rcases h1.2 with q|⟨g',cap,yM,k1,k2,q3,k4⟩
  ·exact .inl q
  ·exact .inr ⟨g',cap,yM,k1,k2,by rw[zK8 q3 h2];exact q3,k4⟩⟩
 have hrow:∀ {t:TypeId} {g m:Nat} {f:Nat->Value},vX wr g t m f->t≠170->vX (wr.setRow (w.heap.size+1+1) cs) g t m f:=fun h1 h2=>by
  obtain⟨c,q1,q2⟩:=h1;exact⟨c,by rw[zK8 q1 h2];exact q1,q2⟩
 have l1:=k.ns.loi;have l2:=k.ns.loh;exact⟨yT k.ns.bel (by omega) _,zK6 k.nums (by decide),fun q hq=>(k.zn q hq).keep fun g c fz hg=>zK8 hg (by decide),zK6 k.sws (by decide),hrow k.ns.rI (by decide),hrow k.ns.rH (by decide),by omega,by omega⟩
def lR(I:List zP)(i j:Nat):Int:=if j<i then (kU I j).low else 0
def lT(e l:xO)(c j:Nat):Bool:=decide (j<c)&&uG e l j
theorem zDQ:(Tryz.prog.info? 223).map (fun i=>(i.zero,i.size,i.bytes))=some (some (.agg #[.int .i64 0,.slice none 0 0,.int .i64 0,.int .i64 0,.int .i64 0]),5,56):=by kernel_rfl
theorem zDO:(Tryz.prog.info? 216).map (fun i=>(i.zero,i.size,i.bytes))=some (some (.agg #[.bool false,.int .i64 0]),2,16):=by kernel_rfl
def Kl(I:List zP)(H:Nat)(x y:MX)(w w':World)(e:Ending):Prop:=∃gi gh nv sv L,e=.returned (.agg (U6 x y nv sv (.slice (some ⟨gi,0,none⟩) I.length I.length) (.slice (some ⟨gh,0,none⟩) H H)))/\zIP w w' I.length H gi gh (tQ I x.1 y.1) nv sv L (uY I x.1 y.1 I.length++uQ x.1 y.1 H) (lR I I.length) (lT x.1 y.1 H)/\L.map NE.place=vD I x.1 y.1
theorem FO(I:List zP)(i:Nat):lR I (i+1) i=(kU I i).low/\∀r,r≠i->lR I (i+1) r=lR I i r:=by
 refine⟨by unfold lR;rw[tm (by omega)],fun r hr=>?_⟩;unfold lR;by_cases h:r<i
 ·rw[tm (by omega),tm h]
 ·rw[tb (by omega),tb h]
theorem FX(e l:xO)(i:Nat):lT e l (i+1) i=uG e l i/\∀r,r≠i->lT e l (i+1) r=lT e l i r:=by
 refine⟨by unfold lT;simp,fun r hr=>?_⟩;unfold lT;by_cases h:r<i
 ·rw[tu h,tu (show r<i+1 by omega)]
 ·rw[tq h,tq (show ¬r<i+1 by omega)]
theorem nC(r:xO)(i:Nat):(xK r i).length<=r.guard.length:=by unfold xK;rw[pi];exact da _ _
theorem QI{a:Option Addr}(h:kS w a (I.flatMap uI)){i:Nat}(hi:i<I.length):∃g,a=some ⟨g,0,none⟩/\w.cell? ⟨g,i*4,none⟩=some (.string ⟨(kU I i).name.toArray⟩)/\w.cell? ⟨g,i*4+1,none⟩=some (.bool (kU I i).isFlag)/\w.cell? ⟨g,i*4+2,none⟩=some (.int .i64 (kU I i).low)/\w.cell? ⟨g,i*4+3,none⟩=some (.int .i64 (kU I i).high):=by
 obtain⟨g,e,c0⟩:=h.at ((zN uI 4 (fun _=>rfl) eX I i 0 hi (by decide)).trans rfl);obtain⟨g1,e1,c1⟩:=h.at ((zN uI 4 (fun _=>rfl) eX I i 1 hi (by decide)).trans rfl);obtain⟨g2,e2,c2⟩:=h.at ((zN uI 4 (fun _=>rfl) eX I i 2 hi (by decide)).trans rfl);obtain⟨g3,e3,c3⟩:=h.at ((zN uI 4 (fun _=>rfl) eX I i 3 hi (by decide)).trans rfl);obtain rfl:g=g1:=by rw[e]at e1;simpa using e1
 obtain rfl:g=g2:=by rw[e]at e2;simpa using e2
 obtain rfl:g=g3:=by rw[e]at e3;simpa using e3
 exact⟨g,e,c0,c1,c2,c3⟩
theorem Vb(w:World)(b o:Nat)(I:List zP)(H:Nat)(x y:MX)(ia ca:Option Addr)(ic cc:Nat)(h0:w.cell? ⟨b,o,none⟩=some (.slice ia I.length ic))(h1:w.cell? ⟨b,o+1,none⟩=some (.slice ca H cc))(hI:xG w 204 ia (I.flatMap uI))(hx:uL w x)(hy:uL w y)(fI:I.length<=10000)(fH:H<=10000)(hbd:∀i z,z∈xK x.1 i++xK y.1 i -> -1000000<=z/\z<=1000000)(hzf:∀i,(tQ I x.1 y.1 i).length<=100000) :
 Calls Tryz.prog 66 #[.pointer (some ⟨b,o,none⟩),uE x,uE y] w fun e w'=>Kl I H x y w w' e:=by
 have lb:=yG h0;obtain⟨i0,hi0,hz0,hz1,hz2⟩:=info_parts zDO;obtain⟨j0,hj0,hj1,hj2,hj3⟩:=info_parts zDQ;have zKR:=zA (fun w' (hb:Below w.heap.size w w') i (hi:i<I.length)=>QI (hI.below hb).cel hi);have HAI1:=zA (fun w' (hb:Below w.heap.size w w') (c:Nat)=>ZP w' x c (hx.below hb));have HAI2:=zA (fun w' (hb:Below w.heap.size w w') (c:Nat)=>ZP w' y c (hy.below hb));have HBd1:=zA (fun w' (hb:Below w.heap.size w w') (c:Nat)=>Uq w' x c (hx.below hb));have HBd2:=zA (fun w' (hb:Below w.heap.size w w') (c:Nat)=>Uq w' y c (hy.below hb));have HNd1:=zA (fun w' (hb:Below w.heap.size w w') (c:Nat)=>D8 w' x c (hx.below hb));have HNd2:=zA (fun w' (hb:Below w.heap.size w w') (c:Nat)=>D8 w' y c (hy.below hb));have HAH1:=zA (fun w' (hb:Below w.heap.size w w') (c:Nat)=>Jo w' x c (hx.below hb));have HAH2:=zA (fun w' (hb:Below w.heap.size w w') (c:Nat)=>Jo w' y c (hy.below hb));have HZo:Hid (∀w' i (ea la:Option Addr) (ec lc:Nat),jV w' ea (xK x.1 i)->jV w' la (xK y.1 i)->Calls Tryz.prog 97 #[ZD (kU I i),.slice ea (xK x.1 i).length ec,.slice la (xK y.1 i).length lc] w' fun e w''=>∃v,e=.returned v/\w''.ownsRow w'.heap.size 221 2 v (tQ I x.1 y.1 i).length (dH (tQ I x.1 y.1 i))/\Below w'.heap.size w' w''):=fun w' i ea la ec lc h1 h2=>DC w' (kU I i) ea la ec lc _ _ h1 h2 (hbd i);have HBl1:Hid (∀i,(xK x.1 i).length<=10000):=fun i=>p7 (nC _ _) hx.few2;have HBl2:Hid (∀i,(xK y.1 i).length<=10000):=fun i=>p7 (nC _ _) hy.few2;have HNs:=zA (fun i=>KZ I x.1 y.1 i);have HS1:=zA (fun i=>U3 I x.1 y.1 i);have HS2:=zA (fun i=>U2 x.1 y.1 i);have HNl:=zA (fun i=>YP I x.1 y.1 i);have HS1l:=zA (fun i=>Qq I x.1 y.1 i);have HS2l:=zA (fun i=>Qp x.1 y.1 i);have HIs:=zA (fun i=>FO I i);have HHs:=zA (fun i=>FX x.1 y.1 i);have HAb:Hid (∀i,qM x.1 y.1 i=(tP x.1 i || tP y.1 i)):=fun _=>rfl;have HNb:Hid (∀i,uG x.1 y.1 i=(pY x.1 i || pY y.1 i)):=fun _=>rfl;have HIf:Hid (∀i,xQ I i = !(kU I i).isFlag):=fun _=>rfl;have HPo:Hid (∀w' gi gh nv sv L,zIP w w' I.length H gi gh (tQ I x.1 y.1) nv sv L (uY I x.1 y.1 I.length++uQ x.1 y.1 H) (lR I I.length) (lT x.1 y.1 H)->L.map NE.place=pV I x.1 y.1 I.length->Kl I H x y w w' (.returned (.agg (U6 x y nv sv (.slice (some ⟨gi,0,none⟩) I.length I.length) (.slice (some ⟨gh,0,none⟩) H H))))):=fun w' gi gh nv sv L h1 h2=>⟨gi,gh,nv,sv,L,rfl,h1,h2⟩;have HZf:=zA hzf;obtain⟨pa,pc,e1,-⟩:=hx.sum;obtain⟨ga,gc,e2,-⟩:=hx.guard;obtain⟨pa',pc',e3,-⟩:=hy.sum;obtain⟨ga',gc',e4,-⟩:=hy.guard
 have HCx:Hid (∀wr n gi gh F nv sv L T f g,ZM w wr x y n H gi gh F nv sv L T f g->((wr.cell? ⟨w.heap.size,0,none⟩=some (.string ⟨x.1.label.toArray⟩)/\wr.cell? ⟨w.heap.size,1,none⟩=some (.int .i64 x.1.conc)/\wr.cell? ⟨w.heap.size,2,none⟩=some (.slice pa x.1.sum.length pc)/\wr.cell? ⟨w.heap.size,3,none⟩=some (.slice ga x.1.guard.length gc)/\wr.cell? ⟨w.heap.size,4,none⟩=some (.int .i64 x.1.root))/\(wr.cell? ⟨w.heap.size+1,0,none⟩=some (.string ⟨y.1.label.toArray⟩)/\wr.cell? ⟨w.heap.size+1,1,none⟩=some (.int .i64 y.1.conc)/\wr.cell? ⟨w.heap.size+1,2,none⟩=some (.slice pa' y.1.sum.length pc')/\wr.cell? ⟨w.heap.size+1,3,none⟩=some (.slice ga' y.1.guard.length gc')/\wr.cell? ⟨w.heap.size+1,4,none⟩=some (.int .i64 y.1.root))/\(wr.cell? ⟨w.heap.size+1+1+1,10,none⟩=some nv/\wr.cell? ⟨w.heap.size+1+1+1,11,none⟩=some sv/\wr.cell? ⟨w.heap.size+1+1+1,12,none⟩=some (.slice (some ⟨gi,0,none⟩) n n)/\wr.cell? ⟨w.heap.size+1+1+1,13,none⟩=some (.slice (some ⟨gh,0,none⟩) H H))/\∀j,wr.frozen? ⟨w.heap.size+1+1+1,j,none⟩=false)):=fun wr n gi gh F nv sv L T f g k=>by
  have q1:=k.ns.bx;have q2:=k.ns.by'
  rw[e1,e2]at q1;rw[e3,e4]at q2;exact⟨⟨zB q1 0,zB q1 1,zB q1 2,zB q1 3,zB q1 4⟩,⟨zB q2 0,zB q2 1,zB q2 2,zB q2 3,zB q2 4⟩,⟨zB k.ns.hd 10,zB k.ns.hd 11,zB k.ns.hd 12,zB k.ns.hd 13⟩,fun j=>by simp[World.frozen?,k.ns.hd]⟩
 have HFr:Hid (∀ {w4 wx:World} {n gi gh:Nat},w4.heap[w.heap.size]? = some (.cells #[.string ⟨x.1.label.toArray⟩,.int .i64 x.1.conc,.slice pa x.1.sum.length pc,.slice ga x.1.guard.length gc,.int .i64 x.1.root] 162 (0,0))->w4.heap[w.heap.size+1]? = some (.cells #[.string ⟨y.1.label.toArray⟩,.int .i64 y.1.conc,.slice pa' y.1.sum.length pc',.slice ga' y.1.guard.length gc',.int .i64 y.1.root] 162 (0,0))->w4.heap[w.heap.size+1+1]? = some (.cells C2 170 (0,0))->w4.heap[w.heap.size+1+1+1]? = some (.cells #[.string ⟨x.1.label.toArray⟩,.int .i64 x.1.conc,.slice pa x.1.sum.length pc,.slice ga x.1.guard.length gc,.int .i64 x.1.root,.string ⟨y.1.label.toArray⟩,.int .i64 y.1.conc,.slice pa' y.1.sum.length pc',.slice ga' y.1.guard.length gc',.int .i64 y.1.root,.slice none 0 0,.slice none 0 0,.slice none 0 0,.slice none 0 0,.slice none 0 0] 170 (0,0))->Below w.heap.size w w4->w.heap.size+4<=w4.heap.size->Below w4.heap.size w4 wx->wx.heap[gi]? = some (.cells (iC (List.replicate n 0)) 3 (0,0))->wx.heap[gh]? = some (.cells (gC (List.replicate H false)) 4 (0,0))->w4.heap.size<=gi->w4.heap.size<=gh->ZM w (((wx.setCell ⟨w.heap.size+1+1+1,12,none⟩ (.slice (some ⟨gi,0,none⟩) n n)).setCell ⟨w.heap.size+1+1+1,13,none⟩ (.slice (some ⟨gh,0,none⟩) H H)).setCell ⟨w.heap.size+1+1+1,14,none⟩ (.slice none 0 0)) x y n H gi gh (tQ I x.1 y.1) (.slice none 0 0) (.slice none 0 0) [] [] (lR I 0) (lT x.1 y.1 0)):=fun {w4 wx n gi gh} q1 q2 q3 q4 q5 q6 q7 q8 q9 q10 q11=>by
  have hz:lR I 0=fun _=>0:=by funext j;unfold lR;rw[tb (by omega)]
  have hz2:lT x.1 y.1 0=fun _=>false:=by funext j;unfold lT;rw[tq (by omega)];rfl
  rw[hz,hz2];exact⟨ZX.fresh (x:=x) (y:=y) (by rw[e1,e2];exact q1) (by rw[e3,e4];exact q2) q3 (by unfold U6;rw[e1,e2,e3,e4];exact q4) q5 q6 q7 q8 q9 q10 q11,⟨rfl,.inl ⟨rfl,rfl⟩⟩,fun q hq=>by simp at hq,⟨rfl,.inl ⟨rfl,rfl⟩⟩⟩
 have HOne:Hid (∀nv sv iv hv:Value,nv.oneCell'=true->sv.oneCell'=true->iv.oneCell'=true->hv.oneCell'=true->(U6 x y nv sv iv hv).all (·.oneCell')=true):=fun nv sv iv hv h1 h2 h3 h4=>CH (by rw[e1];rfl) (by rw[e2];rfl) (by rw[e3];rfl) (by rw[e4];rfl) h1 h2 h3 h4
 simp only[uE]at HAI1 HAI2 HBd1 HBd2 HNd1 HNd2 HAH1 HAH2 ⊢;rw[e1,e2]at HAI1 HBd1 HNd1 HAH1;rw[e3,e4]at HAI2 HBd2 HNd2 HAH2;rw[e1,e2,e3,e4];have HE1:=zA (show x.2.1=_ from e1);clear e1 e2 e3 e4 hx hy hbd hzf hI;have hmI:=run_make_row' (P:=Tryz.prog) 22 3 (.int .i64 0) 8 Tryz.underlying22 fO rfl .i64 .i64 I.length (by omega) (by omega);have hmH:=run_make_row' (P:=Tryz.prog) 166 4 (.bool false) 1 Tryz.underlying166 cT rfl .i64 .i64 H (by omega) (by omega);rw[cO]at hmH;rw[sB]at hmI;generalize x.1.label=xl at *;generalize x.1.conc=xc at *;generalize x.1.root=xr at *;generalize x.1.sum.length=xn at *;generalize x.1.guard.length=xm at *;generalize y.1.label=yl at *;generalize y.1.conc=yc at *;generalize y.1.root=yr at *;generalize y.1.sum.length=yn at *;generalize y.1.guard.length=ym at *;have h1':=h1;have lb1:=lb
 go_enter Tryz.func66,Tryz.ntmps66
 go_upto_region 2 with fail
 obtain⟨w4,hw4⟩:∃w4,w4=(((w.alloc (Obj.cells #[Value.string ⟨xl.toArray⟩,.int .i64 xc,.slice pa xn pc,.slice ga xm gc,.int .i64 xr] 162)).alloc (Obj.cells #[Value.string ⟨yl.toArray⟩,.int .i64 yc,.slice pa' yn pc',.slice ga' ym gc',.int .i64 yr] 162)).alloc (Obj.cells C2 170)).alloc (Obj.cells #[.string ⟨xl.toArray⟩,.int .i64 xc,.slice pa xn pc,.slice ga xm gc,.int .i64 xr,.string ⟨yl.toArray⟩,.int .i64 yc,.slice pa' yn pc',.slice ga' ym gc',.int .i64 yr,.slice none 0 0,.slice none 0 0,.slice none 0 0,.slice none 0 0,.slice none 0 0] 170):=⟨_,rfl⟩;have hw4':=hw4;unfold C2 at hw4;rw[<-hw4];clear hw4;have x0:w4.heap[w.heap.size]? = some (.cells #[.string ⟨xl.toArray⟩,.int .i64 xc,.slice pa xn pc,.slice ga xm gc,.int .i64 xr] 162 (0,0)):=by rw[hw4'];exact zU (zU (zU (zG _ _)))
 have x1:w4.heap[w.heap.size+1]? = some (.cells #[.string ⟨yl.toArray⟩,.int .i64 yc,.slice pa' yn pc',.slice ga' ym gc',.int .i64 yr] 162 (0,0)):=by rw[hw4'];exact zU (zU (yW _ _ _ (by simp)))
 have x2:w4.heap[w.heap.size+1+1]? = some (.cells C2 170 (0,0)):=by rw[hw4'];exact zU (yW _ _ _ (by simp))
 have x3:w4.heap[w.heap.size+1+1+1]? = some (.cells #[.string ⟨xl.toArray⟩,.int .i64 xc,.slice pa xn pc,.slice ga xm gc,.int .i64 xr,.string ⟨yl.toArray⟩,.int .i64 yc,.slice pa' yn pc',.slice ga' ym gc',.int .i64 yr,.slice none 0 0,.slice none 0 0,.slice none 0 0,.slice none 0 0,.slice none 0 0] 170 (0,0)):=by rw[hw4'];exact yW _ _ _ (by simp)
 have hs4:w4.heap.size=w.heap.size+4:=by rw[hw4'];simp
 have HB4:Hid (Below w.heap.size w w4):=by unfold Hid;rw[hw4'];exact(((fj (j1 _) _).alloc (by simp) _).alloc (by simp;omega) _).alloc (by simp;omega) _
 have k0:w4.cell? ⟨b,o,none⟩=some (.slice ia I.length ic):=(HB4.out.cell (p:=⟨b,o,none⟩) lb).trans h0;have k1:w4.cell? ⟨b,o+1,none⟩=some (.slice ca H cc):=(HB4.out.cell (p:=⟨b,o+1,none⟩) lb).trans h1;have l3:w.heap.size+1+1+1<w4.heap.size:=by omega
 have l4:b<w4.heap.size:=by omega
 have HQ:Hid (∀A B:Obj,((w4.alloc A).alloc B).heap[w.heap.size+1+1+1]? = _):=fun A B=>zU (zU x3);have f12:∀A B:Obj,((w4.alloc A).alloc B).frozen? ⟨w.heap.size+1+1+1,12,none⟩=false:=fun A B=>by simp[World.frozen?,HQ.out A B]
 have f13:∀A B:Obj,((w4.alloc A).alloc B).frozen? ⟨w.heap.size+1+1+1,13,none⟩=false:=fun A B=>by simp[World.frozen?,HQ.out A B]
 have f14:∀A B:Obj,((w4.alloc A).alloc B).frozen? ⟨w.heap.size+1+1+1,14,none⟩=false:=fun A B=>by simp[World.frozen?,HQ.out A B]
 have c12:∀A B:Obj,((w4.alloc A).alloc B).cell? ⟨w.heap.size+1+1+1,12,none⟩=some (.slice none 0 0):=fun A B=>zB (HQ.out A B) 12;have c13:∀A B:Obj,((w4.alloc A).alloc B).cell? ⟨w.heap.size+1+1+1,13,none⟩=some (.slice none 0 0):=fun A B=>zB (HQ.out A B) 13;have c14:∀A B:Obj,((w4.alloc A).alloc B).cell? ⟨w.heap.size+1+1+1,14,none⟩=some (.slice none 0 0):=fun A B=>zB (HQ.out A B) 14;have HX0:=zA x0;have HX1:=zA x1;have HX2:=zA x2;have HX3:=zA x3;have hs4':w.heap.size+4<=w4.heap.size:=by omega
 clear hw4' hs4 x0 x1 x2 x3
 go_cut [7] from 17 to 30 (fun v7 wx=>v7=.pointer (some ⟨w.heap.size+1+1+1,0,none⟩)/\∃gi gh,Hid (ZM w wx x y I.length H gi gh (tQ I x.1 y.1) (.slice none 0 0) (.slice none 0 0) [] [] (lR I 0) (lT x.1 y.1 0)))
 case first =>
  go_region
  all_goals
   go_wp2_with fail
   go_meet
  ·exact⟨rfl,w4.heap.size,w4.heap.size+1,zA ((HFr.out (n:=I.length) (gi:=w4.heap.size) (gh:=w4.heap.size+1) HX0.out HX1.out HX2.out HX3.out HB4.out hs4' ((fj (j1 _) _).alloc (by simp) _) (zU (zG _ _)) (yW _ _ _ (by simp)) (by omega) (by omega)).below (po (tg _ _)))⟩
  ·exact⟨rfl,w4.heap.size+1,w4.heap.size,zA ((HFr.out (n:=I.length) (gi:=w4.heap.size+1) (gh:=w4.heap.size) HX0.out HX1.out HX2.out HX3.out HB4.out hs4' ((fj (j1 _) _).alloc (by simp) _) (yW _ _ _ (by simp)) (zU (zG _ _)) (by omega) (by omega)).below (po (tg _ _)))⟩
 case rest =>
  obtain⟨rfl,gi,gh,HS⟩:=hcut;generalize hwA:wc=wA at *;clear hwA HX0 HX1 HX2 HX3 HB4 k0 k1 l3 l4 HQ f12 f13 f14 c12 c13 c14 hmI hmH hs4' HFr;have HMd:Hid (∀wr,Below w.heap.size w wr->wr.cell? ⟨b,o,none⟩=some (.slice ia I.length ic)/\wr.cell? ⟨b,o+1,none⟩=some (.slice ca H cc)):=fun wr hb=>⟨(hb.cell (p:=⟨b,o,none⟩) lb).trans h0,(hb.cell (p:=⟨b,o+1,none⟩) lb).trans h1⟩;obtain⟨k0,k1⟩:=HMd.out wA HS.out.ns.bel;clear h0 h1 h1' lb1;go_wp2_with fail
  go_loopw [36] (fun iv wr=>∃(i:Nat) (nv sv:Value) (L:List NE),i<=I.length/\iv=.int .i64 i/\Hid (ZM w wr x y I.length H gi gh (tQ I x.1 y.1) nv sv L (uY I x.1 y.1 i) (lR I i) (lT x.1 y.1 0))/\Hid (L.map NE.place=pV I x.1 y.1 i)) (fun iv _=>I.length-(intOf iv).toNat)
  case atStart=>exact⟨0,_,_,[],ty _,rfl,HS,zA rfl⟩
  case round =>
   obtain⟨i,nv,sv,L,hi,rfl,HN,HP⟩:=hrel;have zKD:=HN.out.ns.sz;by_cases zK4:i<I.length
   ·obtain⟨g,rfl,n0,n1,n2,n3⟩:=zKR.out wr HN.out.ns.bel i zK4
    obtain⟨-,-,⟨-,-,d12,-⟩,-⟩:=HCx.out _ _ _ _ _ _ _ _ _ _ _ HN.out;have ii:(i:Int)<(I.length:Int):=by omega
    have lg:=yG n0;have ng:wr.heap.size≠g:=by omega
    have m3:w.heap.size+1+1+1<wr.heap.size:=by omega
    have m3':wr.heap.size≠w.heap.size+1+1+1:=by omega
    have ci:wr.cell? ⟨gi,i,none⟩=some (.int .i64 (lR I i i)):=HN.out.ns.rI.cell zK4;have fi:wr.frozen? ⟨gi,i,none⟩=false:=HN.out.ns.rI.free i;have lgi:=yG ci;have ngi:wr.heap.size≠gi:=by omega
    have ngi':gi≠wr.heap.size:=by omega
    have HSet:Hid (ZM w (wr.setCell ⟨gi,i,none⟩ (.int .i64 (kU I i).low)) x y I.length H gi gh (tQ I x.1 y.1) nv sv L (uY I x.1 y.1 i) (lR I (i+1)) (lT x.1 y.1 0)):=HN.out.setI zK4 _ (HIs.out i).1 (fun r _ hr=>(HIs.out i).2 r hr);have HAI1i:=zA (fun w' hb=>HAI1.out w' hb i);have HAI2i:=zA (fun w' hb=>HAI2.out w' hb i);have HBd1i:=zA (fun w' hb=>HBd1.out w' hb i);have HBd2i:=zA (fun w' hb=>HBd2.out w' hb i);have HZoi:=zA (fun w'=>HZo.out w' i);have HBl1i:=HBl1.out i;have HBl2i:=HBl2.out i;have HNsi:=zA (HNs.out i);have HS1i:=zA (HS1.out i);have hNl:=HNl.out i;have hS1l:=HS1l.out i;have hLl:L.length<=i:=by have:=congrArg List.length HP.out;rw[pi]at this;omega
    rw[HAb.out i,HIf.out i]at HNsi HS1i;have hzl:=HZf.out i;have HNeC:Hid (∀za zc,zFH (tQ I x.1 y.1) ⟨i,za,zc⟩=[.int .i64 (i:Nat),.slice za (tQ I x.1 y.1 i).length zc,.int .i64 0,.int .i64 0,.int .i64 0]):=fun _ _=>rfl;generalize lR I i i=old at *;generalize kU I i=xi at *;obtain⟨xin,xif,xil,xih⟩:=xi;simp only[ZD]at n0 n1 n2 n3 HSet HNsi HS1i HZoi;generalize tP x.1 i=q1 at *;generalize tP y.1 i=q2 at *
    go_upto_region 7 with fail
    have HN7:Hid (ZM w ((wr.setCell ⟨gi,i,none⟩ (.int .i64 xil)).alloc (.cells #[.string ⟨xin.toArray⟩,.bool xif,.int .i64 xil,.int .i64 xih] 204)) x y I.length H gi gh (tQ I x.1 y.1) nv sv L (uY I x.1 y.1 i) (lR I (i+1)) (lT x.1 y.1 0)):=HSet.out.below (fj (j1 _) _);have HI7:Hid (((wr.setCell ⟨gi,i,none⟩ (.int .i64 xil)).alloc (.cells #[.string ⟨xin.toArray⟩,.bool xif,.int .i64 xil,.int .i64 xih] 204)).heap[wr.heap.size]? = some (.cells #[.string ⟨xin.toArray⟩,.bool xif,.int .i64 xil,.int .i64 xih] 204 (0,0))):=yW _ _ _ (by simp[World.setCell]);generalize (wr.setCell ⟨gi,i,none⟩ (.int .i64 xil)).alloc (.cells #[.string ⟨xin.toArray⟩,.bool xif,.int .i64 xil,.int .i64 xih] 204)=w7 at *;clear HSet n0 n1 n2 n3 ci fi lgi ngi ngi' d12 HN zKD m3 m3' lg ng;obtain⟨⟨a0,a1,a2,a3,a4⟩,-,-,-⟩:=HCx.out _ _ _ _ _ _ _ _ _ _ _ HN7.out;have HAI1w:=zA (HAI1i.out w7 HN7.out.ns.bel)
    have HYc:Hid (∀w8,Below w7.heap.size w7 w8->Below w.heap.size w w8/\w8.cell? ⟨w.heap.size+1,0,none⟩=some (.string ⟨yl.toArray⟩)/\w8.cell? ⟨w.heap.size+1,1,none⟩=some (.int .i64 yc)/\w8.cell? ⟨w.heap.size+1,2,none⟩=some (.slice pa' yn pc')/\w8.cell? ⟨w.heap.size+1,3,none⟩=some (.slice ga' ym gc')/\w8.cell? ⟨w.heap.size+1,4,none⟩=some (.int .i64 yr)):=fun w8 hb=>by
     have k:=HN7.out.below hb;obtain⟨-,h9,-,-⟩:=HCx.out _ _ _ _ _ _ _ _ _ _ _ k;exact⟨k.ns.bel,h9⟩
    go_cut [57] from 48 to 57 (fun v57 wx=>v57=.bool (!(q1 || q2))/\Hid (Below w7.heap.size w7 wx))
    case first =>
     cases q1
     ·go_wp2_with fail
      refine HAI1w.out.mono ?_;rintro e w8 ⟨rfl,hb8⟩;obtain⟨p1,p2,p3,p4,p5,p6⟩:=HYc.out w8 hb8;have HA2w:=zA (HAI2i.out w8 p1);have HB8:=zA hb8;clear hb8 p1 a0 a1 a2 a3 a4;go_wp2_with fail
      refine HA2w.out.mono ?_;rintro e w9 ⟨rfl,hb9⟩;have HB9:Hid (Below w7.heap.size w7 w9):=HB8.out.trans (hb9.mono HB8.out.size);clear hb9;cases q2
      ·go_wp2_with fail
       go_meet
       exact⟨rfl,HB9⟩
      ·go_wp2_with fail
       go_meet
       exact⟨rfl,HB9⟩
     ·go_wp2_with fail
      refine HAI1w.out.mono ?_;rintro e w8 ⟨rfl,hb8⟩;have HB8:=zA hb8;clear hb8;go_wp2_with fail
      go_meet
      exact⟨rfl,HB8⟩
    case rest =>
     obtain⟨rfl,HB8⟩:=hcut;generalize hwB:wc=w8 at *;clear hwB a0 a1 a2 a3 a4 HAI1w HAI1i HAI2i HYc;have HN8:=zA (HN7.out.below HB8.out);have HI8:Hid (w8.heap[wr.heap.size]? = some (.cells #[.string ⟨xin.toArray⟩,.bool xif,.int .i64 xil,.int .i64 xih] 204 (0,0))):=by unfold Hid;rw[HB8.out.block _ (zL HI7.out)];exact HI7.out
     clear HN7 HI7 HB8;generalize (q1 || q2)=qq at *;cases qq
     ·have HE1:Hid (uY I x.1 y.1 (i+1)=uY I x.1 y.1 i):=by have:=HS1i.out;unfold Hid;simpa using this
      have HE2:Hid (pV I x.1 y.1 (i+1)=pV I x.1 y.1 i):=by have:=HNsi.out;unfold Hid;simpa using this
      go_wp2_with fail
      go_roundw
      case rel=>exact⟨i+1,nv,sv,L,by omega,by go_num,by rw[HE1.out];exact HN8,by rw[HE2.out];exact HP⟩
      case measure=>simp[intOf];omega
     ·have u0:w8.cell? ⟨wr.heap.size,0,none⟩=some (.string ⟨xin.toArray⟩):=zB HI8.out 0
      have u1:w8.cell? ⟨wr.heap.size,1,none⟩=some (.bool xif):=zB HI8.out 1;have u2:w8.cell? ⟨wr.heap.size,2,none⟩=some (.int .i64 xil):=zB HI8.out 2;have u3:w8.cell? ⟨wr.heap.size,3,none⟩=some (.int .i64 xih):=zB HI8.out 3;obtain⟨⟨a0,a1,a2,a3,a4⟩,⟨b0,b1,b2,b3,b4⟩,⟨d10,d11,d12,d13⟩,dF⟩:=HCx.out _ _ _ _ _ _ _ _ _ _ _ HN8.out;have hs8:=HN8.out.ns.sz;have m3:w.heap.size+1+1+1<w8.heap.size:=by omega
      have m3':w8.heap.size≠w.heap.size+1+1+1:=by omega
      cases xif
      ·have HE1:Hid (uY I x.1 y.1 (i+1)=uY I x.1 y.1 i):=by have:=HS1i.out;unfold Hid;simpa using this
       have HE2:Hid (pV I x.1 y.1 (i+1)=pV I x.1 y.1 i++[i]):=by have:=HNsi.out;unfold Hid;simpa using this
       have HB1w:=zA (HBd1i.out w8 HN8.out.ns.bel);go_wp2_with fail
       refine HB1w.out.mono ?_;rintro e w9 ⟨v9,rfl,ho9,hb9⟩;have HN9:=zA (HN8.out.below hb9);obtain⟨ea,ec,rfl,hcel9,-,-⟩:=gL ho9;have HIa:Hid (jV w9 ea (xK x.1 i)):=⟨hcel9,HBl1i⟩;have HI9:Hid (w9.heap[wr.heap.size]? = some (.cells #[.string ⟨xin.toArray⟩,.bool false,.int .i64 xil,.int .i64 xih] 204 (0,0))):=by unfold Hid;rw[hb9.block _ (zL HI8.out)];exact HI8.out
       obtain⟨-,⟨e0,e1,e2,e3,e4⟩,-,-⟩:=HCx.out _ _ _ _ _ _ _ _ _ _ _ HN9.out;have HB2w:=zA (HBd2i.out w9 HN9.out.ns.bel);clear ho9 hb9 hcel9 u0 u1 u2 u3 a0 a1 a2 a3 a4 b0 b1 b2 b3 b4 d10 d11 d12 d13 dF m3 m3' hs8 HN8 HI8 HB1w;generalize xK x.1 i=be at *;go_wp2_with fail
       refine HB2w.out.mono ?_;rintro e w10 ⟨v10,rfl,ho10,hb10⟩;have HN10:=zA (HN9.out.below hb10);obtain⟨la,lc,rfl,hcel10,-,-⟩:=gL ho10;have HIb:Hid (jV w10 la (xK y.1 i)):=⟨hcel10,HBl2i⟩;have HIa2:=zA (HIa.out.below hb10);have HI10:Hid (w10.heap[wr.heap.size]? = some (.cells #[.string ⟨xin.toArray⟩,.bool false,.int .i64 xil,.int .i64 xih] 204 (0,0))):=by unfold Hid;rw[hb10.block _ (zL HI9.out)];exact HI9.out
       have u0:w10.cell? ⟨wr.heap.size,0,none⟩=some (.string ⟨xin.toArray⟩):=zB HI10.out 0;have u1:w10.cell? ⟨wr.heap.size,1,none⟩=some (.bool false):=zB HI10.out 1;have u2:w10.cell? ⟨wr.heap.size,2,none⟩=some (.int .i64 xil):=zB HI10.out 2;have u3:w10.cell? ⟨wr.heap.size,3,none⟩=some (.int .i64 xih):=zB HI10.out 3;have HZw:=zA (HZoi.out w10 ea la ec lc HIa2.out HIb.out);clear ho10 hb10 hcel10 e0 e1 e2 e3 e4 HN9 HI9 HB2w HIa HIa2 HIb;generalize xK y.1 i=bl at *;go_wp2_with fail
       refine HZw.out.mono ?_;rintro e w11 ⟨v11,rfl,ho11,hb11⟩;have HN11:=zA (HN10.out.below hb11);obtain⟨za,zc,rfl,hcT⟩:=vO ho11;have HCT:=zA hcT;obtain⟨-,-,⟨d10,d11,d12,d13⟩,dF⟩:=HCx.out _ _ _ _ _ _ _ _ _ _ _ HN11.out;have hs11:=HN11.out.ns.sz;have m3:w.heap.size+1+1+1<w11.heap.size:=by omega
       have m3':w11.heap.size≠w.heap.size+1+1+1:=by omega
       clear ho11 hb11 hcT u0 u1 u2 u3 HN10 HI10 HZw;have HNum:=zA (fun (ob:Obj) (wy:World) (v':Value) (zK6:wy.ownsRow (w.heap.size+4) 223 5 v' (L.length+1) (aM (tQ I x.1 y.1) L++zFH (tQ I x.1 y.1) ⟨i,za,zc⟩)) (hg:(w11.alloc ob).grownBy wy nv.ownBlock)=>(HN11.out.below (fj (j1 _) ob)).num ⟨i,za,zc⟩ (HCT.out.below (fj (j1 _) ob)) zK6 hg);obtain⟨na,nc,rfl⟩:=zQ HN11.out.nums;have HOn:=zA HN11.out.nums;have HPl:Hid ((L++[(⟨i,za,zc⟩:NE)]).map NE.place=pV I x.1 y.1 (i+1)):=by unfold Hid;rw[bg,HP.out,HE2.out];rfl
       rw[HNeC.out za zc]at HNum;generalize (tQ I x.1 y.1 i).length=zl at *
       go_wp2_with (at_builtin;refine wpList_append_own _ rfl _ _ 164 rfl (w.heap.size+4) 223 j0 _ 5 56 Tryz.underlying164 hj0 hj1 hj2 hj3 rfl (by decide) _ _ _ rfl (HOn.out.alloc _) ⟨w11.heap.size,0,none⟩ 1 1 [.int .i64 (i:Nat),.slice za zl zc,.int .i64 0,.int .i64 0,.int .i64 0] rfl rfl ?c1k1 ?c1k2 ?c1k3 ?c1k4 ?c1k5 ?_)
       try (case c1k1=>first|exact zM _ _ _ _ rfl|exact fun _ _ h=>h)
       try (case c1k2=>first|exact⟨rfl,rfl,rfl,rfl,rfl⟩|(intro u hu;simp at hu;rcases hu with rfl|rfl|rfl <;> rfl)|simp[Value.oneCell'])
       try (case c1k3=>unfold maxLen;omega)
       try (case c1k4=>omega)
       try (case c1k5=>first|omega|(simp;omega))
       intro v12 w12 hown12 hgrow12 _;have HN12:=zA (HNum.out _ w12 v12 hown12 hgrow12)
       have e10:w12.cell? ⟨w.heap.size+1+1+1,10,none⟩=some (.slice na L.length nc):=by
        have hb:=hgrow12.block (w.heap.size+1+1+1) (by simp;omega) (fun e=>by have:=(yA HOn.out _ e.symm).1;omega);rw[bj (w:=w11.alloc _) (a:=⟨w.heap.size+1+1+1,10,none⟩) hb,bj (w:=w11) (a:=⟨w.heap.size+1+1+1,10,none⟩) (l8 _ _ _ m3)];exact d10
       have f10:w12.frozen? ⟨w.heap.size+1+1+1,10,none⟩=false:=by
        have hb:=hgrow12.block (w.heap.size+1+1+1) (by simp;omega) (fun e=>by have:=(yA HOn.out _ e.symm).1;omega);rw[dc (w:=w11.alloc _) (a:=⟨w.heap.size+1+1+1,10,none⟩) hb,dc (w:=w11) (a:=⟨w.heap.size+1+1+1,10,none⟩) (l8 _ _ _ m3)];exact dF 10
       obtain⟨va,vc,rfl⟩:=zQ hown12;clear hown12 hgrow12 d10 d11 d12 d13 dF;go_wp2_with fail
       go_roundw
       case rel=>exact⟨i+1,_,sv,L++[⟨i,za,zc⟩],by omega,by go_num,by rw[HE1.out];exact HN12,HPl⟩
       case measure=>simp[intOf];omega
      ·have HE1:Hid (uY I x.1 y.1 (i+1)=uY I x.1 y.1 i++[⟨true,i⟩]):=by have:=HS1i.out;unfold Hid;simpa using this
       have HE2:Hid (pV I x.1 y.1 (i+1)=pV I x.1 y.1 i):=by have:=HNsi.out;unfold Hid;simpa using this
       have HTg:=zA (fun (ob:Obj) (wy:World) (v':Value) (zK6:wy.ownsRow (w.heap.size+4) 216 2 v' ((uY I x.1 y.1 i).length+1) (Y3 (uY I x.1 y.1 i)++[.bool true,.int .i64 (i:Nat)])) (hg:(w8.alloc ob).grownBy wy sv.ownBlock)=>(HN8.out.below (fj (j1 _) ob)).tog ⟨true,i⟩ zK6 hg);obtain⟨sa,sc,rfl⟩:=zQ HN8.out.sws;have HOs:=zA HN8.out.sws;clear u0 u2 u3 a0 a1 a2 a3 a4 b0 b1 b2 b3 b4
       go_wp2_with (at_builtin;refine wpList_append_own _ rfl _ _ 165 rfl (w.heap.size+4) 216 i0 _ 2 16 Tryz.underlying165 hi0 hz0 hz1 hz2 rfl (by decide) _ _ _ rfl (HOs.out.alloc _) ⟨w8.heap.size,0,none⟩ 1 1 [.bool true,.int .i64 (i:Nat)] rfl rfl ?c2k1 ?c2k2 ?c2k3 ?c2k4 ?c2k5 ?_)
       try (case c2k1=>first|exact zM _ _ _ _ rfl|exact fun _ _ h=>h)
       try (case c2k2=>first|exact⟨rfl,rfl⟩|(intro u hu;simp at hu;rcases hu with rfl|rfl <;> rfl)|simp[Value.oneCell'])
       try (case c2k3=>unfold maxLen;omega)
       try (case c2k4=>omega)
       try (case c2k5=>first|omega|(simp;omega))
       intro v12 w12 hown12 hgrow12 _;have HN12:=zA (HTg.out _ w12 v12 hown12 hgrow12)
       have e11:w12.cell? ⟨w.heap.size+1+1+1,11,none⟩=some (.slice sa (uY I x.1 y.1 i).length sc):=by
        have hb:=hgrow12.block (w.heap.size+1+1+1) (by simp;omega) (fun e=>by have:=(yA HOs.out _ e.symm).1;omega);rw[bj (w:=w8.alloc _) (a:=⟨w.heap.size+1+1+1,11,none⟩) hb,bj (w:=w8) (a:=⟨w.heap.size+1+1+1,11,none⟩) (l8 _ _ _ m3)];exact d11
       have f11:w12.frozen? ⟨w.heap.size+1+1+1,11,none⟩=false:=by
        have hb:=hgrow12.block (w.heap.size+1+1+1) (by simp;omega) (fun e=>by have:=(yA HOs.out _ e.symm).1;omega);rw[dc (w:=w8.alloc _) (a:=⟨w.heap.size+1+1+1,11,none⟩) hb,dc (w:=w8) (a:=⟨w.heap.size+1+1+1,11,none⟩) (l8 _ _ _ m3)];exact dF 11
       obtain⟨va,vc,rfl⟩:=zQ hown12;clear hown12 hgrow12 d10 d11 d12 d13 dF;go_wp2_with fail
       go_roundw
       case rel=>exact⟨i+1,nv,_,L,by omega,by go_num,by rw[HE1.out];exact HN12,by rw[HE2.out];exact HP⟩
       case measure=>simp[intOf];omega
   ·obtain rfl:i=I.length:=by omega
    have ii:¬(I.length:Int)<(I.length:Int):=by omega
    obtain⟨wq,hwq⟩:∃wq,wq=wr:=⟨_,rfl⟩;rw[<-hwq]at HN ⊢;clear hwq zKD k0 k1;obtain⟨k0,k1⟩:=HMd.out wq HN.out.ns.bel
    have HN0:Hid (ZM w wq x y I.length H gi gh (tQ I x.1 y.1) nv sv L (uY I x.1 y.1 I.length++uQ x.1 y.1 0) (lR I I.length) (lT x.1 y.1 0)):=by
     have e:uY I x.1 y.1 I.length++uQ x.1 y.1 0=uY I x.1 y.1 I.length:=mq _;unfold Hid;rw[e];exact HN.out
    have hTl:=HS1l.out I.length;clear HN HNs HS1 HNl HS1l HIs HBl1 HBl2 HZo HBd1 HBd2 HAI1 HAI2 zKR HIf HAb HZf;go_wp2_with fail
    generalize hT1:uY I x.1 y.1 I.length=T1 at *;have HT1:=zA hT1;clear hT1
    go_loopw [91] (fun iv wr=>∃(c:Nat) (sv:Value),c<=H/\iv=.int .i64 c/\Hid (ZM w wr x y I.length H gi gh (tQ I x.1 y.1) nv sv L (T1++uQ x.1 y.1 c) (lR I I.length) (lT x.1 y.1 c))) (fun iv _=>H-(intOf iv).toNat)
    case atStart=>exact⟨0,_,ty _,rfl,HN0⟩
    case round =>
     obtain⟨c,sv,hc,rfl,HN⟩:=hrel;by_cases zK4:c<H
     ·have jj:(c:Int)<(H:Int):=by omega
      obtain⟨⟨a0,a1,a2,a3,a4⟩,-,-,-⟩:=HCx.out _ _ _ _ _ _ _ _ _ _ _ HN.out;have HNd1w:=zA (HNd1.out wr HN.out.ns.bel c);have HNd2i:=zA (fun w' hb=>HNd2.out w' hb c);have HAH1i:=zA (fun w' hb=>HAH1.out w' hb c);have HAH2i:=zA (fun w' hb=>HAH2.out w' hb c);have HS2i:=zA (HS2.out c);have HHi:=zA (HHs.out c);have hS2l:=HS2l.out c;rw[HNb.out c]at HS2i HHi
      have HYc:Hid (∀w8,Below wr.heap.size wr w8->(Below w.heap.size w w8/\w8.cell? ⟨w.heap.size+1,0,none⟩=some (.string ⟨yl.toArray⟩)/\w8.cell? ⟨w.heap.size+1,1,none⟩=some (.int .i64 yc)/\w8.cell? ⟨w.heap.size+1,2,none⟩=some (.slice pa' yn pc')/\w8.cell? ⟨w.heap.size+1,3,none⟩=some (.slice ga' ym gc')/\w8.cell? ⟨w.heap.size+1,4,none⟩=some (.int .i64 yr))/\w8.cell? ⟨w.heap.size,0,none⟩=some (.string ⟨xl.toArray⟩)/\w8.cell? ⟨w.heap.size,1,none⟩=some (.int .i64 xc)/\w8.cell? ⟨w.heap.size,2,none⟩=some (.slice pa xn pc)/\w8.cell? ⟨w.heap.size,3,none⟩=some (.slice ga xm gc)/\w8.cell? ⟨w.heap.size,4,none⟩=some (.int .i64 xr)):=fun w8 hb=>by
       have k:=HN.out.below hb;obtain⟨h8,h9,-,-⟩:=HCx.out _ _ _ _ _ _ _ _ _ _ _ k;exact⟨⟨k.ns.bel,h9⟩,h8⟩
      generalize pY x.1 c=q1 at *;generalize pY y.1 c=q2 at *;generalize vL x.1 c=q3 at *;generalize vL y.1 c=q4 at *
      go_upto_region 18 with fail
      go_cut [101] from 94 to 101 (fun v wx=>v=.bool (q1 || q2)/\Hid (Below wr.heap.size wr wx))
      case first =>
       cases q1
       ·go_wp2_with fail
        refine HNd1w.out.mono ?_;rintro e w8 ⟨rfl,hb8⟩;obtain⟨⟨p1,p2,p3,p4,p5,p6⟩,-⟩:=HYc.out w8 hb8;have HA2w:=zA (HNd2i.out w8 p1);have HB8:=zA hb8;clear hb8 p1 a0 a1 a2 a3 a4;go_wp2_with fail
        refine HA2w.out.mono ?_;rintro e w9 ⟨rfl,hb9⟩;have HB9:Hid (Below wr.heap.size wr w9):=HB8.out.trans (hb9.mono HB8.out.size);clear hb9;go_wp2_with fail
        go_meet
        exact⟨rfl,HB9⟩
       ·go_wp2_with fail
        refine HNd1w.out.mono ?_;rintro e w8 ⟨rfl,hb8⟩;have HB8:=zA hb8;clear hb8;go_wp2_with fail
        go_meet
        exact⟨rfl,HB8⟩
      case rest =>
       obtain⟨rfl,HB8⟩:=hcut;generalize hwB:wc=w8 at *;clear hwB a0 a1 a2 a3 a4 HNd1w HNd2i;generalize (q1 || q2)=qq at *;cases qq
       ·have HHe:Hid (lT x.1 y.1 (c+1)=lT x.1 y.1 c):=by
         unfold Hid;funext r;by_cases hr:r=c
         ·subst hr;rw[HHi.out.1];unfold lT;rw[tq (by omega)];rfl
         ·exact HHi.out.2 r hr
        obtain⟨⟨p1,-⟩,a0,a1,a2,a3,a4⟩:=HYc.out w8 HB8.out;have HAH1w:=zA (HAH1i.out w8 p1);clear p1
        go_upto_region 20 with fail
        go_cut [114] from 107 to 114 (fun v wx=>v=.bool (q3 || q4)/\Hid (Below wr.heap.size wr wx))
        case first =>
         cases q3
         ·go_wp2_with fail
          refine HAH1w.out.mono ?_;rintro e w9 ⟨rfl,hb9⟩;have HB9:Hid (Below wr.heap.size wr w9):=HB8.out.trans (hb9.mono HB8.out.size);obtain⟨⟨p1,p2,p3,p4,p5,p6⟩,-⟩:=HYc.out w9 HB9.out;have HA2w:=zA (HAH2i.out w9 p1);clear hb9 p1 a0 a1 a2 a3 a4;go_wp2_with fail
          refine HA2w.out.mono ?_;rintro e w10 ⟨rfl,hb10⟩;have HB10:Hid (Below wr.heap.size wr w10):=HB9.out.trans (hb10.mono HB9.out.size);clear hb10;go_wp2_with fail
          go_meet
          exact⟨rfl,HB10⟩
         ·go_wp2_with fail
          refine HAH1w.out.mono ?_;rintro e w9 ⟨rfl,hb9⟩;have HB9:Hid (Below wr.heap.size wr w9):=HB8.out.trans (hb9.mono HB8.out.size);clear hb9;go_wp2_with fail
          go_meet
          exact⟨rfl,HB9⟩
        case rest =>
         obtain⟨rfl,HB9⟩:=hcut;generalize hwB:wc=w9 at *;clear hwB a0 a1 a2 a3 a4 HAH1w HAH1i HAH2i HYc HB8;have HN9:=zA (HN.out.below HB9.out);clear HN HB9;generalize (q3 || q4)=qh at *;cases qh
         ·have HE1:Hid (uQ x.1 y.1 (c+1)=uQ x.1 y.1 c):=by have:=HS2i.out;unfold Hid;simpa using this
          go_wp2_with fail
          go_roundw
          case rel=>exact⟨c+1,sv,by omega,by go_num,by rw[HE1.out,HHe.out];exact HN9⟩
          case measure=>simp[intOf];omega
         ·have HE1:Hid (T1++uQ x.1 y.1 (c+1)=(T1++uQ x.1 y.1 c)++[⟨false,c⟩]):=by have:=HS2i.out;unfold Hid;rw[this];simp
          have hTT:(T1++uQ x.1 y.1 c).length<=20000:=by rw[tl];omega
          obtain⟨-,-,⟨d10,d11,d12,d13⟩,dF⟩:=HCx.out _ _ _ _ _ _ _ _ _ _ _ HN9.out;have hs9:=HN9.out.ns.sz;have m3:w.heap.size+1+1+1<w9.heap.size:=by omega
          have m3':w9.heap.size≠w.heap.size+1+1+1:=by omega
          have HTg:=zA (fun (ob:Obj) (wy:World) (v':Value) (zK6:wy.ownsRow (w.heap.size+4) 216 2 v' ((T1++uQ x.1 y.1 c).length+1) (Y3 (T1++uQ x.1 y.1 c)++[.bool false,.int .i64 (c:Nat)])) (hg:(w9.alloc ob).grownBy wy sv.ownBlock)=>(HN9.out.below (fj (j1 _) ob)).tog ⟨false,c⟩ zK6 hg);obtain⟨sa,sc,rfl⟩:=zQ HN9.out.sws;have HOs:=zA HN9.out.sws;generalize hTe:T1++uQ x.1 y.1 c=TT at *;clear hTe
          go_wp2_with (at_builtin;refine wpList_append_own _ rfl _ _ 165 rfl (w.heap.size+4) 216 i0 _ 2 16 Tryz.underlying165 hi0 hz0 hz1 hz2 rfl (by decide) _ _ _ rfl (HOs.out.alloc _) ⟨w9.heap.size,0,none⟩ 1 1 [.bool false,.int .i64 (c:Nat)] rfl rfl ?c1k1 ?c1k2 ?c1k3 ?c1k4 ?c1k5 ?_)
          try (case c1k1=>first|exact zM _ _ _ _ rfl|exact fun _ _ h=>h)
          try (case c1k2=>first|exact⟨rfl,rfl⟩|(intro u hu;simp at hu;rcases hu with rfl|rfl <;> rfl)|simp[Value.oneCell'])
          try (case c1k3=>unfold maxLen;omega)
          try (case c1k4=>omega)
          try (case c1k5=>first|omega|(simp;omega))
          intro v12 w12 hown12 hgrow12 _;have HN12:=zA (HTg.out _ w12 v12 hown12 hgrow12)
          have e11:w12.cell? ⟨w.heap.size+1+1+1,11,none⟩=some (.slice sa TT.length sc):=by
           have hb:=hgrow12.block (w.heap.size+1+1+1) (by simp;omega) (fun e=>by have:=(yA HOs.out _ e.symm).1;omega);rw[bj (w:=w9.alloc _) (a:=⟨w.heap.size+1+1+1,11,none⟩) hb,bj (w:=w9) (a:=⟨w.heap.size+1+1+1,11,none⟩) (l8 _ _ _ m3)];exact d11
          have f11:w12.frozen? ⟨w.heap.size+1+1+1,11,none⟩=false:=by
           have hb:=hgrow12.block (w.heap.size+1+1+1) (by simp;omega) (fun e=>by have:=(yA HOs.out _ e.symm).1;omega);rw[dc (w:=w9.alloc _) (a:=⟨w.heap.size+1+1+1,11,none⟩) hb,dc (w:=w9) (a:=⟨w.heap.size+1+1+1,11,none⟩) (l8 _ _ _ m3)];exact dF 11
          obtain⟨va,vc,rfl⟩:=zQ hown12;clear hown12 hgrow12 d10 d11 d12 d13 dF;go_wp2_with fail
          go_roundw
          case rel=>exact⟨c+1,_,by omega,by go_num,by rw[HE1.out,HHe.out];exact HN12⟩
          case measure=>simp[intOf];omega
       ·have HE1:Hid (uQ x.1 y.1 (c+1)=uQ x.1 y.1 c):=by have:=HS2i.out;unfold Hid;simpa using this
        have HN8:=zA (HN.out.below HB8.out);obtain⟨-,-,⟨-,-,-,d13⟩,-⟩:=HCx.out _ _ _ _ _ _ _ _ _ _ _ HN8.out;have ch:w8.cell? ⟨gh,c,none⟩=some (.bool (lT x.1 y.1 c c)):=HN8.out.ns.rH.cell zK4;have fh:w8.frozen? ⟨gh,c,none⟩=false:=HN8.out.ns.rH.free c
        have HN9:Hid (ZM w (w8.setCell ⟨gh,c,none⟩ (.bool true)) x y I.length H gi gh (tQ I x.1 y.1) nv sv L (T1++uQ x.1 y.1 (c+1)) (lR I I.length) (lT x.1 y.1 (c+1))):=by
         unfold Hid;rw[HE1.out];exact HN8.out.setH zK4 _ HHi.out.1 (fun r _ hr=>HHi.out.2 r hr)
        generalize lT x.1 y.1 c c=old at *;go_wp2_with fail
        go_roundw
        case rel=>exact⟨c+1,sv,by omega,by go_num,HN9⟩
        case measure=>simp[intOf];omega
     ·obtain rfl:c=H:=by omega
      have jj:¬(c:Int)<(c:Int):=by omega
      obtain⟨na,nc,rfl⟩:=zQ HN.out.nums;obtain⟨sa,sc,rfl⟩:=zQ HN.out.sws;have HAl:=zA (HOne.out (.slice na L.length nc) (.slice sa (T1++uQ x.1 y.1 c).length sc) (.slice (some ⟨gi,0,none⟩) I.length I.length) (.slice (some ⟨gh,0,none⟩) c c) rfl rfl rfl rfl);have HRes:=zA HN.out.ns.res;have HHd:=zA HN.out.ns.hd;have HFn:=zA (HPo.out _ gi gh _ _ L (HN.out.done (U6 x y (.slice na L.length nc) (.slice sa (T1++uQ x.1 y.1 c).length sc) (.slice (some ⟨gi,0,none⟩) I.length I.length) (.slice (some ⟨gh,0,none⟩) c c))) HP.out);have HIf:=zA (yu x y (.slice na L.length nc) (.slice sa (T1++uQ x.1 y.1 c).length sc) (.slice (some ⟨gi,0,none⟩) I.length I.length) (.slice (some ⟨gh,0,none⟩) c c));have HSz:Hid ((U6 x y (.slice na L.length nc) (.slice sa (T1++uQ x.1 y.1 c).length sc) (.slice (some ⟨gi,0,none⟩) I.length I.length) (.slice (some ⟨gh,0,none⟩) c c)).size=15):=rfl;generalize U6 x y (.slice na L.length nc) (.slice sa (T1++uQ x.1 y.1 c).length sc) (.slice (some ⟨gi,0,none⟩) I.length I.length) (.slice (some ⟨gh,0,none⟩) c c)=SR at *;clear HN
      go_wp2_with (first
       | (refine wpList_load_row ?zK9 170 (.tmp 7) ?ho (w.heap.size+1+1+1) ?hx 170 SR (0,0) _ HHd.out Tryz.underlying170 rfl HIf.out ?_
          case ho=>rfl
          case zK9=>rfl
          case hx=>rfl)
       | (refine wpList_store_row ?zK9 170 (.tmp 6) (.tmp 123) ?ho (w.heap.size+1+1) SR ?hx ?hy 170 C2 HRes.out HIf.out ?zKC HAl.out ?_
          case ho=>rfl
          case zK9=>rfl
          case hx=>rfl
          case hy=>rfl
          case zKC=>rw[HSz.out];rfl))
      refine pb (v:=.agg SR) (results_cell_row Tryz.results66 _ _ (w.heap.size+1+1) 170 SR (0,0) _ rfl (bi _ _ C2 _ _ _ HRes.out) Tryz.underlying170 rfl HIf.out) rfl HFn.out
def ZC:NE:=⟨0,none,0⟩
def zB1(I:List zP)(H:Nat)(e l:xO):Prop:=∃y,fD I H y/\qU e y=true/\qU l y=true
structure rO(I:List zP):Prop where
 num:∀i,i<I.length->xQ I i=true->0<=(kU I i).low/\(kU I i).low<=(kU I i).high/\(kU I i).high<=9999
 flag:∀i,i<I.length->xQ I i=false->(kU I i).low=0
 few:I.length<=100
def dC(w:World)(b:Nat)(I:List zP)(H:Nat)(x y:MX)(L:List NE)(na:Option Addr)(gn nc:Nat)(sa:Option Addr)(sc gi gh:Nat):SK :=
 ⟨w.heap.size,b,x,y,L.length,fun p=>(L.getD p ZC).place,fun p=>tQ I x.1 y.1 (L.getD p ZC).place,fun p=>(L.getD p ZC).za,fun p=>(L.getD p ZC).zc,na,gn,nc,uY I x.1 y.1 I.length++uQ x.1 y.1 H,sa,sc,gi,gh,I.length,H⟩
def yt(I:List zP)(H:Nat)(x y:MX):vW:=⟨fun _=>(0,0),fun _=>0,lR I I.length,lT x.1 y.1 H⟩
theorem Y7{e l:xO}{t:jJ}(h:t∈uY I e l I.length++uQ e l H):(t.flag=true/\t.place<I.length/\qM e l t.place=true/\xQ I t.place=false)\/(t.flag=false/\t.place<H/\uG e l t.place=false/\(vL e t.place || vL l t.place)=true):=by
 rcases pu.1 h with h|h
 ·obtain⟨i,hi,rfl⟩:=p8.1 h
  have:=mj.1 hi;simp only[pq,pj,Bool.not_eq_true']at this;exact .inl ⟨rfl,this.1,this.2.1,this.2.2⟩
 ·obtain⟨i,hi,rfl⟩:=p8.1 h
  have:=mj.1 hi;simp only[pq,pj,Bool.not_eq_true']at this;exact .inr ⟨rfl,this.1,this.2.1,this.2.2⟩
theorem CD{e l:xO}{i:Nat}(h1:i<I.length)(h2:qM e l i=true)(h3:xQ I i=false):(⟨true,i⟩:jJ)∈uY I e l I.length++uQ e l H :=
 pu.2 (.inl (p8.2 ⟨i,mj.2 ⟨by simpa using h1,by simp[h2,h3]⟩,rfl⟩))
theorem zGN{e l:xO}{c:Nat}(h1:c<H)(h2:uG e l c=false)(h3:(vL e c || vL l c)=true):(⟨false,c⟩:jJ)∈uY I e l I.length++uQ e l H :=
 pu.2 (.inr (p8.2 ⟨c,mj.2 ⟨by simpa using h1,by rw[h2,h3];rfl⟩,rfl⟩))
theorem kY{e l:xO}(h:L.map NE.place=vD I e l){p:Nat}(hp:p<L.length):(L.getD p ZC).place=(vD I e l).getD p 0:=by
 rw[<-h];simp[List.getD,hp]
theorem KY{e l:xO}{p q:Nat}(hp:p<(vD I e l).length)(hq:q<(vD I e l).length)(h:(vD I e l).getD p 0=(vD I e l).getD q 0):p=q:=by
 have hnd:(vD I e l).Nodup:=List.Pairwise.filter _ List.nodup_range;rw[pe,pe,p9 hp,p9 hq]at h;exact(List.getElem_inj hnd).1 h
theorem zJ6(hL:L.map NE.place=vD I x.1 y.1)(hI:rO I)(fH:H<=10000)(hzf:∀i,(tQ I x.1 y.1 i).length<=100000)(l1:w.heap.size<=b)(l2:w.heap.size<=gi)(l3:w.heap.size<=gh)(l4:0<L.length->w.heap.size<=gn):XN (dC w b I H x y L na gn nc sa sc gi gh):=by
 have hl:L.length=(vD I x.1 y.1).length:=by rw[<-hL,pi]
 have zKA:(vD I x.1 y.1).length<=I.length:=YP I x.1 y.1 I.length;have h1:=Qq I x.1 y.1 I.length;have h2:=Qp x.1 y.1 H;have hf:=hI.few
 have hm:∀p,p<L.length->(L.getD p ZC).place<I.length/\qM x.1 y.1 (L.getD p ZC).place=true/\xQ I (L.getD p ZC).place=true:=fun p hp=>by
  rw[kY hL hp];exact pU.1 (gM (by omega))
 refine⟨l1,l2,l3,l4,by show L.length<=100;omega,by show I.length<=10000;omega,fH,by show (_++_:List jJ).length<=20000;rw[tl];omega,fun p _=>hzf _,fun p hp=>(hm p hp).1,fun p q hp hq e=>?_,fun p hp t ht h=>?_,fun t ht hf=>?_,fun t ht hf=>?_⟩
 ·have e':(vD I x.1 y.1).getD p 0=(vD I x.1 y.1).getD q 0:=by rw[<-kY hL hp,<-kY hL hq];exact e
  exact KY (hl ▸ hp) (hl ▸ hq) e'
 ·rcases Y7 ht with ⟨_,_,_,h9⟩|⟨h9,_⟩
  ·rw[h.2]at h9;have:=(hm p hp).2.2;rw[show (dC w b I H x y L na gn nc sa sc gi gh).P p=(L.getD p ZC).place from rfl,this]at h9;cases h9
  ·rw[h.1]at h9;cases h9
 ·rcases Y7 ht with ⟨_,h9,_⟩|⟨h9,_⟩
  ·exact h9
  ·rw[hf]at h9;cases h9
 ·rcases Y7 ht with ⟨h9,_⟩|⟨_,h9,_⟩
  ·rw[hf]at h9;cases h9
  ·exact h9
theorem qm(l:List Bool)(c:Nat):kP l (c:Int)=(decide (c<l.length)&&l.getD c false):=by
 unfold kP;rw[tu (show (0:Int)<=(c:Int) by omega),mu];by_cases h:c<l.length
 ·rw[tu h,tu (show (c:Int)<(l.length:Int) by omega)];rfl
 ·rw[tq h,tq (show ¬(c:Int)<(l.length:Int) by omega)];rfl
theorem zCA{s':vW}(hL:L.map NE.place=vD I x.1 y.1)(hI:rO I)(hpe:eG x.1 I.length (xQ I))(hpl:eG y.1 I.length (xQ I))(hneH:∀c,uG x.1 y.1 c=true->c<H)(haH:∀c,(vL x.1 c || vL y.1 c)=true->c<H)
 (h:iX (uV (dC w b I H x y L na gn nc sa sc gi gh)) L.length (fun p=>(L.getD p ZC).place) (fun p=>tQ I x.1 y.1 (L.getD p ZC).place) (uY I x.1 y.1 I.length++uQ x.1 y.1 H) 0 (yt I H x y) s' false):¬zB1 I H x.1 y.1:=by
 rintro⟨v,hv,h1,h2⟩;have hl:L.length=(vD I x.1 y.1).length:=by rw[<-hL,pi]
 obtain⟨Z,hZl,hZ,rk,hrl,hrr,o,ho,ht⟩:=KD hpe hpl (fun i hi hn=>⟨(hI.num i hi hn).1,(hI.num i hi hn).2.2⟩) hv h1 h2
 obtain⟨F,hF⟩:∃F:Nat->Int,(∀p,p<L.length->F (L.getD p ZC).place=o.getD (rk.getD p 0) 0)/\∀i,(∀p,p<L.length->(L.getD p ZC).place≠i)->F i=if qM x.1 y.1 i=true/\xQ I i=false/\i<I.length then v.inputs.getD i 0 else lR I I.length i:=by
  refine⟨fun i=>if hq:∃p,p<L.length/\(L.getD p ZC).place=i then o.getD (rk.getD (Classical.choose hq) 0) 0 else if qM x.1 y.1 i=true/\xQ I i=false/\i<I.length then v.inputs.getD i 0 else lR I I.length i,fun p hp=>?_,fun i hi=>?_⟩
  ·have hq:∃q,q<L.length/\(L.getD q ZC).place=(L.getD p ZC).place:=⟨p,hp,rfl⟩
   simp only[hq,dite_true];have hc:=Classical.choose_spec hq;have e':(vD I x.1 y.1).getD (Classical.choose hq) 0=(vD I x.1 y.1).getD p 0:=by rw[<-kY hL hc.1,<-kY hL hp];exact hc.2
   rw[KY (hl ▸ hc.1) (hl ▸ hp) e']
  ·have hq:¬ ∃p,p<L.length/\(L.getD p ZC).place=i:=fun ⟨p,hp,e⟩=>hi p hp e
   simp only[hq,dite_false]
 obtain⟨t,htd⟩:∃t:vW,t=⟨fun _=>(0,0),fun _=>0,F,fun c=>uG x.1 y.1 c || ((vL x.1 c || vL y.1 c)&&kP v.has (c:Int))⟩:=⟨_,rfl⟩;have hoff:∀i,Fx (uY I x.1 y.1 I.length++uQ x.1 y.1 H) i->¬(qM x.1 y.1 i=true/\xQ I i=false/\i<I.length):=fun i hi hh=>hi _ (CD hh.2.2 hh.1 hh.2.1) ⟨rfl,rfl⟩
 have hrest:lW L.length (fun p=>(L.getD p ZC).place) (uY I x.1 y.1 I.length++uQ x.1 y.1 H) (yt I H x y) t:=by
  rw[htd];refine⟨fun i hp hi=>?_,fun c hc=>?_⟩
  ·show F i=lR I I.length i
   rw[hF.2 i hp,tb (hoff i hi)]
  ·show (uG x.1 y.1 c || ((vL x.1 c || vL y.1 c)&&kP v.has (c:Int)))=lT x.1 y.1 H c
   unfold lT;cases hn:uG x.1 y.1 c
   ·cases ha:(vL x.1 c || vL y.1 c)
    ·simp
    ·exact absurd ⟨rfl,rfl⟩ (hc _ (zGN (haH c ha) hn ha))
   ·rw[tu (hneH c hn)];simp
 have hno:=h.no rfl (fun p=>Z.getD p (0,0)) (fun p hp=>absurd hp (by omega)) (fun p hp=>by rw[kY hL hp];exact hZ p (by omega)) (fun p=>rk.getD p 0) (fun p hp=>by
  have hp2:p<rk.length:=by omega
  have:=hrr (rk.getD p 0) (by simp[List.getD,hp2])
  omega) o (by
  have e:bG L.length (fun p=>Z.getD p (0,0)) (fun p=>rk.getD p 0)=fJ Z rk:=by unfold bG fJ;rw[hZl,hl]
  rw[e];exact ho) t hrest (fun p hp=>by rw[htd];exact hF.1 p hp) (fun q hq hqf=>by
  rcases Y7 hq with ⟨_,g1,g2,g3⟩|⟨g1,_⟩
  ·have hpn:∀p,p<L.length->(L.getD p ZC).place≠q.place:=fun p hp e=>by
    rw[kY hL hp]at e;have:=(pU.1 (gM (I:=I) (e:=x.1) (l:=y.1) (p:=p) (by omega))).2.2;rw[e,g3]at this;cases this
   rw[htd];show F q.place=0\/F q.place=1;rw[hF.2 _ hpn,tm ⟨g2,g3,g1⟩];exact hv.flag _ g1 g3
  ·rw[hqf]at g1;cases g1)
 have htry:zFZ I x.1 y.1 rk o v (aF (dC w b I H x y L na gn nc sa sc gi gh) t):=by
  have zKF:∀i,i<I.length->(aF (dC w b I H x y L na gn nc sa sc gi gh) t).inputs.getD i 0=t.inp i:=fun i hi=>by simp[aF,dC,List.getD,hi]
  have hhas:∀c:Nat,kP (aF (dC w b I H x y L na gn nc sa sc gi gh) t).has (c:Int)=(decide (c<H)&&t.has c):=fun c=>by
   rw[qm];by_cases hc:c<H
   ·simp[aF,dC,List.getD,hc]
   ·simp[aF,dC,hc]
  refine⟨by simp[aF,dC],fun p hp=>?_,fun i hi ha hn=>?_,fun c hc=>?_,fun c hc ha=>?_⟩
  ·have hm:=pU.1 (gM hp)
   rw[zKF _ hm.1,htd,<-kY hL (show p<L.length by omega)];exact hF.1 p (by omega)
  ·have hpn:∀p,p<L.length->(L.getD p ZC).place≠i:=fun p hp e=>by
    rw[kY hL hp]at e;have:=(pU.1 (gM (I:=I) (e:=x.1) (l:=y.1) (p:=p) (by omega))).2.2;rw[e,hn]at this;cases this
   rw[zKF i hi,htd];show F i=_;rw[hF.2 i hpn,tm ⟨ha,hn,hi⟩]
  ·rw[hhas,tu (hneH c hc),htd]
   show (true&&(uG x.1 y.1 c || _))=true;rw[hc];rfl
  ·rw[hhas,tu (haH c ha),htd]
   show (true&&(uG x.1 y.1 c || ((vL x.1 c || vL y.1 c)&&kP v.has (c:Int))))=_;rw[hc,ha];simp
 have:=ht _ htry;unfold uV at hno;rw[show (dC w b I H x y L na gn nc sa sc gi gh).e.1=x.1 from rfl,show (dC w b I H x y L na gn nc sa sc gi gh).l.1=y.1 from rfl,this.1,this.2]at hno;cases hno
theorem x7{s':vW}(hL:L.map NE.place=vD I x.1 y.1)(hI:rO I)
 (h:iX (uV (dC w b I H x y L na gn nc sa sc gi gh)) L.length (fun p=>(L.getD p ZC).place) (fun p=>tQ I x.1 y.1 (L.getD p ZC).place) (uY I x.1 y.1 I.length++uQ x.1 y.1 H) 0 (yt I H x y) s' true):fD I H (aF (dC w b I H x y L na gn nc sa sc gi gh) s')/\qU x.1 (aF (dC w b I H x y L na gn nc sa sc gi gh) s')=true/\qU y.1 (aF (dC w b I H x y L na gn nc sa sc gi gh) s')=true:=by
 have hl:L.length=(vD I x.1 y.1).length:=by rw[<-hL,pi]
 obtain⟨hb,hbit,Z,rk,o,hZ,hrk,ho,hn⟩:=h.yes rfl;have zKF:∀i,i<I.length->(aF (dC w b I H x y L na gn nc sa sc gi gh) s').inputs.getD i 0=s'.inp i:=fun i hi=>by simp[aF,dC,List.getD,hi]
 have hlow:∀i,i<I.length->(∀p,p<L.length->(L.getD p ZC).place≠i)->¬(qM x.1 y.1 i=true/\xQ I i=false)->s'.inp i=(kU I i).low:=fun i hi hp hna=>by
  rw[h.rest.inp i hp (fun t ht hh=>by
   rcases Y7 ht with ⟨_,g1,g2,g3⟩|⟨g1,_⟩
   ·exact hna ⟨hh.2 ▸ g2,hh.2 ▸ g3⟩
   ·rw[hh.1]at g1;cases g1)]
  show lR I I.length i=_;unfold lR;rw[tm hi]
 refine⟨⟨by simp[aF,dC],by simp[aF,dC],fun i hi hnum=>?_,fun i hi hfl=>?_⟩,?_⟩
 ·rw[zKF i hi]
  have hr:=hI.num i hi hnum;by_cases ha:qM x.1 y.1 i=true
  ·obtain⟨p,hp,e⟩:=Yd hi ha hnum
   have hp2:p<L.length:=by omega
   have e2:=kY hL hp2;rw[e]at e2
   have hs:=YD (L:=bG L.length Z rk) (fun z hz=>by
    obtain⟨q,hq,rfl⟩:=p8.1 hz;rw[rP];exact hrk q (by simpa using hq)) ho ⟨(Z p).1,(Z p).2,rk p⟩ (p8.2 ⟨p,by simpa using hp2,rfl⟩)
   have hnp:=hn p hp2;simp only at hnp hs;rw[e2]at hnp;rw[hnp];have hzo:=(Yr (kU I i).low (kU I i).high (xK x.1 i) (xK y.1 i)).sub (Z p) (by have:=hZ p hp2;rw[e2]at this;exact this);omega
  ·rw[hlow i hi (fun p hp e=>ha (by
    have:=(pU.1 (gM (I:=I) (e:=x.1) (l:=y.1) (p:=p) (by omega))).2.1;rw[kY hL hp]at e;rw[e]at this;exact this)) (fun hh=>ha hh.1)]
   omega
 ·rw[zKF i hi]
  by_cases ha:qM x.1 y.1 i=true
  ·exact hbit _ (CD hi ha hfl) rfl
  ·rw[hlow i hi (fun p hp e=>ha (by
    have:=(pU.1 (gM (I:=I) (e:=x.1) (l:=y.1) (p:=p) (by omega))).2.1;rw[kY hL hp]at e;rw[e]at this;exact this)) (fun hh=>ha hh.1)]
   exact .inl (hI.flag i hi hfl)
 ·unfold uV at hb
  rw[pj]at hb;exact hb
def zIY:MX:=(⟨[],0,[],[],0⟩,.slice none 0 0,.slice none 0 0)
def jC(rs:List MX)(i:Nat):MX:=rs.getD i zIY
structure Qm(w:World)(b o:Nat)(I:List zP)(C:List (Bs × Nat))(rs:List MX)(G:List Bool):Prop where
 inp:∃a c,w.cell? ⟨b,o,none⟩=some (.slice a I.length c)/\xG w 204 a (I.flatMap uI)
 con:∃a c,w.cell? ⟨b,o+1,none⟩=some (.slice a C.length c)/\xG w 208 a (wZ C)
 rul:∃a c,w.cell? ⟨b,o+2,none⟩=some (.slice a rs.length c)/\xG w 162 a (rs.flatMap jN)
 rows:∀x∈rs,uL w x
 gr:zF2 w b (o+3) G
 few1:I.length<=100
 few2:C.length<=10000
 few3:rs.length<=10000
theorem Qm.below{o:Nat}{C:List (Bs × Nat)}{G:List Bool}(h:Qm w b o I C rs G)(hb:Below w.heap.size w w'):Qm w' b o I C rs G:=by
 obtain⟨a1,c1,p1,q1⟩:=h.inp;obtain⟨a2,c2,p2,q2⟩:=h.con;obtain⟨a3,c3,p3,q3⟩:=h.rul;exact⟨⟨a1,c1,(hb.cell (p:=⟨b,o,none⟩) (yF p1)).trans p1,q1.below hb⟩,⟨a2,c2,(hb.cell (p:=⟨b,o+1,none⟩) (yF p2)).trans p2,q2.below hb⟩,⟨a3,c3,(hb.cell (p:=⟨b,o+2,none⟩) (yF p3)).trans p3,q3.below hb⟩,fun x hx=>(h.rows x hx).below hb,h.gr.below hb,h.few1,h.few2,h.few3⟩
theorem eU{a:Option Addr}(h:kS w a (rs.flatMap jN)){i:Nat}(hi:i<rs.length):∃g,a=some ⟨g,0,none⟩/\w.cell? ⟨g,i*5,none⟩=some (.string ⟨(jC rs i).1.label.toArray⟩)/\w.cell? ⟨g,i*5+1,none⟩=some (.int .i64 (jC rs i).1.conc)/\w.cell? ⟨g,i*5+2,none⟩=some (jC rs i).2.1/\w.cell? ⟨g,i*5+3,none⟩=some (jC rs i).2.2/\w.cell? ⟨g,i*5+4,none⟩=some (.int .i64 (jC rs i).1.root):=by
 obtain⟨g,e,c0⟩:=h.at ((zN jN 5 (fun _=>rfl) zIY rs i 0 hi (by decide)).trans rfl);obtain⟨g1,e1,c1⟩:=h.at ((zN jN 5 (fun _=>rfl) zIY rs i 1 hi (by decide)).trans rfl);obtain⟨g2,e2,c2⟩:=h.at ((zN jN 5 (fun _=>rfl) zIY rs i 2 hi (by decide)).trans rfl);obtain⟨g3,e3,c3⟩:=h.at ((zN jN 5 (fun _=>rfl) zIY rs i 3 hi (by decide)).trans rfl);obtain⟨g4,e4,c4⟩:=h.at ((zN jN 5 (fun _=>rfl) zIY rs i 4 hi (by decide)).trans rfl);obtain rfl:g=g1:=by rw[e]at e1;simpa using e1
 obtain rfl:g=g2:=by rw[e]at e2;simpa using e2
 obtain rfl:g=g3:=by rw[e]at e3;simpa using e3
 obtain rfl:g=g4:=by rw[e]at e4;simpa using e4
 exact⟨g,e,c0,c1,c2,c3,c4⟩
theorem rY{i:Nat}(h:i<rs.length):jC rs i∈rs:=by simp[jC,List.getD,h]
def KL(rs:List MX)(G:List Bool)(i j:Nat):Bool:=decide ((jC rs i).1.conc=(jC rs j).1.conc)&&(!gY G (i:Int) (j:Int) && !gY G (j:Int) (i:Int))
theorem Ud(w:World)(b o:Nat)(I:List zP)(C:List (Bs × Nat))(rs:List MX)(G:List Bool)(i j:Nat)(h:Qm w b o I C rs G)(hi:i<rs.length)(hj:j<rs.length) :
 Calls Tryz.prog 65 #[.pointer (some ⟨b,o,none⟩),.int .i64 (i:Nat),.int .i64 (j:Nat)] w fun e w'=>e=.returned (.bool (KL rs G i j))/\Below w.heap.size w w':=by
 obtain⟨a,c,h2,hr⟩:=h.rul;obtain⟨g,rfl,-,ci,-,-,-⟩:=eU hr.cel hi;obtain⟨g',e',-,cj,-,-,-⟩:=eU hr.cel hj;obtain rfl:g=g':=by simpa using e'
 have hf:=h.few3;have ii:(i:Int)<(rs.length:Int):=by omega
 have jj:(j:Int)<(rs.length:Int):=by omega
 have HR:Hid (KL rs G i j=(decide ((jC rs i).1.conc=(jC rs j).1.conc)&&(!gY G (i:Int) (j:Int) && !gY G (j:Int) (i:Int)))):=rfl;have HS1:=zA (fun w' (hb:Below w.heap.size w w')=>fB w' b o G (i:Int) (j:Int) (h.gr.below hb));have HS2:=zA (fun w' (hb:Below w.heap.size w w')=>fB w' b o G (j:Int) (i:Int) (h.gr.below hb));clear h hr e';generalize KL rs G i j=ans at *;generalize gY G (i:Int) (j:Int)=s1 at *;generalize gY G (j:Int) (i:Int)=s2 at *;generalize (jC rs i).1.conc=k1 at *;generalize (jC rs j).1.conc=k2 at *
 go_enter Tryz.func65,Tryz.ntmps65
 by_cases hk:k1=k2
 ·have HR2:Hid (ans=(!s1 && !s2)):=by have:=HR.out;rw[tu hk,mu]at this;exact this
  subst hk;go_wp2_with fail
  go_quiet (fail)
  have HBq:Hid (Below w.heap.size w (w.drewN nq)):=xI (tg _ _) nq;generalize w.drewN nq=wq at *;have HS1w:=zA (HS1.out wq HBq.out);have HS2w:=zA (HS2.out wq HBq.out);clear HS1 HS2 HR;cases s1
  ·have HR3:Hid (ans = !s2):=by have:=HR2.out;simpa[Hid] using this
   go_wp2_with fail
   refine HS1w.out.mono ?_;rintro e w' ⟨rfl,hw⟩;obtain rfl:=hw.symm;go_wp2_with fail
   refine HS2w.out.mono ?_;rintro e w' ⟨rfl,hw⟩;obtain rfl:=hw.symm;go_wp2_with fail
   go_ret
   exact⟨zF HR3.out.symm,HBq.out⟩
  ·have HR3:Hid (ans=false):=by have:=HR2.out;simpa[Hid] using this
   go_wp2_with fail
   refine HS1w.out.mono ?_;rintro e w' ⟨rfl,hw⟩;obtain rfl:=hw.symm;go_wp2_with fail
   go_ret
   exact⟨zF HR3.out.symm,HBq.out⟩
 ·have HR2:Hid (ans=false):=by have:=HR.out;rw[tq hk,ce]at this;exact this
  have b1:(k1==k2)=false:=by simpa using hk
  have b2:(k1 != k2)=true:=by simp only[bne,b1];rfl
  clear hk;go_wp2_with fail
  go_quiet (fail)
  go_wp2_with fail
  go_ret
  exact⟨zF HR2.out.symm,xI (tg _ _) _⟩
end Go.Proofs.YtnbpdffdnphbeabGreatDoor
