import Derived.Test.YtnbpdffdnphbeaaGreatDoorMRowF
import Derived.Test.YtnbpdffdnphbeaaGreatDoorMLoad
set_option maxHeartbeats 2000000
set_option maxRecDepth 100000
namespace Go.Proofs.YtnbpdffdnphbeaaGreatDoor
open Go.RowKit
variable{C:List (Bs × Nat)}{G:List Bool}{rs:List MX}{xs ys:List Value}{T:List tU}{ls:List zF}{us:List zG}{x y:MX}{gh gn gi H p n B g sc b h q i nc j m k:Nat}{has:Nat->Bool}{inp f:Nat->Int}{F:Nat->List (Int × Int)}{a na sa:Option Addr}{t' t:TypeId}{iv sv v' nv v:Value}{w' wr wy wx w:World}{u:zG}
def sW(K:SK)(at':Nat)(w:World)(s:uN)(w':World)(e:Ending):Prop:=∃r s',e=.returned (.bool r)/\tB w' K s'/\Below K.B w w'/\Z3 (qY K) K.np K.P K.sw at' s s' r
theorem QS(K:SK)(ok:Q4 K):∀(m at':Nat) (w:World) (s:uN),at'+m=K.np->(∀p,p<at'->s.rk p<K.np)->tB w K s ->
 Calls Tryz.prog 127 #[.pointer (some ⟨K.b,0,none⟩),.int .i64 (at':Nat)] w fun e w'=>sW K at' w s w' e:=by
 intro m
 induction m with
 | zero =>
   intro at' w s hm hrk h;obtain rfl:at'=K.np:=by omega
   have HSn:=zA (Ka w K s ok hrk h);have HSw:=zA (fun w1 s1 (h1:tB w1 K s1)=>ZX K ok K.sw.length 0 w1 s1 (by omega) h1);have HN:Hid (∀s1 w1,tB w1 K s1->Below K.B w w1->iV K.np K.P s s1 false->sW K K.np w s w1 (.returned (.bool false))):=fun s1 w1 h1 h2 h3=>⟨false,s1,rfl,h1,h2,BL (t9 _) h3⟩
   have HY:Hid (∀s1 w1,Below K.B w w1->iV K.np K.P s s1 true->∀e w2,Ye K 0 w1 s1 w2 e->∃r,e=.returned (.bool r)/\sW K K.np w s w2 (.returned (.bool r))):=fun s1 w1 h2 h3 e w2 h4=>by
    obtain⟨r,s2,rfl,q1,q2,q3⟩:=h4;exact⟨r,rfl,r,s2,rfl,q1,h2.trans q2,BK (UB K) (t9 _) ok.off hrk h3 q3⟩
   have c10:w.cell? ⟨K.b,10,none⟩=some (.slice K.na K.np K.nc):=h.cells 10;have hi:¬(K.np:Int)<(K.np:Int):=by omega
   clear h hm hrk ok
   go_enter Tryz.func127,Tryz.ntmps127
   go_wp2_with fail
   refine HSn.out.mono ?_;rintro e w1 ⟨r,s1,rfl,hS1,hB1,hR1⟩;cases r
   ·have HQ:=zA (HN.out s1 w1 hS1 hB1 hR1)
    clear hS1 hB1 hR1;go_wp2_with fail
    first|exact HQ.out|(go_ret;exact HQ.out)
   ·have HY1:=zA (HY.out s1 w1 hB1 hR1)
    have HSw1:=zA (HSw.out w1 s1 hS1);clear hS1 hB1 hR1;generalize Ye K 0 w1 s1=Q1 at *;go_wp2_with fail
    refine HSw1.out.mono ?_;rintro e w2 hp;obtain⟨r,rfl,hq⟩:=HY1.out _ _ hp;have HQ:=zA hq;clear hq hp;go_wp2_with fail
    first|exact HQ.out|(go_ret;exact HQ.out)
 | succ m ih =>
   intro at' w s hm hrk h;have zI6:at'<K.np:=by omega
   have hf:=ok.np;have HI:Hid (∀w1 s1,(∀p,p<at'+1->s1.rk p<K.np)->tB w1 K s1->Calls Tryz.prog 127 #[.pointer (some ⟨K.b,0,none⟩),.int .i64 ((at':Int)+1)] w1 fun e w'=>sW K (at'+1) w1 s1 w' e):=fun w1 s1 hk h1=>ih (at'+1) w1 s1 (by omega) hk h1
   have HC:Hid (∀w1 s1,tB w1 K s1->w1.cell? ⟨K.b,10,none⟩=some (.slice (some ⟨K.gn,0,none⟩) K.np K.nc)/\w1.cell? ⟨K.gn,at'*5+4,none⟩=some (.int .i64 (s1.rk at':Nat))/\w1.frozen? ⟨K.gn,at'*5+4,none⟩=false):=fun w1 s1 h1=>by
    have hn:=h1.num zI6;refine⟨?_,hn.2.2.2.2.2.1,hn.2.2.2.2.2.2 _⟩;have:=h1.cells 10;rw[<-hn.1];exact this
   have zJ0:Hid (∀w1 s1 (v:Nat),v<K.np->Z4 (qY K) K.np K.P K.sw at' s s1 v->tB w1 K s1->Below K.B w w1->(∀p,p<at'+1->(rM s1 at' v).rk p<K.np)/\tB (w1.setCell ⟨K.gn,at'*5+4,none⟩ (.int .i64 (v:Nat))) K (rM s1 at' v)/\Below K.B w (w1.setCell ⟨K.gn,at'*5+4,none⟩ (.int .i64 (v:Nat)))):=fun w1 s1 v hv hm h1 hb=>by
    refine⟨fun p hp=>?_,h1.setRk zI6 v,hb.setCell (p:=⟨K.gn,at'*5+4,none⟩) (ok.lon (by omega)) _⟩;show (if p=at' then v else s1.rk p)<K.np;by_cases hpa:p=at'
    ·rw[tl hpa];exact hv
    ·rw[tg hpa,hm.kp p (by omega)];exact hrk p (by omega)
   have HY:Hid (∀v s1 s2 w2,Z4 (qY K) K.np K.P K.sw at' s s1 v->tB w2 K s2->Below K.B w w2->Z3 (qY K) K.np K.P K.sw (at'+1) (rM s1 at' v) s2 true->sW K at' w s w2 (.returned (.bool true))):=fun v s1 s2 w2 h1 h2 h3 h4=>⟨true,s2,rfl,h2,h3,FR h1 h4⟩;have HN:Hid (∀s1 w1,Z4 (qY K) K.np K.P K.sw at' s s1 K.np->tB w1 K s1->Below K.B w w1->sW K at' w s w1 (.returned (.bool false))):=fun s1 w1 h1 h2 h3=>⟨false,s1,rfl,h2,h3,FS9 zI6 h1⟩;have HM0:=zA (BM (qY K) K.np K.P K.sw at' s);have HS:=zA h;have h10:=(HC.out w s h).1;have hltI:(at':Int)<(K.np:Int):=by omega
   have hltD:decide (K.np<=at')=false:=th (by omega);have hltN:¬K.np<=at':=by omega
   clear h ih ok hm hrk
   go_enter Tryz.func127,Tryz.ntmps127
   go_wp2_with fail
   go_loopw [23] (fun iv wr=>∃(v:Nat) (s1:uN),v<=K.np/\iv=.int .i64 v/\Hid (tB wr K s1)/\Hid (Below K.B w wr)/\Hid (Z4 (qY K) K.np K.P K.sw at' s s1 v)) (fun iv _=>K.np-(intOf iv).toNat)
   case atStart=>exact⟨0,s,by omega,rfl,HS,zA (tj _ _),HM0⟩
   case round =>
    obtain⟨v,s1,hv,rfl,HSr,HBr,HMr⟩:=hrel;by_cases hv1:v<K.np
    ·obtain⟨k10,k0,k1⟩:=HC.out wr s1 HSr.out
     obtain⟨p1,p2,p3⟩:=zJ0.out wr s1 v hv1 HMr.out HSr.out HBr.out;have hvI:(v:Int)<(K.np:Int):=by omega
     have HI2:=zA (HI.out _ _ p1 p2);have HB2:=zA p3;clear p1 p2 p3;go_wp2_with fail
     refine HI2.out.mono ?_;rintro e w3 ⟨r,s3,rfl,hS3,hB3,hR3⟩;have HB3:Hid (Below K.B w w3):=HB2.out.trans hB3;cases r
     ·have HM3:=zA (ur HMr.out hR3)
      have HS3:=zA hS3;clear hS3 hB3 hR3;go_wp2_with fail
      go_roundw
      case rel=>exact⟨v+1,s3,by omega,by go_num,HS3,HB3,HM3⟩
      case measure=>simp[intOf];omega
     ·have HQ:=zA (HY.out v s1 s3 w3 HMr.out hS3 HB3.out hR3)
      clear hS3 hB3 hR3;go_wp2_with fail
      first|exact HQ.out|(go_ret;exact HQ.out)
    ·obtain rfl:v=K.np:=by omega
     have HQ:=zA (HN.out s1 wr HMr.out HSr.out HBr.out);have hvI:¬(K.np:Int)<(K.np:Int):=by omega
     go_wp2_with fail
     first|exact HQ.out|(go_ret;exact HQ.out)
def Qy(K:SK)(at':Nat)(w:World)(s:uN)(w':World)(e:Ending):Prop:=∃r s',e=.returned (.bool r)/\tB w' K s'/\Below K.B w w'/\Zx (qY K) K.np K.P K.zs K.sw at' s s' r
theorem QR(K:SK)(ok:Q4 K):∀(m at':Nat) (w:World) (s:uN),at'+m=K.np->(∀p,p<at'->s.Z p∈K.zs p)->tB w K s ->
 Calls Tryz.prog 72 #[.pointer (some ⟨K.b,0,none⟩),.int .i64 (at':Nat)] w fun e w'=>Qy K at' w s w' e:=by
 intro m
 induction m with
 | zero =>
   intro at' w s hm hz h;obtain rfl:at'=K.np:=by omega
   have HRk:=zA (QS K ok K.np 0 w s (by omega) (fun p hp=>absurd hp (by omega)) h)
   have HY:Hid (∀e w2,sW K 0 w s w2 e->∃r,e=.returned (.bool r)/\Qy K K.np w s w2 (.returned (.bool r))):=fun e w2 h4=>by
    obtain⟨r,s2,rfl,q1,q2,q3⟩:=h4;exact⟨r,rfl,r,s2,rfl,q1,q2,xq (t9 _) hz q3⟩
   have c10:w.cell? ⟨K.b,10,none⟩=some (.slice K.na K.np K.nc):=h.cells 10;have hi:¬(K.np:Int)<(K.np:Int):=by omega
   clear h hm hz ok;generalize sW K 0 w s=Q1 at *
   go_enter Tryz.func72,Tryz.ntmps72
   go_wp2_with fail
   refine HRk.out.mono ?_;rintro e w2 hp;obtain⟨r,rfl,hq⟩:=HY.out _ _ hp;have HQ:=zA hq;clear hq hp;go_wp2_with fail
   first|exact HQ.out|(go_ret;exact HQ.out)
 | succ m ih =>
   intro at' w s hm hz h;have zI6:at'<K.np:=by omega
   have hf:=ok.np;have hfz:=ok.zs at' zI6;have HI:Hid (∀w1 s1,(∀p,p<at'+1->s1.Z p∈K.zs p)->tB w1 K s1->Calls Tryz.prog 72 #[.pointer (some ⟨K.b,0,none⟩),.int .i64 ((at':Int)+1)] w1 fun e w'=>Qy K (at'+1) w1 s1 w' e):=fun w1 s1 hk h1=>ih (at'+1) w1 s1 (by omega) hk h1
   have HC:Hid (∀w1 s1,tB w1 K s1->w1.cell? ⟨K.b,10,none⟩=some (.slice (some ⟨K.gn,0,none⟩) K.np K.nc)/\w1.cell? ⟨K.gn,at'*5+1,none⟩=some (.slice (K.za at') (K.zs at').length (K.zc at'))/\(w1.cell? ⟨K.gn,at'*5+2,none⟩=some (.int .i64 (s1.Z at').1)/\w1.cell? ⟨K.gn,at'*5+3,none⟩=some (.int .i64 (s1.Z at').2))/\w1.frozen? ⟨K.gn,at'*5+2,none⟩=false/\w1.frozen? ⟨K.gn,at'*5+3,none⟩=false):=fun w1 s1 h1=>by
    have hn:=h1.num zI6;refine⟨?_,hn.2.2.1,⟨hn.2.2.2.1,hn.2.2.2.2.1⟩,hn.2.2.2.2.2.2 _,hn.2.2.2.2.2.2 _⟩;have:=h1.cells 10;rw[<-hn.1];exact this
   have HZc:Hid (∀w1 s1 (v:Nat),tB w1 K s1->v<(K.zs at').length->∃g,K.za at'=some ⟨g,0,none⟩/\w1.cell? ⟨g,v*2,none⟩=some (.int .i64 ((K.zs at').getD v (0,0)).1)/\w1.cell? ⟨g,v*2+1,none⟩=some (.int .i64 ((K.zs at').getD v (0,0)).2)):=fun w1 s1 v h1 hv=>xj (h1.zn at' zI6).cel hv
   have zJ0:Hid (∀w1 s1 (v:Nat),v<(K.zs at').length->eI (qY K) K.np K.P K.zs K.sw at' s s1 v->tB w1 K s1->Below K.B w w1->(∀p,p<at'+1->(gY s1 at' ((K.zs at').getD v (0,0))).Z p∈K.zs p)/\∀w2,Below ((w1.setCell ⟨K.gn,at'*5+2,none⟩ (.int .i64 ((K.zs at').getD v (0,0)).1)).setCell ⟨K.gn,at'*5+2+1,none⟩ (.int .i64 ((K.zs at').getD v (0,0)).2)).heap.size ((w1.setCell ⟨K.gn,at'*5+2,none⟩ (.int .i64 ((K.zs at').getD v (0,0)).1)).setCell ⟨K.gn,at'*5+2+1,none⟩ (.int .i64 ((K.zs at').getD v (0,0)).2)) w2->tB w2 K (gY s1 at' ((K.zs at').getD v (0,0)))/\Below K.B w w2/\w2.cell? ⟨K.b,10,none⟩=some (.slice (some ⟨K.gn,0,none⟩) K.np K.nc)):=fun w1 s1 v hv hm h1 hb=>by
    refine⟨Ft hm hv hz,fun w2 hb2=>?_⟩;have hlb:=yK h1.hd;have hlo:=ok.lob;have hS:=(h1.setZn zI6 ((K.zs at').getD v (0,0))).below hb2;have hk:=(hb.setCell (p:=⟨K.gn,at'*5+2,none⟩) (ok.lon (by omega)) (.int .i64 ((K.zs at').getD v (0,0)).1)).setCell (p:=⟨K.gn,at'*5+2+1,none⟩) (ok.lon (by omega)) (.int .i64 ((K.zs at').getD v (0,0)).2);refine⟨hS,hk.trans (hb2.mono ?_),(HC.out _ _ hS).1⟩;have:K.B<=w1.heap.size:=by omega
    simpa[World.setCell] using this
   have HY:Hid (∀v s1 s2 w2,eI (qY K) K.np K.P K.zs K.sw at' s s1 v->tB w2 K s2->Below K.B w w2->Zx (qY K) K.np K.P K.zs K.sw (at'+1) (gY s1 at' ((K.zs at').getD v (0,0))) s2 true->Qy K at' w s w2 (.returned (.bool true))):=fun v s1 s2 w2 h1 h2 h3 h4=>⟨true,s2,rfl,h2,h3,Fs h1 h4⟩;have HN:Hid (∀s1 w1,eI (qY K) K.np K.P K.zs K.sw at' s s1 (K.zs at').length->tB w1 K s1->Below K.B w w1->Qy K at' w s w1 (.returned (.bool false))):=fun s1 w1 h1 h2 h3=>⟨false,s1,rfl,h2,h3,Fu zI6 h1⟩;have HM0:=zA (Bf (qY K) K.np K.P K.zs K.sw at' s);have HS:=zA h;obtain⟨h10,h11,-,-⟩:=HC.out w s h;have hltI:(at':Int)<(K.np:Int):=by omega
   have hltD:decide (K.np<=at')=false:=th (by omega);have hltN:¬K.np<=at':=by omega
   clear h ih ok hm hz;generalize hzn:(K.zs at').length=zn at *;have HZn:=zA hzn;clear hzn;generalize K.za at'=za at *
   go_enter Tryz.func72,Tryz.ntmps72
   go_wp2_with fail
   go_loopw [25] (fun iv wr=>∃(v:Nat) (s1:uN),v<=zn/\iv=.int .i64 v/\Hid (tB wr K s1)/\Hid (Below K.B w wr)/\Hid (eI (qY K) K.np K.P K.zs K.sw at' s s1 v)) (fun iv _=>zn-(intOf iv).toNat)
   case atStart=>exact⟨0,s,by omega,rfl,HS,zA (tj _ _),HM0⟩
   case round =>
    obtain⟨v,s1,hv,rfl,HSr,HBr,HMr⟩:=hrel;by_cases hv1:v<zn
    ·obtain⟨k10,k1,⟨k2,k3⟩,f2,f3⟩:=HC.out wr s1 HSr.out
     obtain⟨p1,p2⟩:=zJ0.out wr s1 v hv1 HMr.out HSr.out HBr.out;obtain⟨g,ez,z0,z1⟩:=HZc.out wr s1 v HSr.out hv1;subst ez;have hvI:(v:Int)<(zn:Int):=by omega
     have HP1:=zA p1;have HP2:=zA p2;have hM:=zA HMr.out;have lg:=vW z0;have lgn:=vW k1;have lb:=vW k10;have n1:wr.heap.size≠g:=by omega
     have n2:wr.heap.size≠K.gn:=by omega
     have n3:wr.heap.size≠K.b:=by omega
     have n4:K.gn≠wr.heap.size:=by omega
     have HNo:=zA (fun s3 => @xt (qY K) K.np K.P K.zs K.sw at' v s s1 s3 HMr.out);have HY1:=zA (fun s3 w3=>HY.out v s1 s3 w3 HMr.out);clear p1 p2;generalize (K.zs at').getD v (0,0)=zz at *;obtain⟨z1l,z1h⟩:=zz;simp only at z0 z1 HP2;generalize (s1.Z at').1=o1 at *;generalize (s1.Z at').2=o2 at *
     go_upto_region 6 with fail
     obtain⟨hS2,hB2,e10⟩:=HP2.out (((wr.setCell ⟨K.gn,at'*5+2,none⟩ (.int .i64 z1l)).setCell ⟨K.gn,at'*5+2+1,none⟩ (.int .i64 z1h)).alloc (.cells #[.int .i64 z1l,.int .i64 z1h] 266)).drew (me (ge (t9 _) _));have e0:(((wr.setCell ⟨K.gn,at'*5+2,none⟩ (.int .i64 z1l)).setCell ⟨K.gn,at'*5+2+1,none⟩ (.int .i64 z1h)).alloc (.cells #[.int .i64 z1l,.int .i64 z1h] 266)).cell? ⟨wr.heap.size,0,none⟩=some (.int .i64 z1l):=zD (xX _ _ _ (by simp[World.setCell])) 0;have e1:(((wr.setCell ⟨K.gn,at'*5+2,none⟩ (.int .i64 z1l)).setCell ⟨K.gn,at'*5+2+1,none⟩ (.int .i64 z1h)).alloc (.cells #[.int .i64 z1l,.int .i64 z1h] 266)).cell? ⟨wr.heap.size,1,none⟩=some (.int .i64 z1h):=zD (xX _ _ _ (by simp[World.setCell])) 1;have e10':(((wr.setCell ⟨K.gn,at'*5+2,none⟩ (.int .i64 z1l)).setCell ⟨K.gn,at'*5+2+1,none⟩ (.int .i64 z1h)).alloc (.cells #[.int .i64 z1l,.int .i64 z1h] 266)).cell? ⟨K.b,10,none⟩=some (.slice (some ⟨K.gn,0,none⟩) K.np K.nc):=e10;have HI2:=zA (HI.out _ _ HP1.out hS2);have HB2:=zA hB2;clear hS2 hB2 e10
     go_region_held3 (fun w'=>w'.cell? ⟨K.b,10,none⟩=some (.slice (some ⟨K.gn,0,none⟩) K.np K.nc)/\w'.cell? ⟨wr.heap.size,0,none⟩=some (.int .i64 z1l)/\w'.cell? ⟨wr.heap.size,1,none⟩=some (.int .i64 z1h)) (go_keep) (fail)
     all_goals
      go_wp2_with fail
      refine HI2.out.mono ?_;rintro e w3 ⟨r,s3,rfl,hS3,hB3,hR3⟩;have HB3:Hid (Below K.B w w3):=HB2.out.trans hB3;cases r
      ·have HM3:=zA (HNo.out s3 hR3)
       have HS3:=zA hS3;clear hS3 hB3 hR3;go_wp2_with fail
       go_roundw
       case rel=>exact⟨v+1,s3,by omega,by go_num,HS3,HB3,HM3⟩
       case measure=>simp[intOf];omega
      ·have HQ:=zA (HY1.out s3 w3 hS3 HB3.out hR3)
       clear hS3 hB3 hR3;go_wp2_with fail
       first|exact HQ.out|(go_ret;exact HQ.out)
    ·obtain rfl:v=zn:=by omega
     have HQ:=zA (HN.out s1 wr HMr.out HSr.out HBr.out);have hvI:¬(v:Int)<(v:Int):=by omega
     go_wp2_with fail
     first|exact HQ.out|(go_ret;exact HQ.out)
def lP(I:List yI)(e l:vI)(i:Nat):List Nat:=(List.range i).filter fun i=>kS e l i&&xT I i
theorem V9(I:List yI)(e l:vI)(i:Nat):lP I e l (i+1)=lP I e l i++(if (kS e l i&&xT I i)=true then [i] else []):=by
 unfold lP;rw[di,List.filter_append,List.filter_cons,fd]
def kD(I:List yI)(e l:vI)(i:Nat):List tU:=((List.range i).filter fun i=>kS e l i && !xT I i).map fun i=>⟨true,i⟩
theorem Bq(I:List yI)(e l:vI)(i:Nat):kD I e l (i+1)=kD I e l i++(if (kS e l i && !xT I i)=true then [⟨true,i⟩] else []):=by
 unfold kD;rw[di,List.filter_append,List.map_append,List.filter_cons,fd];split <;> rfl
def qI(e l:vI)(c:Nat):List tU:=((List.range c).filter fun c => !uX e l c&&(vZ e c || vZ l c)).map fun c=>⟨false,c⟩
theorem Bp(e l:vI)(c:Nat):qI e l (c+1)=qI e l c++(if (!uX e l c&&(vZ e c || vZ l c))=true then [⟨false,c⟩] else []):=by
 unfold qI;rw[di,List.filter_append,List.map_append,List.filter_cons,fd];split <;> rfl
theorem X7(I:List yI)(e l:vI)(i:Nat):(lP I e l i).length<=i:=by have:=dg (fun i=>kS e l i&&xT I i) (List.range i);simpa[lP] using this
theorem Jc(I:List yI)(e l:vI)(i:Nat):(kD I e l i).length<=i:=by unfold kD;rw[ms];have:=dg (fun i=>kS e l i && !xT I i) (List.range i);simpa using this
theorem Jb(e l:vI)(c:Nat):(qI e l c).length<=c:=by unfold qI;rw[ms];have:=dg (fun c => !uX e l c&&(vZ e c || vZ l c)) (List.range c);simpa using this
structure NE where
 place:Nat
 za:Option Addr
 zc:Nat
variable{L:List NE}
def zEN(F:Nat->List (Int × Int))(x:NE):List Value:=[.int .i64 (x.place:Nat),.slice x.za (F x.place).length x.zc,.int .i64 0,.int .i64 0,.int .i64 0]
def iG(F:Nat->List (Int × Int))(l:List NE):List Value:=l.flatMap (zEN F)
theorem qw(F:Nat->List (Int × Int))(a b:List NE):iG F (a++b)=iG F a++iG F b:=by unfold iG;rw[f9]
def Xn(l:List tU):List Value:=l.flatMap zH6
theorem vq(a b:List tU):Xn (a++b)=Xn a++Xn b:=by unfold Xn;rw[f9]
def Bv(x y:MX)(nv sv iv hv:Value):Array Value := #[.string ⟨x.1.label.toArray⟩,.int .i64 x.1.conc,x.2.1,x.2.2,.int .i64 x.1.root,.string ⟨y.1.label.toArray⟩,.int .i64 y.1.conc,y.2.1,y.2.2,.int .i64 y.1.root,nv,sv,iv,hv,.slice none 0 0]
def Dj:Array Value := #[.string ⟨#[]⟩,.int .i64 0,.slice none 0 0,.slice none 0 0,.int .i64 0,.string ⟨#[]⟩,.int .i64 0,.slice none 0 0,.slice none 0 0,.int .i64 0,.slice none 0 0,.slice none 0 0,.slice none 0 0,.slice none 0 0,.slice none 0 0]
theorem ua(x y:MX)(nv sv iv hv:Value):(Tryz.prog.info? 184).map (·.size)=some (Bv x y nv sv iv hv).size:=by
 show _=some 15;kernel_rfl
theorem Dt{hv:Value}(h1:x.2.1.oneCell'=true)(h2:x.2.2.oneCell'=true)(h3:y.2.1.oneCell'=true)(h4:y.2.2.oneCell'=true)(h5:nv.oneCell'=true)(h6:sv.oneCell'=true)(h7:iv.oneCell'=true)(h8:hv.oneCell'=true):(Bv x y nv sv iv hv).all (·.oneCell')=true:=by
 unfold Bv;simp only[List.all_toArray,List.all_cons,List.all_nil,h1,h2,h3,h4,h5,h6,h7,h8];rfl
theorem jD.grown{e:TypeId}{f:Nat->Value}(h:jD w g t n f)(zI8:w.ownsRow B e k v m ys)(zIH:t≠e)(hg:w.grownBy w' v.ownBlock):jD w' g t n f:=by
 obtain⟨cs,h1,h2⟩:=h;refine⟨cs,?_,h2⟩;rw[hg.block g (yK h1) (fun e1=>?_)]
 ·exact h1
 ·rcases zI8.2 with ⟨k1,_⟩|⟨g',cap,yW,k1,_,k3,_⟩
  ·rw[k1]at e1;simp[Value.ownBlock]at e1
  ·rw[k1]at e1;simp[Value.ownBlock]at e1
   subst e1;rw[h1]at k3;simp only[cx,Obj.cells.injEq]at k3;exact zIH k3.2.1
structure YK(w wx:World)(x y:MX)(n h gi gh:Nat)(nv sv:Value)(inp:Nat->Int)(has:Nat->Bool):Prop where
 bel:Below w.heap.size w wx
 sz:w.heap.size+4<=wx.heap.size
 bx:wx.heap[w.heap.size]? = some (.cells #[.string ⟨x.1.label.toArray⟩,.int .i64 x.1.conc,x.2.1,x.2.2,.int .i64 x.1.root] 176 (0,0))
 by':wx.heap[w.heap.size+1]? = some (.cells #[.string ⟨y.1.label.toArray⟩,.int .i64 y.1.conc,y.2.1,y.2.2,.int .i64 y.1.root] 176 (0,0))
 res:wx.heap[w.heap.size+1+1]? = some (.cells Dj 184 (0,0))
 hd:wx.heap[w.heap.size+1+1+1]? = some (.cells (Bv x y nv sv (.slice (some ⟨gi,0,none⟩) n n) (.slice (some ⟨gh,0,none⟩) h h)) 184 (0,0))
 rI:jD wx gi 3 n (fun i=>.int .i64 (inp i))
 rH:jD wx gh 4 h (fun c=>.bool (has c))
 loi:w.heap.size+4<=gi
 loh:w.heap.size+4<=gh
theorem YK.below(k:YK w wx x y n h gi gh nv sv inp has)(hb:Below wx.heap.size wx wy):YK w wy x y n h gi gh nv sv inp has:=by
 have hs:=k.sz;have hz:=hb.size;exact⟨k.bel.trans (hb.mono (by omega)),by omega,by rw[hb.block _ (by omega)];exact k.bx,by rw[hb.block _ (by omega)];exact k.by',by rw[hb.block _ (by omega)];exact k.res,by rw[hb.block _ (by omega)];exact k.hd,k.rI.below hb,k.rH.below hb,k.loi,k.loh⟩
theorem YK.setI(k:YK w wx x y n h gi gh nv sv inp has)(hi:i<n)(v:Int)(e1:f i=v)(e2:∀r,r<n->r≠i->f r=inp r):YK w (wx.setCell ⟨gi,i,none⟩ (.int .i64 v)) x y n h gi gh nv sv f has:=by
 have hs:=k.sz;have hl:=k.loi;refine⟨k.bel.setCell (p:=⟨gi,i,none⟩) (by show w.heap.size<=gi;omega) _,by simp[World.setCell];exact hs,?_,?_,?_,?_,k.rI.set _ hi (congrArg (Value.int .i64) e1) (fun a ha zIH=>congrArg (Value.int .i64) (e2 a ha zIH)),k.rH.other _ (k.rH.ne k.rI (by decide)),k.loi,k.loh⟩
 ·rw[l6 wx ⟨gi,i,none⟩ _ _ (by show w.heap.size≠gi;omega)];exact k.bx
 ·rw[l6 wx ⟨gi,i,none⟩ _ _ (by show w.heap.size+1≠gi;omega)];exact k.by'
 ·rw[l6 wx ⟨gi,i,none⟩ _ _ (by show w.heap.size+1+1≠gi;omega)];exact k.res
 ·rw[l6 wx ⟨gi,i,none⟩ _ _ (by show w.heap.size+1+1+1≠gi;omega)];exact k.hd
theorem YK.setH{f:Nat->Bool}(k:YK w wx x y n h gi gh nv sv inp has)(hi:i<h)(v:Bool)(e1:f i=v)(e2:∀r,r<h->r≠i->f r=has r):YK w (wx.setCell ⟨gh,i,none⟩ (.bool v)) x y n h gi gh nv sv inp f:=by
 have hs:=k.sz;have hl:=k.loh;refine⟨k.bel.setCell (p:=⟨gh,i,none⟩) (by show w.heap.size<=gh;omega) _,by simp[World.setCell];exact hs,?_,?_,?_,?_,k.rI.other _ (k.rI.ne k.rH (by decide)),k.rH.set _ hi (congrArg Value.bool e1) (fun a ha zIH=>congrArg Value.bool (e2 a ha zIH)),k.loi,k.loh⟩
 ·rw[l6 wx ⟨gh,i,none⟩ _ _ (by show w.heap.size≠gh;omega)];exact k.bx
 ·rw[l6 wx ⟨gh,i,none⟩ _ _ (by show w.heap.size+1≠gh;omega)];exact k.by'
 ·rw[l6 wx ⟨gh,i,none⟩ _ _ (by show w.heap.size+1+1≠gh;omega)];exact k.res
 ·rw[l6 wx ⟨gh,i,none⟩ _ _ (by show w.heap.size+1+1+1≠gh;omega)];exact k.hd
theorem YK.setHd(k:YK w wx x y n h gi gh nv sv inp has){nv' sv':Value}(e:(Bv x y nv sv (.slice (some ⟨gi,0,none⟩) n n) (.slice (some ⟨gh,0,none⟩) h h)).setIfInBounds j v=Bv x y nv' sv' (.slice (some ⟨gi,0,none⟩) n n) (.slice (some ⟨gh,0,none⟩) h h)):YK w (wx.setCell ⟨w.heap.size+1+1+1,j,none⟩ v) x y n h gi gh nv' sv' inp has:=by
 have hs:=k.sz;have l1:=k.loi;have l2:=k.loh;refine⟨k.bel.setCell (p:=⟨w.heap.size+1+1+1,j,none⟩) (by show w.heap.size<=w.heap.size+1+1+1;omega) _,by simp[World.setCell];exact hs,?_,?_,?_,?_,k.rI.other _ (by omega),k.rH.other _ (by omega),k.loi,k.loh⟩
 ·rw[l6 wx ⟨w.heap.size+1+1+1,j,none⟩ _ _ (by show w.heap.size≠w.heap.size+1+1+1;omega)];exact k.bx
 ·rw[l6 wx ⟨w.heap.size+1+1+1,j,none⟩ _ _ (by show w.heap.size+1≠w.heap.size+1+1+1;omega)];exact k.by'
 ·rw[l6 wx ⟨w.heap.size+1+1+1,j,none⟩ _ _ (by show w.heap.size+1+1≠w.heap.size+1+1+1;omega)];exact k.res
 ·rw[m6 wx _ j _ _ _ k.hd,e]
theorem YK.setN(k:YK w wx x y n h gi gh nv sv inp has)(v:Value):YK w (wx.setCell ⟨w.heap.size+1+1+1,10,none⟩ v) x y n h gi gh v sv inp has:=k.setHd rfl
theorem YK.setS(k:YK w wx x y n h gi gh nv sv inp has)(v:Value):YK w (wx.setCell ⟨w.heap.size+1+1+1,11,none⟩ v) x y n h gi gh nv v inp has:=k.setHd rfl
theorem YK.grown(k:YK w wx x y n h gi gh nv sv inp has){e:TypeId}(zI8:wx.ownsRow (w.heap.size+4) e m v q ys)(h1:3≠e)(h2:4≠e)(hg:wx.grownBy wy v.ownBlock):YK w wy x y n h gi gh nv sv inp has:=by
 have hs:=k.sz;have hb:=fun b (hb:b<w.heap.size+4)=>hg.block b (by omega) (fun e1=>by have:=(zQ zI8 b e1.symm).1;omega);exact⟨k.bel.grown hg (by omega) (fun b hb=>by have:=(zQ zI8 b hb).1;omega),by have:=hg.size;omega,by rw[hb _ (by omega)];exact k.bx,by rw[hb _ (by omega)];exact k.by',by rw[hb _ (by omega)];exact k.res,by rw[hb _ (by omega)];exact k.hd,k.rI.grown zI8 h1 hg,k.rH.grown zI8 h2 hg,k.loi,k.loh⟩
theorem YK.fresh{w4:World}(bx:w4.heap[w.heap.size]? = some (.cells #[.string ⟨x.1.label.toArray⟩,.int .i64 x.1.conc,x.2.1,x.2.2,.int .i64 x.1.root] 176 (0,0)))(by':w4.heap[w.heap.size+1]? = some (.cells #[.string ⟨y.1.label.toArray⟩,.int .i64 y.1.conc,y.2.1,y.2.2,.int .i64 y.1.root] 176 (0,0)))(res:w4.heap[w.heap.size+1+1]? = some (.cells Dj 184 (0,0)))(hd:w4.heap[w.heap.size+1+1+1]? = some (.cells (Bv x y (.slice none 0 0) (.slice none 0 0) (.slice none 0 0) (.slice none 0 0)) 184 (0,0)))(bel:Below w.heap.size w w4)(hs:w.heap.size+4<=w4.heap.size)(hb:Below w4.heap.size w4 wx)(hI:wx.heap[gi]? = some (.cells (iC (List.replicate n 0)) 3 (0,0)))(hH:wx.heap[gh]? = some (.cells (gC (List.replicate h false)) 4 (0,0)))(l1:w4.heap.size<=gi)(l2:w4.heap.size<=gh) :
 YK w (((wx.setCell ⟨w.heap.size+1+1+1,12,none⟩ (.slice (some ⟨gi,0,none⟩) n n)).setCell ⟨w.heap.size+1+1+1,13,none⟩ (.slice (some ⟨gh,0,none⟩) h h)).setCell ⟨w.heap.size+1+1+1,14,none⟩ (.slice none 0 0)) x y n h gi gh (.slice none 0 0) (.slice none 0 0) (fun _=>0) (fun _=>false):=by
 have hz:=hb.size;have ne:∀(v:Value) (j:Nat) (W:World) (b:Nat),b≠w.heap.size+1+1+1->(W.setCell ⟨w.heap.size+1+1+1,j,none⟩ v).heap[b]? = W.heap[b]? := fun v j W b hb=>l6 W ⟨w.heap.size+1+1+1,j,none⟩ b v hb;have q0:wx.heap[w.heap.size+1+1+1]? = _:=(hb.block _ (by omega)).trans hd;have q1:=m6 wx _ 12 _ _ (.slice (some ⟨gi,0,none⟩) n n) q0;have q2:=m6 _ _ 13 _ _ (.slice (some ⟨gh,0,none⟩) h h) q1;have q3:=m6 _ _ 14 _ _ (.slice none 0 0) q2;refine⟨?_,by simp[World.setCell];omega,?_,?_,?_,q3,?_,?_,by omega,by omega⟩
 ·have h0:w.heap.size<=w.heap.size+1+1+1:=by omega
  exact((((bel.trans (hb.mono (by omega))).setCell (p:=⟨w.heap.size+1+1+1,12,none⟩) h0 _).setCell (p:=⟨w.heap.size+1+1+1,13,none⟩) h0 _).setCell (p:=⟨w.heap.size+1+1+1,14,none⟩) h0 _)
 ·rw[ne _ _ _ _ (by omega),ne _ _ _ _ (by omega),ne _ _ _ _ (by omega),hb.block _ (by omega)];exact bx
 ·rw[ne _ _ _ _ (by omega),ne _ _ _ _ (by omega),ne _ _ _ _ (by omega),hb.block _ (by omega)];exact by'
 ·rw[ne _ _ _ _ (by omega),ne _ _ _ _ (by omega),ne _ _ _ _ (by omega),hb.block _ (by omega)];exact res
 ·refine⟨_,by rw[ne _ _ _ _ (by omega),ne _ _ _ _ (by omega),ne _ _ _ _ (by omega)];exact hI,fun j hj=>?_⟩
  rw[zA3 (by simpa using hj)];simp[List.getD,hj]
 ·refine⟨_,by rw[ne _ _ _ _ (by omega),ne _ _ _ _ (by omega),ne _ _ _ _ (by omega)];exact hH,fun j hj=>?_⟩
  rw[CJ (by simpa using hj)];simp[List.getD,hj]
theorem wO(h:w.ownsRow B t k v n xs){u:Value}{cs:Array Value}{fz:Nat × Nat}(hb:w.heap[b]? = some (.cells cs t' fz))(zIH:t≠t'):(w.setCell ⟨b,j,none⟩ u).ownsRow B t k v n xs:=⟨h.1,by
 rcases h.2 with q|⟨g',cap,yW,k1,k2,q3,k4⟩
 ·exact .inl q
 ·exact .inr ⟨g',cap,yW,k1,k2,by rw[l6 w ⟨b,j,none⟩ g' u (XH q3 hb zIH)];exact q3,k4⟩⟩
theorem wP(h:w.ownsRow B t k v n xs){f:Nat->Value}(u:Value)(hr:jD w g t' m f)(zIH:t≠t'):(w.setCell ⟨g,j,none⟩ u).ownsRow B t k v n xs:=by
 obtain⟨cs,q,_⟩:=hr;exact wO h q zIH
theorem wQ(h:w.ownsRow B t k v n xs)(hb:Below w.heap.size w w'):w'.ownsRow B t k v n xs:=⟨h.1,by
 rcases h.2 with q|⟨g',cap,yW,k1,k2,q3,k4⟩
 ·exact .inl q
 ·exact .inr ⟨g',cap,yW,k1,k2,by rw[hb.block g' (yK q3)];exact q3,k4⟩⟩
theorem X5(h:w.ownsRow B t k v n xs){B':Nat}(zI8:w.ownsRow B' t' m v' q ys)(zIH:t≠t')(hg:w.grownBy w' v'.ownBlock):w'.ownsRow B t k v n xs:=⟨h.1,by
 rcases h.2 with q|⟨g',cap,yW,k1,k2,q3,k4⟩
 ·exact .inl q
 ·refine .inr ⟨g',cap,yW,k1,k2,?_,k4⟩
  rw[hg.block g' (yK q3) (fun e1=>?_)]
  ·exact q3
  ·rcases zI8.2 with ⟨p1,_⟩|⟨g2,_,_,p1,_,p3,_⟩
   ·rw[p1]at e1;simp[Value.ownBlock]at e1
   ·rw[p1]at e1;simp[Value.ownBlock]at e1
    subst e1;rw[q3]at p3;simp only[cx,Obj.cells.injEq]at p3;exact zIH p3.2.1⟩
structure Y6(w wr:World)(x y:MX)(n h gi gh:Nat)(F:Nat->List (Int × Int))(nv sv:Value)(L:List NE)(T:List tU)(inp:Nat->Int)(has:Nat->Bool):Prop where
 ns:YK w wr x y n h gi gh nv sv inp has
 nums:wr.ownsRow (w.heap.size+4) 268 5 nv L.length (iG F L)
 zn:∀q∈L,uS wr 266 q.za (fV (F q.place))
 sws:wr.ownsRow (w.heap.size+4) 261 2 sv T.length (Xn T)
theorem Y6.below(k:Y6 w wr x y n h gi gh F nv sv L T inp has)(hb:Below wr.heap.size wr wy):Y6 w wy x y n h gi gh F nv sv L T inp has :=
 ⟨k.ns.below hb,wQ k.nums hb,fun q hq=>(k.zn q hq).below hb,wQ k.sws hb⟩
theorem Y6.setI(k:Y6 w wr x y n h gi gh F nv sv L T inp has)(hi:i<n)(v:Int)(e1:f i=v)(e2:∀r,r<n->r≠i->f r=inp r):Y6 w (wr.setCell ⟨gi,i,none⟩ (.int .i64 v)) x y n h gi gh F nv sv L T f has :=
 ⟨k.ns.setI hi v e1 e2,wP k.nums _ k.ns.rI (by decide),fun q hq=>(k.zn q hq).row _ k.ns.rI (by decide),wP k.sws _ k.ns.rI (by decide)⟩
theorem Y6.setH{f:Nat->Bool}(k:Y6 w wr x y n h gi gh F nv sv L T inp has)(hi:i<h)(v:Bool)(e1:f i=v)(e2:∀r,r<h->r≠i->f r=has r):Y6 w (wr.setCell ⟨gh,i,none⟩ (.bool v)) x y n h gi gh F nv sv L T inp f :=
 ⟨k.ns.setH hi v e1 e2,wP k.nums _ k.ns.rH (by decide),fun q hq=>(k.zn q hq).row _ k.ns.rH (by decide),wP k.sws _ k.ns.rH (by decide)⟩
theorem Y6.tog(k:Y6 w wr x y n h gi gh F nv sv L T inp has)(t:tU)(zI8:wy.ownsRow (w.heap.size+4) 261 2 v' (T.length+1) (Xn T++zH6 t))(hg:wr.grownBy wy sv.ownBlock):Y6 w (wy.setCell ⟨w.heap.size+1+1+1,11,none⟩ v') x y n h gi gh F nv v' L (T++[t]) inp has:=by
 have k1:=k.ns.grown k.sws (by decide) (by decide) hg;refine⟨k1.setS v',wO (X5 k.nums k.sws (by decide) hg) k1.hd (by decide),fun q hq=>((k.zn q hq).grown k.sws (by decide) hg).set k1.hd (by decide),?_⟩;rw[vq,tq];have e:Xn [t]=zH6 t:=by simp[Xn]
 rw[e];exact wO zI8 k1.hd (by decide)
theorem Y6.num(k:Y6 w wr x y n h gi gh F nv sv L T inp has)(q:NE)(hq:uS wr 266 q.za (fV (F q.place)))(zI8:wy.ownsRow (w.heap.size+4) 268 5 v' (L.length+1) (iG F L++zEN F q))(hg:wr.grownBy wy nv.ownBlock):Y6 w (wy.setCell ⟨w.heap.size+1+1+1,10,none⟩ v') x y n h gi gh F v' sv (L++[q]) T inp has:=by
 have k1:=k.ns.grown k.nums (by decide) (by decide) hg;refine⟨k1.setN v',?_,fun r hr=>?_,wO (X5 k.sws k.nums (by decide) hg) k1.hd (by decide)⟩
 ·rw[qw,tq]
  have e:iG F [q]=zEN F q:=by simp[iG]
  rw[e];exact wO zI8 k1.hd (by decide)
 ·rcases pt.1 hr with hr|hr
  ·exact((k.zn r hr).grown k.nums (by decide) hg).set k1.hd (by decide)
  ·simp at hr;subst hr
   exact(hq.grown k.nums (by decide) hg).set k1.hd (by decide)
theorem FO(w:World)(g k:Nat)(cs:Array Value)(h:k≠g):(w.setRow g cs).heap[k]? = w.heap[k]? := by
 unfold World.setRow;simp only[Array.getElem?_modify];rw[tg (by omega)]
structure zGZ(w wr:World)(n h gi gh:Nat)(F:Nat->List (Int × Int))(nv sv:Value)(L:List NE)(T:List tU)(inp:Nat->Int)(has:Nat->Bool):Prop where
 bel:Below w.heap.size w wr
 nums:wr.ownsRow (w.heap.size+4) 268 5 nv L.length (iG F L)
 zn:∀q∈L,uS wr 266 q.za (fV (F q.place))
 sws:wr.ownsRow (w.heap.size+4) 261 2 sv T.length (Xn T)
 rI:jD wr gi 3 n (fun i=>.int .i64 (inp i))
 rH:jD wr gh 4 h (fun c=>.bool (has c))
 loi:w.heap.size<=gi
 loh:w.heap.size<=gh
theorem Y6.done(k:Y6 w wr x y n h gi gh F nv sv L T inp has)(cs:Array Value):zGZ w (wr.setRow (w.heap.size+1+1) cs) n h gi gh F nv sv L T inp has:=by
 have zIH:∀ {g:Nat} {c:Array Value} {t:TypeId} {fz:Nat × Nat},wr.heap[g]? = some (.cells c t fz)->t≠184->(wr.setRow (w.heap.size+1+1) cs).heap[g]? = wr.heap[g]? := fun h1 h2=>FO _ _ _ _ (XH h1 k.ns.res h2)
 have zI8:∀ {t:TypeId} {m q:Nat} {v:Value} {ys:List Value},wr.ownsRow (w.heap.size+4) t m v q ys->t≠184->(wr.setRow (w.heap.size+1+1) cs).ownsRow (w.heap.size+4) t m v q ys:=fun h1 h2=>⟨h1.1,by
  rcases h1.2 with q|⟨g',cap,yW,k1,k2,q3,k4⟩
  ·exact .inl q
  ·exact .inr ⟨g',cap,yW,k1,k2,by rw[zIH q3 h2];exact q3,k4⟩⟩
 have zIT:∀ {t:TypeId} {g m:Nat} {f:Nat->Value},jD wr g t m f->t≠184->jD (wr.setRow (w.heap.size+1+1) cs) g t m f:=fun h1 h2=>by
  obtain⟨c,q1,q2⟩:=h1;exact⟨c,by rw[zIH q1 h2];exact q1,q2⟩
 have l1:=k.ns.loi;have l2:=k.ns.loh;exact⟨xL k.ns.bel (by omega) _,zI8 k.nums (by decide),fun q hq=>(k.zn q hq).keep fun g c fz hg=>zIH hg (by decide),zI8 k.sws (by decide),zIT k.ns.rI (by decide),zIT k.ns.rH (by decide),by omega,by omega⟩
def cM(I:List yI)(i j:Nat):Int:=if j<i then (kX I j).low else 0
def cN(e l:vI)(c j:Nat):Bool:=decide (j<c)&&uX e l j
theorem zDM:(Tryz.prog.info? 268).map (fun i=>(i.zero,i.size,i.bytes))=some (some (.agg #[.int .i64 0,.slice none 0 0,.int .i64 0,.int .i64 0,.int .i64 0]),5,56):=by kernel_rfl
theorem zDI:(Tryz.prog.info? 261).map (fun i=>(i.zero,i.size,i.bytes))=some (some (.agg #[.bool false,.int .i64 0]),2,16):=by kernel_rfl
def KS(I:List yI)(H:Nat)(x y:MX)(w w':World)(e:Ending):Prop:=∃gi gh nv sv L,e=.returned (.agg (Bv x y nv sv (.slice (some ⟨gi,0,none⟩) I.length I.length) (.slice (some ⟨gh,0,none⟩) H H)))/\zGZ w w' I.length H gi gh (mD I x.1 y.1) nv sv L (kD I x.1 y.1 I.length++qI x.1 y.1 H) (cM I I.length) (cN x.1 y.1 H)/\L.map NE.place=vQ I x.1 y.1
theorem GD(I:List yI)(i:Nat):cM I (i+1) i=(kX I i).low/\∀r,r≠i->cM I (i+1) r=cM I i r:=by
 refine⟨by unfold cM;rw[tl (by omega)],fun r hr=>?_⟩;unfold cM;by_cases h:r<i
 ·rw[tl (by omega),tl h]
 ·rw[tg (by omega),tg h]
theorem GL(e l:vI)(i:Nat):cN e l (i+1) i=uX e l i/\∀r,r≠i->cN e l (i+1) r=cN e l i r:=by
 refine⟨by unfold cN;simp,fun r hr=>?_⟩;unfold cN;by_cases h:r<i
 ·rw[tm h,tm (show r<i+1 by omega)]
 ·rw[th h,th (show ¬r<i+1 by omega)]
theorem oP(r:vI)(i:Nat):(xQ r i).length<=r.guard.length:=by unfold xQ;rw[ms];exact dg _ _
theorem Jz{I:List yI}(h:jX w a (I.flatMap kJ))(hi:i<I.length):∃g,a=some ⟨g,0,none⟩/\w.cell? ⟨g,i*4,none⟩=some (.string ⟨(kX I i).name.toArray⟩)/\w.cell? ⟨g,i*4+1,none⟩=some (.bool (kX I i).isFlag)/\w.cell? ⟨g,i*4+2,none⟩=some (.int .i64 (kX I i).low)/\w.cell? ⟨g,i*4+3,none⟩=some (.int .i64 (kX I i).high):=by
 obtain⟨g,e,c0⟩:=h.at ((zV kJ 4 (fun _=>rfl) xb I i 0 hi (by decide)).trans rfl);obtain⟨g1,e1,c1⟩:=h.at ((zV kJ 4 (fun _=>rfl) xb I i 1 hi (by decide)).trans rfl);obtain⟨g2,e2,c2⟩:=h.at ((zV kJ 4 (fun _=>rfl) xb I i 2 hi (by decide)).trans rfl);obtain⟨g3,e3,c3⟩:=h.at ((zV kJ 4 (fun _=>rfl) xb I i 3 hi (by decide)).trans rfl);obtain rfl:g=g1:=by rw[e]at e1;simpa using e1
 obtain rfl:g=g2:=by rw[e]at e2;simpa using e2
 obtain rfl:g=g3:=by rw[e]at e3;simpa using e3
 exact⟨g,e,c0,c1,c2,c3⟩
theorem VD(w:World)(b o:Nat)(I:List yI)(H:Nat)(x y:MX)(ia ca:Option Addr)(ic cc:Nat)(h0:w.cell? ⟨b,o,none⟩=some (.slice ia I.length ic))(h1:w.cell? ⟨b,o+1,none⟩=some (.slice ca H cc))(hI:uS w 258 ia (I.flatMap kJ))(hx:kM w x)(hy:kM w y)(fI:I.length<=10000)(fH:H<=10000)(hbd:∀i z,z∈xQ x.1 i++xQ y.1 i -> -1000000<=z/\z<=1000000)(hzf:∀i,(mD I x.1 y.1 i).length<=100000) :
 Calls Tryz.prog 71 #[.pointer (some ⟨b,o,none⟩),kA x,kA y] w fun e w'=>KS I H x y w w' e:=by
 have lb:=vW h0;obtain⟨i0,hi0,hz0,hz1,hz2⟩:=dp zDI;obtain⟨j0,hj0,hj1,hj2,hj3⟩:=dp zDM;have HIn:=zA (fun w' (hb:Below w.heap.size w w') i (hi:i<I.length)=>Jz (hI.below hb).cel hi);have HAI1:=zA (fun w' (hb:Below w.heap.size w w') (c:Nat)=>YA w' x c (hx.below hb));have HAI2:=zA (fun w' (hb:Below w.heap.size w w') (c:Nat)=>YA w' y c (hy.below hb));have HBd1:=zA (fun w' (hb:Below w.heap.size w w') (c:Nat)=>UZ w' x c (hx.below hb));have HBd2:=zA (fun w' (hb:Below w.heap.size w w') (c:Nat)=>UZ w' y c (hy.below hb));have HNd1:=zA (fun w' (hb:Below w.heap.size w w') (c:Nat)=>Fn w' x c (hx.below hb));have HNd2:=zA (fun w' (hb:Below w.heap.size w w') (c:Nat)=>Fn w' y c (hy.below hb));have HAH1:=zA (fun w' (hb:Below w.heap.size w w') (c:Nat)=>JR w' x c (hx.below hb));have HAH2:=zA (fun w' (hb:Below w.heap.size w w') (c:Nat)=>JR w' y c (hy.below hb));have HZo:Hid (∀w' i (ea la:Option Addr) (ec lc:Nat),mM w' ea (xQ x.1 i)->mM w' la (xQ y.1 i)->Calls Tryz.prog 124 #[DE (kX I i),.slice ea (xQ x.1 i).length ec,.slice la (xQ y.1 i).length lc] w' fun e w''=>∃v,e=.returned v/\w''.ownsRow w'.heap.size 266 2 v (mD I x.1 y.1 i).length (fV (mD I x.1 y.1 i))/\Below w'.heap.size w' w''):=fun w' i ea la ec lc h1 h2=>Fr w' (kX I i) ea la ec lc _ _ h1 h2 (hbd i);have HBl1:Hid (∀i,(xQ x.1 i).length<=10000):=fun i=>tx (oP _ _) hx.few2;have HBl2:Hid (∀i,(xQ y.1 i).length<=10000):=fun i=>tx (oP _ _) hy.few2;have HNs:=zA (fun i=>V9 I x.1 y.1 i);have HS1:=zA (fun i=>Bq I x.1 y.1 i);have HS2:=zA (fun i=>Bp x.1 y.1 i);have HNl:=zA (fun i=>X7 I x.1 y.1 i);have HS1l:=zA (fun i=>Jc I x.1 y.1 i);have HS2l:=zA (fun i=>Jb x.1 y.1 i);have HIs:=zA (fun i=>GD I i);have HHs:=zA (fun i=>GL x.1 y.1 i);have HAb:Hid (∀i,kS x.1 y.1 i=(mC x.1 i || mC y.1 i)):=fun _=>rfl;have HNb:Hid (∀i,uX x.1 y.1 i=(lR x.1 i || lR y.1 i)):=fun _=>rfl;have HIf:Hid (∀i,xT I i = !(kX I i).isFlag):=fun _=>rfl;have HPo:Hid (∀w' gi gh nv sv L,zGZ w w' I.length H gi gh (mD I x.1 y.1) nv sv L (kD I x.1 y.1 I.length++qI x.1 y.1 H) (cM I I.length) (cN x.1 y.1 H)->L.map NE.place=lP I x.1 y.1 I.length->KS I H x y w w' (.returned (.agg (Bv x y nv sv (.slice (some ⟨gi,0,none⟩) I.length I.length) (.slice (some ⟨gh,0,none⟩) H H))))):=fun w' gi gh nv sv L h1 h2=>⟨gi,gh,nv,sv,L,rfl,h1,h2⟩;have HZf:=zA hzf;obtain⟨pa,pc,e1,-⟩:=hx.sum;obtain⟨ga,gc,e2,-⟩:=hx.guard;obtain⟨pa',pc',e3,-⟩:=hy.sum;obtain⟨ga',gc',e4,-⟩:=hy.guard
 have HCx:Hid (∀wr n gi gh F nv sv L T f g,Y6 w wr x y n H gi gh F nv sv L T f g->((wr.cell? ⟨w.heap.size,0,none⟩=some (.string ⟨x.1.label.toArray⟩)/\wr.cell? ⟨w.heap.size,1,none⟩=some (.int .i64 x.1.conc)/\wr.cell? ⟨w.heap.size,2,none⟩=some (.slice pa x.1.sum.length pc)/\wr.cell? ⟨w.heap.size,3,none⟩=some (.slice ga x.1.guard.length gc)/\wr.cell? ⟨w.heap.size,4,none⟩=some (.int .i64 x.1.root))/\(wr.cell? ⟨w.heap.size+1,0,none⟩=some (.string ⟨y.1.label.toArray⟩)/\wr.cell? ⟨w.heap.size+1,1,none⟩=some (.int .i64 y.1.conc)/\wr.cell? ⟨w.heap.size+1,2,none⟩=some (.slice pa' y.1.sum.length pc')/\wr.cell? ⟨w.heap.size+1,3,none⟩=some (.slice ga' y.1.guard.length gc')/\wr.cell? ⟨w.heap.size+1,4,none⟩=some (.int .i64 y.1.root))/\(wr.cell? ⟨w.heap.size+1+1+1,10,none⟩=some nv/\wr.cell? ⟨w.heap.size+1+1+1,11,none⟩=some sv/\wr.cell? ⟨w.heap.size+1+1+1,12,none⟩=some (.slice (some ⟨gi,0,none⟩) n n)/\wr.cell? ⟨w.heap.size+1+1+1,13,none⟩=some (.slice (some ⟨gh,0,none⟩) H H))/\∀j,wr.frozen? ⟨w.heap.size+1+1+1,j,none⟩=false)):=fun wr n gi gh F nv sv L T f g k=>by
  have q1:=k.ns.bx;have q2:=k.ns.by'
  rw[e1,e2]at q1;rw[e3,e4]at q2;exact⟨⟨zD q1 0,zD q1 1,zD q1 2,zD q1 3,zD q1 4⟩,⟨zD q2 0,zD q2 1,zD q2 2,zD q2 3,zD q2 4⟩,⟨zD k.ns.hd 10,zD k.ns.hd 11,zD k.ns.hd 12,zD k.ns.hd 13⟩,fun j=>by simp[World.frozen?,k.ns.hd]⟩
 have HFr:Hid (∀ {w4 wx:World} {n gi gh:Nat},w4.heap[w.heap.size]? = some (.cells #[.string ⟨x.1.label.toArray⟩,.int .i64 x.1.conc,.slice pa x.1.sum.length pc,.slice ga x.1.guard.length gc,.int .i64 x.1.root] 176 (0,0))->w4.heap[w.heap.size+1]? = some (.cells #[.string ⟨y.1.label.toArray⟩,.int .i64 y.1.conc,.slice pa' y.1.sum.length pc',.slice ga' y.1.guard.length gc',.int .i64 y.1.root] 176 (0,0))->w4.heap[w.heap.size+1+1]? = some (.cells Dj 184 (0,0))->w4.heap[w.heap.size+1+1+1]? = some (.cells #[.string ⟨x.1.label.toArray⟩,.int .i64 x.1.conc,.slice pa x.1.sum.length pc,.slice ga x.1.guard.length gc,.int .i64 x.1.root,.string ⟨y.1.label.toArray⟩,.int .i64 y.1.conc,.slice pa' y.1.sum.length pc',.slice ga' y.1.guard.length gc',.int .i64 y.1.root,.slice none 0 0,.slice none 0 0,.slice none 0 0,.slice none 0 0,.slice none 0 0] 184 (0,0))->Below w.heap.size w w4->w.heap.size+4<=w4.heap.size->Below w4.heap.size w4 wx->wx.heap[gi]? = some (.cells (iC (List.replicate n 0)) 3 (0,0))->wx.heap[gh]? = some (.cells (gC (List.replicate H false)) 4 (0,0))->w4.heap.size<=gi->w4.heap.size<=gh->Y6 w (((wx.setCell ⟨w.heap.size+1+1+1,12,none⟩ (.slice (some ⟨gi,0,none⟩) n n)).setCell ⟨w.heap.size+1+1+1,13,none⟩ (.slice (some ⟨gh,0,none⟩) H H)).setCell ⟨w.heap.size+1+1+1,14,none⟩ (.slice none 0 0)) x y n H gi gh (mD I x.1 y.1) (.slice none 0 0) (.slice none 0 0) [] [] (cM I 0) (cN x.1 y.1 0)):=fun {w4 wx n gi gh} q1 q2 q3 q4 q5 q6 q7 q8 q9 q10 q11=>by
  have hz:cM I 0=fun _=>0:=by funext j;unfold cM;rw[tg (by omega)]
  have hz2:cN x.1 y.1 0=fun _=>false:=by funext j;unfold cN;rw[th (by omega)];rfl
  rw[hz,hz2];exact⟨YK.fresh (x:=x) (y:=y) (by rw[e1,e2];exact q1) (by rw[e3,e4];exact q2) q3 (by unfold Bv;rw[e1,e2,e3,e4];exact q4) q5 q6 q7 q8 q9 q10 q11,⟨rfl,.inl ⟨rfl,rfl⟩⟩,fun q hq=>by simp at hq,⟨rfl,.inl ⟨rfl,rfl⟩⟩⟩
 have HOne:Hid (∀nv sv iv hv:Value,nv.oneCell'=true->sv.oneCell'=true->iv.oneCell'=true->hv.oneCell'=true->(Bv x y nv sv iv hv).all (·.oneCell')=true):=fun nv sv iv hv h1 h2 h3 h4=>Dt (by rw[e1];rfl) (by rw[e2];rfl) (by rw[e3];rfl) (by rw[e4];rfl) h1 h2 h3 h4
 simp only[kA]at HAI1 HAI2 HBd1 HBd2 HNd1 HNd2 HAH1 HAH2 ⊢;rw[e1,e2]at HAI1 HBd1 HNd1 HAH1;rw[e3,e4]at HAI2 HBd2 HNd2 HAH2;rw[e1,e2,e3,e4];have HE1:=zA (show x.2.1=_ from e1);clear e1 e2 e3 e4 hx hy hbd hzf hI;have hmI:=run_make_row' (P:=Tryz.prog) 59 3 (.int .i64 0) 8 Tryz.underlying59 dV rfl .i64 .i64 I.length (by omega) (by omega);have hmH:=run_make_row' (P:=Tryz.prog) 180 4 (.bool false) 1 Tryz.underlying180 Zs rfl .i64 .i64 H (by omega) (by omega);rw[oF]at hmH;rw[ZK]at hmI;generalize x.1.label=xl at *;generalize x.1.conc=xc at *;generalize x.1.root=xr at *;generalize x.1.sum.length=xn at *;generalize x.1.guard.length=xm at *;generalize y.1.label=yl at *;generalize y.1.conc=yc at *;generalize y.1.root=yr at *;generalize y.1.sum.length=yn at *;generalize y.1.guard.length=ym at *;have h1':=h1;have lb1:=lb
 go_enter Tryz.func71,Tryz.ntmps71
 go_upto_region 2 with fail
 obtain⟨w4,hw4⟩:∃w4,w4=(((w.alloc (Obj.cells #[Value.string ⟨xl.toArray⟩,.int .i64 xc,.slice pa xn pc,.slice ga xm gc,.int .i64 xr] 176)).alloc (Obj.cells #[Value.string ⟨yl.toArray⟩,.int .i64 yc,.slice pa' yn pc',.slice ga' ym gc',.int .i64 yr] 176)).alloc (Obj.cells Dj 184)).alloc (Obj.cells #[.string ⟨xl.toArray⟩,.int .i64 xc,.slice pa xn pc,.slice ga xm gc,.int .i64 xr,.string ⟨yl.toArray⟩,.int .i64 yc,.slice pa' yn pc',.slice ga' ym gc',.int .i64 yr,.slice none 0 0,.slice none 0 0,.slice none 0 0,.slice none 0 0,.slice none 0 0] 184):=⟨_,rfl⟩;have hw4':=hw4;unfold Dj at hw4;rw[<-hw4];clear hw4;have x0:w4.heap[w.heap.size]? = some (.cells #[.string ⟨xl.toArray⟩,.int .i64 xc,.slice pa xn pc,.slice ga xm gc,.int .i64 xr] 176 (0,0)):=by rw[hw4'];exact yJ (yJ (yJ (zM _ _)))
 have x1:w4.heap[w.heap.size+1]? = some (.cells #[.string ⟨yl.toArray⟩,.int .i64 yc,.slice pa' yn pc',.slice ga' ym gc',.int .i64 yr] 176 (0,0)):=by rw[hw4'];exact yJ (yJ (xX _ _ _ (by simp)))
 have x2:w4.heap[w.heap.size+1+1]? = some (.cells Dj 184 (0,0)):=by rw[hw4'];exact yJ (xX _ _ _ (by simp))
 have x3:w4.heap[w.heap.size+1+1+1]? = some (.cells #[.string ⟨xl.toArray⟩,.int .i64 xc,.slice pa xn pc,.slice ga xm gc,.int .i64 xr,.string ⟨yl.toArray⟩,.int .i64 yc,.slice pa' yn pc',.slice ga' ym gc',.int .i64 yr,.slice none 0 0,.slice none 0 0,.slice none 0 0,.slice none 0 0,.slice none 0 0] 184 (0,0)):=by rw[hw4'];exact xX _ _ _ (by simp)
 have hs4:w4.heap.size=w.heap.size+4:=by rw[hw4'];simp
 have HB4:Hid (Below w.heap.size w w4):=by unfold Hid;rw[hw4'];exact(((ge (t9 _) _).alloc (by simp) _).alloc (by simp;omega) _).alloc (by simp;omega) _
 have k0:w4.cell? ⟨b,o,none⟩=some (.slice ia I.length ic):=(HB4.out.cell (p:=⟨b,o,none⟩) lb).trans h0;have k1:w4.cell? ⟨b,o+1,none⟩=some (.slice ca H cc):=(HB4.out.cell (p:=⟨b,o+1,none⟩) lb).trans h1;have l3:w.heap.size+1+1+1<w4.heap.size:=by omega
 have l4:b<w4.heap.size:=by omega
 have HQ:Hid (∀A B:Obj,((w4.alloc A).alloc B).heap[w.heap.size+1+1+1]? = _):=fun A B=>yJ (yJ x3);have f12:∀A B:Obj,((w4.alloc A).alloc B).frozen? ⟨w.heap.size+1+1+1,12,none⟩=false:=fun A B=>by simp[World.frozen?,HQ.out A B]
 have f13:∀A B:Obj,((w4.alloc A).alloc B).frozen? ⟨w.heap.size+1+1+1,13,none⟩=false:=fun A B=>by simp[World.frozen?,HQ.out A B]
 have f14:∀A B:Obj,((w4.alloc A).alloc B).frozen? ⟨w.heap.size+1+1+1,14,none⟩=false:=fun A B=>by simp[World.frozen?,HQ.out A B]
 have c12:∀A B:Obj,((w4.alloc A).alloc B).cell? ⟨w.heap.size+1+1+1,12,none⟩=some (.slice none 0 0):=fun A B=>zD (HQ.out A B) 12;have c13:∀A B:Obj,((w4.alloc A).alloc B).cell? ⟨w.heap.size+1+1+1,13,none⟩=some (.slice none 0 0):=fun A B=>zD (HQ.out A B) 13;have c14:∀A B:Obj,((w4.alloc A).alloc B).cell? ⟨w.heap.size+1+1+1,14,none⟩=some (.slice none 0 0):=fun A B=>zD (HQ.out A B) 14;have HX0:=zA x0;have HX1:=zA x1;have HX2:=zA x2;have HX3:=zA x3;have hs4':w.heap.size+4<=w4.heap.size:=by omega
 clear hw4' hs4 x0 x1 x2 x3
 go_cut [7] from 17 to 30 (fun v7 wx=>v7=.pointer (some ⟨w.heap.size+1+1+1,0,none⟩)/\∃gi gh,Hid (Y6 w wx x y I.length H gi gh (mD I x.1 y.1) (.slice none 0 0) (.slice none 0 0) [] [] (cM I 0) (cN x.1 y.1 0)))
 case first =>
  go_region
  all_goals
   go_wp2_with fail
   go_meet
  ·exact⟨rfl,w4.heap.size,w4.heap.size+1,zA ((HFr.out (n:=I.length) (gi:=w4.heap.size) (gh:=w4.heap.size+1) HX0.out HX1.out HX2.out HX3.out HB4.out hs4' ((ge (t9 _) _).alloc (by simp) _) (yJ (zM _ _)) (xX _ _ _ (by simp)) (by omega) (by omega)).below (me (tj _ _)))⟩
  ·exact⟨rfl,w4.heap.size+1,w4.heap.size,zA ((HFr.out (n:=I.length) (gi:=w4.heap.size+1) (gh:=w4.heap.size) HX0.out HX1.out HX2.out HX3.out HB4.out hs4' ((ge (t9 _) _).alloc (by simp) _) (xX _ _ _ (by simp)) (yJ (zM _ _)) (by omega) (by omega)).below (me (tj _ _)))⟩
 case rest =>
  obtain⟨rfl,gi,gh,HS⟩:=hcut;generalize hwA:wc=wA at *;clear hwA HX0 HX1 HX2 HX3 HB4 k0 k1 l3 l4 HQ f12 f13 f14 c12 c13 c14 hmI hmH hs4' HFr;have HMd:Hid (∀wr,Below w.heap.size w wr->wr.cell? ⟨b,o,none⟩=some (.slice ia I.length ic)/\wr.cell? ⟨b,o+1,none⟩=some (.slice ca H cc)):=fun wr hb=>⟨(hb.cell (p:=⟨b,o,none⟩) lb).trans h0,(hb.cell (p:=⟨b,o+1,none⟩) lb).trans h1⟩;obtain⟨k0,k1⟩:=HMd.out wA HS.out.ns.bel;clear h0 h1 h1' lb1;go_wp2_with fail
  go_loopw [36] (fun iv wr=>∃(i:Nat) (nv sv:Value) (L:List NE),i<=I.length/\iv=.int .i64 i/\Hid (Y6 w wr x y I.length H gi gh (mD I x.1 y.1) nv sv L (kD I x.1 y.1 i) (cM I i) (cN x.1 y.1 0))/\Hid (L.map NE.place=lP I x.1 y.1 i)) (fun iv _=>I.length-(intOf iv).toNat)
  case atStart=>exact⟨0,_,_,[],tr _,rfl,HS,zA rfl⟩
  case round =>
   obtain⟨i,nv,sv,L,hi,rfl,HN,HP⟩:=hrel;have zIJ:=HN.out.ns.sz;by_cases zI6:i<I.length
   ·obtain⟨g,rfl,n0,n1,n2,n3⟩:=HIn.out wr HN.out.ns.bel i zI6
    obtain⟨-,-,⟨-,-,d12,-⟩,-⟩:=HCx.out _ _ _ _ _ _ _ _ _ _ _ HN.out;have ii:(i:Int)<(I.length:Int):=by omega
    have lg:=vW n0;have ng:wr.heap.size≠g:=by omega
    have m3:w.heap.size+1+1+1<wr.heap.size:=by omega
    have m3':wr.heap.size≠w.heap.size+1+1+1:=by omega
    have ci:wr.cell? ⟨gi,i,none⟩=some (.int .i64 (cM I i i)):=HN.out.ns.rI.cell zI6;have fi:wr.frozen? ⟨gi,i,none⟩=false:=HN.out.ns.rI.free i;have lgi:=vW ci;have ngi:wr.heap.size≠gi:=by omega
    have ngi':gi≠wr.heap.size:=by omega
    have HSet:Hid (Y6 w (wr.setCell ⟨gi,i,none⟩ (.int .i64 (kX I i).low)) x y I.length H gi gh (mD I x.1 y.1) nv sv L (kD I x.1 y.1 i) (cM I (i+1)) (cN x.1 y.1 0)):=HN.out.setI zI6 _ (HIs.out i).1 (fun r _ hr=>(HIs.out i).2 r hr);have HAI1i:=zA (fun w' hb=>HAI1.out w' hb i);have HAI2i:=zA (fun w' hb=>HAI2.out w' hb i);have HBd1i:=zA (fun w' hb=>HBd1.out w' hb i);have HBd2i:=zA (fun w' hb=>HBd2.out w' hb i);have HZoi:=zA (fun w'=>HZo.out w' i);have HBl1i:=HBl1.out i;have HBl2i:=HBl2.out i;have HNsi:=zA (HNs.out i);have HS1i:=zA (HS1.out i);have hNl:=HNl.out i;have hS1l:=HS1l.out i;have hLl:L.length<=i:=by have:=congrArg List.length HP.out;rw[ms]at this;omega
    rw[HAb.out i,HIf.out i]at HNsi HS1i;have hzl:=HZf.out i;have HNeC:Hid (∀za zc,zEN (mD I x.1 y.1) ⟨i,za,zc⟩=[.int .i64 (i:Nat),.slice za (mD I x.1 y.1 i).length zc,.int .i64 0,.int .i64 0,.int .i64 0]):=fun _ _=>rfl;generalize cM I i i=old at *;generalize kX I i=xi at *;obtain⟨xin,xif,xil,xih⟩:=xi;simp only[DE]at n0 n1 n2 n3 HSet HNsi HS1i HZoi;generalize mC x.1 i=q1 at *;generalize mC y.1 i=q2 at *
    go_upto_region 7 with fail
    have HN7:Hid (Y6 w ((wr.setCell ⟨gi,i,none⟩ (.int .i64 xil)).alloc (.cells #[.string ⟨xin.toArray⟩,.bool xif,.int .i64 xil,.int .i64 xih] 258)) x y I.length H gi gh (mD I x.1 y.1) nv sv L (kD I x.1 y.1 i) (cM I (i+1)) (cN x.1 y.1 0)):=HSet.out.below (ge (t9 _) _);have HI7:Hid (((wr.setCell ⟨gi,i,none⟩ (.int .i64 xil)).alloc (.cells #[.string ⟨xin.toArray⟩,.bool xif,.int .i64 xil,.int .i64 xih] 258)).heap[wr.heap.size]? = some (.cells #[.string ⟨xin.toArray⟩,.bool xif,.int .i64 xil,.int .i64 xih] 258 (0,0))):=xX _ _ _ (by simp[World.setCell]);generalize (wr.setCell ⟨gi,i,none⟩ (.int .i64 xil)).alloc (.cells #[.string ⟨xin.toArray⟩,.bool xif,.int .i64 xil,.int .i64 xih] 258)=w7 at *;clear HSet n0 n1 n2 n3 ci fi lgi ngi ngi' d12 HN zIJ m3 m3' lg ng;obtain⟨⟨a0,a1,a2,a3,a4⟩,-,-,-⟩:=HCx.out _ _ _ _ _ _ _ _ _ _ _ HN7.out;have HAI1w:=zA (HAI1i.out w7 HN7.out.ns.bel)
    have HYc:Hid (∀w8,Below w7.heap.size w7 w8->Below w.heap.size w w8/\w8.cell? ⟨w.heap.size+1,0,none⟩=some (.string ⟨yl.toArray⟩)/\w8.cell? ⟨w.heap.size+1,1,none⟩=some (.int .i64 yc)/\w8.cell? ⟨w.heap.size+1,2,none⟩=some (.slice pa' yn pc')/\w8.cell? ⟨w.heap.size+1,3,none⟩=some (.slice ga' ym gc')/\w8.cell? ⟨w.heap.size+1,4,none⟩=some (.int .i64 yr)):=fun w8 hb=>by
     have k:=HN7.out.below hb;obtain⟨-,h9,-,-⟩:=HCx.out _ _ _ _ _ _ _ _ _ _ _ k;exact⟨k.ns.bel,h9⟩
    go_cut [57] from 48 to 57 (fun v57 wx=>v57=.bool (!(q1 || q2))/\Hid (Below w7.heap.size w7 wx))
    case first =>
     cases q1
     ·go_wp2_with fail
      refine HAI1w.out.mono ?_;rintro e w8 ⟨rfl,hb8⟩;obtain⟨p1,p2,p3,p4,p5,p6⟩:=HYc.out w8 hb8;have HA2w:=zA (HAI2i.out w8 p1);have HB8:=zA hb8;clear hb8 p1 a0 a1 a2 a3 a4;go_wp2_with fail
      refine HA2w.out.mono ?_;rintro e w9 ⟨rfl,hb9⟩;have HB9:Hid (Below w7.heap.size w7 w9):=HB8.out.trans (hb9.mono HB8.out.size);clear hb9;cases q2
      ·go_wp2_with fail
       go_meet
       exact⟨rfl,HB9⟩
      ·go_wp2_with fail
       go_meet
       exact⟨rfl,HB9⟩
     ·go_wp2_with fail
      refine HAI1w.out.mono ?_;rintro e w8 ⟨rfl,hb8⟩;have HB8:=zA hb8;clear hb8;go_wp2_with fail
      go_meet
      exact⟨rfl,HB8⟩
    case rest =>
     obtain⟨rfl,HB8⟩:=hcut;generalize hwB:wc=w8 at *;clear hwB a0 a1 a2 a3 a4 HAI1w HAI1i HAI2i HYc;have HN8:=zA (HN7.out.below HB8.out);have HI8:Hid (w8.heap[wr.heap.size]? = some (.cells #[.string ⟨xin.toArray⟩,.bool xif,.int .i64 xil,.int .i64 xih] 258 (0,0))):=by unfold Hid;rw[HB8.out.block _ (yK HI7.out)];exact HI7.out
     clear HN7 HI7 HB8;generalize (q1 || q2)=qq at *;cases qq
     ·have HE1:Hid (kD I x.1 y.1 (i+1)=kD I x.1 y.1 i):=by have:=HS1i.out;unfold Hid;simpa using this
      have HE2:Hid (lP I x.1 y.1 (i+1)=lP I x.1 y.1 i):=by have:=HNsi.out;unfold Hid;simpa using this
      go_wp2_with fail
      go_roundw
      case rel=>exact⟨i+1,nv,sv,L,by omega,by go_num,by rw[HE1.out];exact HN8,by rw[HE2.out];exact HP⟩
      case measure=>simp[intOf];omega
     ·have u0:w8.cell? ⟨wr.heap.size,0,none⟩=some (.string ⟨xin.toArray⟩):=zD HI8.out 0
      have u1:w8.cell? ⟨wr.heap.size,1,none⟩=some (.bool xif):=zD HI8.out 1;have u2:w8.cell? ⟨wr.heap.size,2,none⟩=some (.int .i64 xil):=zD HI8.out 2;have u3:w8.cell? ⟨wr.heap.size,3,none⟩=some (.int .i64 xih):=zD HI8.out 3;obtain⟨⟨a0,a1,a2,a3,a4⟩,⟨b0,b1,b2,b3,b4⟩,⟨d10,d11,d12,d13⟩,dF⟩:=HCx.out _ _ _ _ _ _ _ _ _ _ _ HN8.out;have hs8:=HN8.out.ns.sz;have m3:w.heap.size+1+1+1<w8.heap.size:=by omega
      have m3':w8.heap.size≠w.heap.size+1+1+1:=by omega
      cases xif
      ·have HE1:Hid (kD I x.1 y.1 (i+1)=kD I x.1 y.1 i):=by have:=HS1i.out;unfold Hid;simpa using this
       have HE2:Hid (lP I x.1 y.1 (i+1)=lP I x.1 y.1 i++[i]):=by have:=HNsi.out;unfold Hid;simpa using this
       have HB1w:=zA (HBd1i.out w8 HN8.out.ns.bel);go_wp2_with fail
       refine HB1w.out.mono ?_;rintro e w9 ⟨v9,rfl,ho9,hb9⟩;have HN9:=zA (HN8.out.below hb9);obtain⟨ea,ec,rfl,hcel9,-,-⟩:=dN ho9;have HIa:Hid (mM w9 ea (xQ x.1 i)):=⟨hcel9,HBl1i⟩;have HI9:Hid (w9.heap[wr.heap.size]? = some (.cells #[.string ⟨xin.toArray⟩,.bool false,.int .i64 xil,.int .i64 xih] 258 (0,0))):=by unfold Hid;rw[hb9.block _ (yK HI8.out)];exact HI8.out
       obtain⟨-,⟨e0,e1,e2,e3,e4⟩,-,-⟩:=HCx.out _ _ _ _ _ _ _ _ _ _ _ HN9.out;have HB2w:=zA (HBd2i.out w9 HN9.out.ns.bel);clear ho9 hb9 hcel9 u0 u1 u2 u3 a0 a1 a2 a3 a4 b0 b1 b2 b3 b4 d10 d11 d12 d13 dF m3 m3' hs8 HN8 HI8 HB1w;generalize xQ x.1 i=be at *;go_wp2_with fail
       refine HB2w.out.mono ?_;rintro e w10 ⟨v10,rfl,ho10,hb10⟩;have HN10:=zA (HN9.out.below hb10);obtain⟨la,lc,rfl,hcel10,-,-⟩:=dN ho10;have HIb:Hid (mM w10 la (xQ y.1 i)):=⟨hcel10,HBl2i⟩;have HIa2:=zA (HIa.out.below hb10);have HI10:Hid (w10.heap[wr.heap.size]? = some (.cells #[.string ⟨xin.toArray⟩,.bool false,.int .i64 xil,.int .i64 xih] 258 (0,0))):=by unfold Hid;rw[hb10.block _ (yK HI9.out)];exact HI9.out
       have u0:w10.cell? ⟨wr.heap.size,0,none⟩=some (.string ⟨xin.toArray⟩):=zD HI10.out 0;have u1:w10.cell? ⟨wr.heap.size,1,none⟩=some (.bool false):=zD HI10.out 1;have u2:w10.cell? ⟨wr.heap.size,2,none⟩=some (.int .i64 xil):=zD HI10.out 2;have u3:w10.cell? ⟨wr.heap.size,3,none⟩=some (.int .i64 xih):=zD HI10.out 3;have HZw:=zA (HZoi.out w10 ea la ec lc HIa2.out HIb.out);clear ho10 hb10 hcel10 e0 e1 e2 e3 e4 HN9 HI9 HB2w HIa HIa2 HIb;generalize xQ y.1 i=bl at *;go_wp2_with fail
       refine HZw.out.mono ?_;rintro e w11 ⟨v11,rfl,ho11,hb11⟩;have HN11:=zA (HN10.out.below hb11);obtain⟨za,zc,rfl,hcT⟩:=jP ho11;have HCT:=zA hcT;obtain⟨-,-,⟨d10,d11,d12,d13⟩,dF⟩:=HCx.out _ _ _ _ _ _ _ _ _ _ _ HN11.out;have hs11:=HN11.out.ns.sz;have m3:w.heap.size+1+1+1<w11.heap.size:=by omega
       have m3':w11.heap.size≠w.heap.size+1+1+1:=by omega
       clear ho11 hb11 hcT u0 u1 u2 u3 HN10 HI10 HZw;have HNum:=zA (fun (ob:Obj) (wy:World) (v':Value) (zI8:wy.ownsRow (w.heap.size+4) 268 5 v' (L.length+1) (iG (mD I x.1 y.1) L++zEN (mD I x.1 y.1) ⟨i,za,zc⟩)) (hg:(w11.alloc ob).grownBy wy nv.ownBlock)=>(HN11.out.below (ge (t9 _) ob)).num ⟨i,za,zc⟩ (HCT.out.below (ge (t9 _) ob)) zI8 hg);obtain⟨na,nc,rfl⟩:=yH HN11.out.nums;have HOn:=zA HN11.out.nums;have HPl:Hid ((L++[(⟨i,za,zc⟩:NE)]).map NE.place=lP I x.1 y.1 (i+1)):=by unfold Hid;rw[List.map_append,HP.out,HE2.out];rfl
       rw[HNeC.out za zc]at HNum;generalize (mD I x.1 y.1 i).length=zl at *
       go_wp2_with (at_builtin;refine wpList_append_own _ rfl _ _ 178 rfl (w.heap.size+4) 268 j0 _ 5 56 Tryz.underlying178 hj0 hj1 hj2 hj3 rfl (by decide) _ _ _ rfl (HOn.out.alloc _) ⟨w11.heap.size,0,none⟩ 1 1 [.int .i64 (i:Nat),.slice za zl zc,.int .i64 0,.int .i64 0,.int .i64 0] rfl rfl ?c1k1 ?c1k2 ?c1k3 ?c1k4 ?c1k5 ?_)
       try (case c1k1=>first|exact zZ _ _ _ _ rfl|exact fun _ _ h=>h)
       try (case c1k2=>first|exact⟨rfl,rfl,rfl,rfl,rfl⟩|(intro u hu;simp at hu;rcases hu with rfl|rfl|rfl <;> rfl)|simp[Value.oneCell'])
       try (case c1k3=>unfold maxLen;omega)
       try (case c1k4=>omega)
       try (case c1k5=>first|omega|(simp;omega))
       intro v12 w12 hown12 hgrow12 _;have HN12:=zA (HNum.out _ w12 v12 hown12 hgrow12)
       have e10:w12.cell? ⟨w.heap.size+1+1+1,10,none⟩=some (.slice na L.length nc):=by
        have hb:=hgrow12.block (w.heap.size+1+1+1) (by simp;omega) (fun e=>by have:=(zQ HOn.out _ e.symm).1;omega);rw[l7 (w:=w11.alloc _) (a:=⟨w.heap.size+1+1+1,10,none⟩) hb,l7 (w:=w11) (a:=⟨w.heap.size+1+1+1,10,none⟩) (mq _ _ _ m3)];exact d10
       have f10:w12.frozen? ⟨w.heap.size+1+1+1,10,none⟩=false:=by
        have hb:=hgrow12.block (w.heap.size+1+1+1) (by simp;omega) (fun e=>by have:=(zQ HOn.out _ e.symm).1;omega);rw[dl (w:=w11.alloc _) (a:=⟨w.heap.size+1+1+1,10,none⟩) hb,dl (w:=w11) (a:=⟨w.heap.size+1+1+1,10,none⟩) (mq _ _ _ m3)];exact dF 10
       obtain⟨va,vc,rfl⟩:=yH hown12;clear hown12 hgrow12 d10 d11 d12 d13 dF;go_wp2_with fail
       go_roundw
       case rel=>exact⟨i+1,_,sv,L++[⟨i,za,zc⟩],by omega,by go_num,by rw[HE1.out];exact HN12,HPl⟩
       case measure=>simp[intOf];omega
      ·have HE1:Hid (kD I x.1 y.1 (i+1)=kD I x.1 y.1 i++[⟨true,i⟩]):=by have:=HS1i.out;unfold Hid;simpa using this
       have HE2:Hid (lP I x.1 y.1 (i+1)=lP I x.1 y.1 i):=by have:=HNsi.out;unfold Hid;simpa using this
       have HTg:=zA (fun (ob:Obj) (wy:World) (v':Value) (zI8:wy.ownsRow (w.heap.size+4) 261 2 v' ((kD I x.1 y.1 i).length+1) (Xn (kD I x.1 y.1 i)++[.bool true,.int .i64 (i:Nat)])) (hg:(w8.alloc ob).grownBy wy sv.ownBlock)=>(HN8.out.below (ge (t9 _) ob)).tog ⟨true,i⟩ zI8 hg);obtain⟨sa,sc,rfl⟩:=yH HN8.out.sws;have HOs:=zA HN8.out.sws;clear u0 u2 u3 a0 a1 a2 a3 a4 b0 b1 b2 b3 b4
       go_wp2_with (at_builtin;refine wpList_append_own _ rfl _ _ 179 rfl (w.heap.size+4) 261 i0 _ 2 16 Tryz.underlying179 hi0 hz0 hz1 hz2 rfl (by decide) _ _ _ rfl (HOs.out.alloc _) ⟨w8.heap.size,0,none⟩ 1 1 [.bool true,.int .i64 (i:Nat)] rfl rfl ?c2k1 ?c2k2 ?c2k3 ?c2k4 ?c2k5 ?_)
       try (case c2k1=>first|exact zZ _ _ _ _ rfl|exact fun _ _ h=>h)
       try (case c2k2=>first|exact⟨rfl,rfl⟩|(intro u hu;simp at hu;rcases hu with rfl|rfl <;> rfl)|simp[Value.oneCell'])
       try (case c2k3=>unfold maxLen;omega)
       try (case c2k4=>omega)
       try (case c2k5=>first|omega|(simp;omega))
       intro v12 w12 hown12 hgrow12 _;have HN12:=zA (HTg.out _ w12 v12 hown12 hgrow12)
       have e11:w12.cell? ⟨w.heap.size+1+1+1,11,none⟩=some (.slice sa (kD I x.1 y.1 i).length sc):=by
        have hb:=hgrow12.block (w.heap.size+1+1+1) (by simp;omega) (fun e=>by have:=(zQ HOs.out _ e.symm).1;omega);rw[l7 (w:=w8.alloc _) (a:=⟨w.heap.size+1+1+1,11,none⟩) hb,l7 (w:=w8) (a:=⟨w.heap.size+1+1+1,11,none⟩) (mq _ _ _ m3)];exact d11
       have f11:w12.frozen? ⟨w.heap.size+1+1+1,11,none⟩=false:=by
        have hb:=hgrow12.block (w.heap.size+1+1+1) (by simp;omega) (fun e=>by have:=(zQ HOs.out _ e.symm).1;omega);rw[dl (w:=w8.alloc _) (a:=⟨w.heap.size+1+1+1,11,none⟩) hb,dl (w:=w8) (a:=⟨w.heap.size+1+1+1,11,none⟩) (mq _ _ _ m3)];exact dF 11
       obtain⟨va,vc,rfl⟩:=yH hown12;clear hown12 hgrow12 d10 d11 d12 d13 dF;go_wp2_with fail
       go_roundw
       case rel=>exact⟨i+1,nv,_,L,by omega,by go_num,by rw[HE1.out];exact HN12,by rw[HE2.out];exact HP⟩
       case measure=>simp[intOf];omega
   ·obtain rfl:i=I.length:=by omega
    have ii:¬(I.length:Int)<(I.length:Int):=by omega
    obtain⟨wq,hwq⟩:∃wq,wq=wr:=⟨_,rfl⟩;rw[<-hwq]at HN ⊢;clear hwq zIJ k0 k1;obtain⟨k0,k1⟩:=HMd.out wq HN.out.ns.bel
    have HN0:Hid (Y6 w wq x y I.length H gi gh (mD I x.1 y.1) nv sv L (kD I x.1 y.1 I.length++qI x.1 y.1 0) (cM I I.length) (cN x.1 y.1 0)):=by
     have e:kD I x.1 y.1 I.length++qI x.1 y.1 0=kD I x.1 y.1 I.length:=ce _;unfold Hid;rw[e];exact HN.out
    have hTl:=HS1l.out I.length;clear HN HNs HS1 HNl HS1l HIs HBl1 HBl2 HZo HBd1 HBd2 HAI1 HAI2 HIn HIf HAb HZf;go_wp2_with fail
    generalize hT1:kD I x.1 y.1 I.length=T1 at *;have HT1:=zA hT1;clear hT1
    go_loopw [91] (fun iv wr=>∃(c:Nat) (sv:Value),c<=H/\iv=.int .i64 c/\Hid (Y6 w wr x y I.length H gi gh (mD I x.1 y.1) nv sv L (T1++qI x.1 y.1 c) (cM I I.length) (cN x.1 y.1 c))) (fun iv _=>H-(intOf iv).toNat)
    case atStart=>exact⟨0,_,tr _,rfl,HN0⟩
    case round =>
     obtain⟨c,sv,hc,rfl,HN⟩:=hrel;by_cases zI6:c<H
     ·have jj:(c:Int)<(H:Int):=by omega
      obtain⟨⟨a0,a1,a2,a3,a4⟩,-,-,-⟩:=HCx.out _ _ _ _ _ _ _ _ _ _ _ HN.out;have HNd1w:=zA (HNd1.out wr HN.out.ns.bel c);have HNd2i:=zA (fun w' hb=>HNd2.out w' hb c);have HAH1i:=zA (fun w' hb=>HAH1.out w' hb c);have HAH2i:=zA (fun w' hb=>HAH2.out w' hb c);have HS2i:=zA (HS2.out c);have HHi:=zA (HHs.out c);have hS2l:=HS2l.out c;rw[HNb.out c]at HS2i HHi
      have HYc:Hid (∀w8,Below wr.heap.size wr w8->(Below w.heap.size w w8/\w8.cell? ⟨w.heap.size+1,0,none⟩=some (.string ⟨yl.toArray⟩)/\w8.cell? ⟨w.heap.size+1,1,none⟩=some (.int .i64 yc)/\w8.cell? ⟨w.heap.size+1,2,none⟩=some (.slice pa' yn pc')/\w8.cell? ⟨w.heap.size+1,3,none⟩=some (.slice ga' ym gc')/\w8.cell? ⟨w.heap.size+1,4,none⟩=some (.int .i64 yr))/\w8.cell? ⟨w.heap.size,0,none⟩=some (.string ⟨xl.toArray⟩)/\w8.cell? ⟨w.heap.size,1,none⟩=some (.int .i64 xc)/\w8.cell? ⟨w.heap.size,2,none⟩=some (.slice pa xn pc)/\w8.cell? ⟨w.heap.size,3,none⟩=some (.slice ga xm gc)/\w8.cell? ⟨w.heap.size,4,none⟩=some (.int .i64 xr)):=fun w8 hb=>by
       have k:=HN.out.below hb;obtain⟨h8,h9,-,-⟩:=HCx.out _ _ _ _ _ _ _ _ _ _ _ k;exact⟨⟨k.ns.bel,h9⟩,h8⟩
      generalize lR x.1 c=q1 at *;generalize lR y.1 c=q2 at *;generalize vZ x.1 c=q3 at *;generalize vZ y.1 c=q4 at *
      go_upto_region 18 with fail
      go_cut [101] from 94 to 101 (fun v wx=>v=.bool (q1 || q2)/\Hid (Below wr.heap.size wr wx))
      case first =>
       cases q1
       ·go_wp2_with fail
        refine HNd1w.out.mono ?_;rintro e w8 ⟨rfl,hb8⟩;obtain⟨⟨p1,p2,p3,p4,p5,p6⟩,-⟩:=HYc.out w8 hb8;have HA2w:=zA (HNd2i.out w8 p1);have HB8:=zA hb8;clear hb8 p1 a0 a1 a2 a3 a4;go_wp2_with fail
        refine HA2w.out.mono ?_;rintro e w9 ⟨rfl,hb9⟩;have HB9:Hid (Below wr.heap.size wr w9):=HB8.out.trans (hb9.mono HB8.out.size);clear hb9;go_wp2_with fail
        go_meet
        exact⟨rfl,HB9⟩
       ·go_wp2_with fail
        refine HNd1w.out.mono ?_;rintro e w8 ⟨rfl,hb8⟩;have HB8:=zA hb8;clear hb8;go_wp2_with fail
        go_meet
        exact⟨rfl,HB8⟩
      case rest =>
       obtain⟨rfl,HB8⟩:=hcut;generalize hwB:wc=w8 at *;clear hwB a0 a1 a2 a3 a4 HNd1w HNd2i;generalize (q1 || q2)=qq at *;cases qq
       ·have HHe:Hid (cN x.1 y.1 (c+1)=cN x.1 y.1 c):=by
         unfold Hid;funext r;by_cases hr:r=c
         ·subst hr;rw[HHi.out.1];unfold cN;rw[th (by omega)];rfl
         ·exact HHi.out.2 r hr
        obtain⟨⟨p1,-⟩,a0,a1,a2,a3,a4⟩:=HYc.out w8 HB8.out;have HAH1w:=zA (HAH1i.out w8 p1);clear p1
        go_upto_region 20 with fail
        go_cut [114] from 107 to 114 (fun v wx=>v=.bool (q3 || q4)/\Hid (Below wr.heap.size wr wx))
        case first =>
         cases q3
         ·go_wp2_with fail
          refine HAH1w.out.mono ?_;rintro e w9 ⟨rfl,hb9⟩;have HB9:Hid (Below wr.heap.size wr w9):=HB8.out.trans (hb9.mono HB8.out.size);obtain⟨⟨p1,p2,p3,p4,p5,p6⟩,-⟩:=HYc.out w9 HB9.out;have HA2w:=zA (HAH2i.out w9 p1);clear hb9 p1 a0 a1 a2 a3 a4;go_wp2_with fail
          refine HA2w.out.mono ?_;rintro e w10 ⟨rfl,hb10⟩;have HB10:Hid (Below wr.heap.size wr w10):=HB9.out.trans (hb10.mono HB9.out.size);clear hb10;go_wp2_with fail
          go_meet
          exact⟨rfl,HB10⟩
         ·go_wp2_with fail
          refine HAH1w.out.mono ?_;rintro e w9 ⟨rfl,hb9⟩;have HB9:Hid (Below wr.heap.size wr w9):=HB8.out.trans (hb9.mono HB8.out.size);clear hb9;go_wp2_with fail
          go_meet
          exact⟨rfl,HB9⟩
        case rest =>
         obtain⟨rfl,HB9⟩:=hcut;generalize hwB:wc=w9 at *;clear hwB a0 a1 a2 a3 a4 HAH1w HAH1i HAH2i HYc HB8;have HN9:=zA (HN.out.below HB9.out);clear HN HB9;generalize (q3 || q4)=qh at *;cases qh
         ·have HE1:Hid (qI x.1 y.1 (c+1)=qI x.1 y.1 c):=by have:=HS2i.out;unfold Hid;simpa using this
          go_wp2_with fail
          go_roundw
          case rel=>exact⟨c+1,sv,by omega,by go_num,by rw[HE1.out,HHe.out];exact HN9⟩
          case measure=>simp[intOf];omega
         ·have HE1:Hid (T1++qI x.1 y.1 (c+1)=(T1++qI x.1 y.1 c)++[⟨false,c⟩]):=by have:=HS2i.out;unfold Hid;rw[this];simp
          have hTT:(T1++qI x.1 y.1 c).length<=20000:=by rw[tq];omega
          obtain⟨-,-,⟨d10,d11,d12,d13⟩,dF⟩:=HCx.out _ _ _ _ _ _ _ _ _ _ _ HN9.out;have hs9:=HN9.out.ns.sz;have m3:w.heap.size+1+1+1<w9.heap.size:=by omega
          have m3':w9.heap.size≠w.heap.size+1+1+1:=by omega
          have HTg:=zA (fun (ob:Obj) (wy:World) (v':Value) (zI8:wy.ownsRow (w.heap.size+4) 261 2 v' ((T1++qI x.1 y.1 c).length+1) (Xn (T1++qI x.1 y.1 c)++[.bool false,.int .i64 (c:Nat)])) (hg:(w9.alloc ob).grownBy wy sv.ownBlock)=>(HN9.out.below (ge (t9 _) ob)).tog ⟨false,c⟩ zI8 hg);obtain⟨sa,sc,rfl⟩:=yH HN9.out.sws;have HOs:=zA HN9.out.sws;generalize hTe:T1++qI x.1 y.1 c=TT at *;clear hTe
          go_wp2_with (at_builtin;refine wpList_append_own _ rfl _ _ 179 rfl (w.heap.size+4) 261 i0 _ 2 16 Tryz.underlying179 hi0 hz0 hz1 hz2 rfl (by decide) _ _ _ rfl (HOs.out.alloc _) ⟨w9.heap.size,0,none⟩ 1 1 [.bool false,.int .i64 (c:Nat)] rfl rfl ?c1k1 ?c1k2 ?c1k3 ?c1k4 ?c1k5 ?_)
          try (case c1k1=>first|exact zZ _ _ _ _ rfl|exact fun _ _ h=>h)
          try (case c1k2=>first|exact⟨rfl,rfl⟩|(intro u hu;simp at hu;rcases hu with rfl|rfl <;> rfl)|simp[Value.oneCell'])
          try (case c1k3=>unfold maxLen;omega)
          try (case c1k4=>omega)
          try (case c1k5=>first|omega|(simp;omega))
          intro v12 w12 hown12 hgrow12 _;have HN12:=zA (HTg.out _ w12 v12 hown12 hgrow12)
          have e11:w12.cell? ⟨w.heap.size+1+1+1,11,none⟩=some (.slice sa TT.length sc):=by
           have hb:=hgrow12.block (w.heap.size+1+1+1) (by simp;omega) (fun e=>by have:=(zQ HOs.out _ e.symm).1;omega);rw[l7 (w:=w9.alloc _) (a:=⟨w.heap.size+1+1+1,11,none⟩) hb,l7 (w:=w9) (a:=⟨w.heap.size+1+1+1,11,none⟩) (mq _ _ _ m3)];exact d11
          have f11:w12.frozen? ⟨w.heap.size+1+1+1,11,none⟩=false:=by
           have hb:=hgrow12.block (w.heap.size+1+1+1) (by simp;omega) (fun e=>by have:=(zQ HOs.out _ e.symm).1;omega);rw[dl (w:=w9.alloc _) (a:=⟨w.heap.size+1+1+1,11,none⟩) hb,dl (w:=w9) (a:=⟨w.heap.size+1+1+1,11,none⟩) (mq _ _ _ m3)];exact dF 11
          obtain⟨va,vc,rfl⟩:=yH hown12;clear hown12 hgrow12 d10 d11 d12 d13 dF;go_wp2_with fail
          go_roundw
          case rel=>exact⟨c+1,_,by omega,by go_num,by rw[HE1.out,HHe.out];exact HN12⟩
          case measure=>simp[intOf];omega
       ·have HE1:Hid (qI x.1 y.1 (c+1)=qI x.1 y.1 c):=by have:=HS2i.out;unfold Hid;simpa using this
        have HN8:=zA (HN.out.below HB8.out);obtain⟨-,-,⟨-,-,-,d13⟩,-⟩:=HCx.out _ _ _ _ _ _ _ _ _ _ _ HN8.out;have ch:w8.cell? ⟨gh,c,none⟩=some (.bool (cN x.1 y.1 c c)):=HN8.out.ns.rH.cell zI6;have fh:w8.frozen? ⟨gh,c,none⟩=false:=HN8.out.ns.rH.free c
        have HN9:Hid (Y6 w (w8.setCell ⟨gh,c,none⟩ (.bool true)) x y I.length H gi gh (mD I x.1 y.1) nv sv L (T1++qI x.1 y.1 (c+1)) (cM I I.length) (cN x.1 y.1 (c+1))):=by
         unfold Hid;rw[HE1.out];exact HN8.out.setH zI6 _ HHi.out.1 (fun r _ hr=>HHi.out.2 r hr)
        generalize cN x.1 y.1 c c=old at *;go_wp2_with fail
        go_roundw
        case rel=>exact⟨c+1,sv,by omega,by go_num,HN9⟩
        case measure=>simp[intOf];omega
     ·obtain rfl:c=H:=by omega
      have jj:¬(c:Int)<(c:Int):=by omega
      obtain⟨na,nc,rfl⟩:=yH HN.out.nums;obtain⟨sa,sc,rfl⟩:=yH HN.out.sws;have HAl:=zA (HOne.out (.slice na L.length nc) (.slice sa (T1++qI x.1 y.1 c).length sc) (.slice (some ⟨gi,0,none⟩) I.length I.length) (.slice (some ⟨gh,0,none⟩) c c) rfl rfl rfl rfl);have HRes:=zA HN.out.ns.res;have HHd:=zA HN.out.ns.hd;have HFn:=zA (HPo.out _ gi gh _ _ L (HN.out.done (Bv x y (.slice na L.length nc) (.slice sa (T1++qI x.1 y.1 c).length sc) (.slice (some ⟨gi,0,none⟩) I.length I.length) (.slice (some ⟨gh,0,none⟩) c c))) HP.out);have HIf:=zA (ua x y (.slice na L.length nc) (.slice sa (T1++qI x.1 y.1 c).length sc) (.slice (some ⟨gi,0,none⟩) I.length I.length) (.slice (some ⟨gh,0,none⟩) c c));have HSz:Hid ((Bv x y (.slice na L.length nc) (.slice sa (T1++qI x.1 y.1 c).length sc) (.slice (some ⟨gi,0,none⟩) I.length I.length) (.slice (some ⟨gh,0,none⟩) c c)).size=15):=rfl;generalize Bv x y (.slice na L.length nc) (.slice sa (T1++qI x.1 y.1 c).length sc) (.slice (some ⟨gi,0,none⟩) I.length I.length) (.slice (some ⟨gh,0,none⟩) c c)=SR at *;clear HN
      go_wp2_with (first
       | (refine wpList_load_row ?zIM 184 (.tmp 7) ?ho (w.heap.size+1+1+1) ?hx 184 SR (0,0) _ HHd.out Tryz.underlying184 rfl HIf.out ?_
          case ho=>rfl
          case zIM=>rfl
          case hx=>rfl)
       | (refine wpList_store_row ?zIM 184 (.tmp 6) (.tmp 123) ?ho (w.heap.size+1+1) SR ?hx ?hy 184 Dj HRes.out HIf.out ?zIL HAl.out ?_
          case ho=>rfl
          case zIM=>rfl
          case hx=>rfl
          case hy=>rfl
          case zIL=>rw[HSz.out];rfl))
      refine ph (v:=.agg SR) (results_cell_row Tryz.results71 _ _ (w.heap.size+1+1) 184 SR (0,0) _ rfl (ly _ _ Dj _ _ _ HRes.out) Tryz.underlying184 rfl HIf.out) rfl HFn.out
def Yw:NE:=⟨0,none,0⟩
def zBE(I:List yI)(H:Nat)(e l:vI):Prop:=∃y,fR I H y/\jW e y=true/\jW l y=true
structure sY(I:List yI):Prop where
 num:∀i,i<I.length->xT I i=true->0<=(kX I i).low/\(kX I i).low<=(kX I i).high/\(kX I i).high<=9999
 flag:∀i,i<I.length->xT I i=false->(kX I i).low=0
 few:I.length<=100
def fS(w:World)(b:Nat)(I:List yI)(H:Nat)(x y:MX)(L:List NE)(na:Option Addr)(gn nc:Nat)(sa:Option Addr)(sc gi gh:Nat):SK :=
 ⟨w.heap.size,b,x,y,L.length,fun p=>(L.getD p Yw).place,fun p=>mD I x.1 y.1 (L.getD p Yw).place,fun p=>(L.getD p Yw).za,fun p=>(L.getD p Yw).zc,na,gn,nc,kD I x.1 y.1 I.length++qI x.1 y.1 H,sa,sc,gi,gh,I.length,H⟩
def u9(I:List yI)(H:Nat)(x y:MX):uN:=⟨fun _=>(0,0),fun _=>0,cM I I.length,cN x.1 y.1 H⟩
theorem Xq{I:List yI}{e l:vI}{t:tU}(h:t∈kD I e l I.length++qI e l H):(t.flag=true/\t.place<I.length/\kS e l t.place=true/\xT I t.place=false)\/(t.flag=false/\t.place<H/\uX e l t.place=false/\(vZ e t.place || vZ l t.place)=true):=by
 rcases pt.1 h with h|h
 ·obtain⟨i,hi,rfl⟩:=ml.1 h
  have:=ma.1 hi;simp only[db,tz,Bool.not_eq_true']at this;exact .inl ⟨rfl,this.1,this.2.1,this.2.2⟩
 ·obtain⟨i,hi,rfl⟩:=ml.1 h
  have:=ma.1 hi;simp only[db,tz,Bool.not_eq_true']at this;exact .inr ⟨rfl,this.1,this.2.1,this.2.2⟩
theorem Ds{I:List yI}{e l:vI}(h1:i<I.length)(h2:kS e l i=true)(h3:xT I i=false):(⟨true,i⟩:tU)∈kD I e l I.length++qI e l H :=
 pt.2 (.inl (ml.2 ⟨i,ma.2 ⟨by simpa using h1,by simp[h2,h3]⟩,rfl⟩))
theorem zFM{I:List yI}{e l:vI}{c:Nat}(h1:c<H)(h2:uX e l c=false)(h3:(vZ e c || vZ l c)=true):(⟨false,c⟩:tU)∈kD I e l I.length++qI e l H :=
 pt.2 (.inr (ml.2 ⟨c,ma.2 ⟨by simpa using h1,by rw[h2,h3];rfl⟩,rfl⟩))
theorem tK{I:List yI}{e l:vI}(h:L.map NE.place=vQ I e l)(hp:p<L.length):(L.getD p Yw).place=(vQ I e l).getD p 0:=by
 rw[<-h];simp[List.getD,hp]
theorem V8{I:List yI}{e l:vI}(hp:p<(vQ I e l).length)(hq:q<(vQ I e l).length)(h:(vQ I e l).getD p 0=(vQ I e l).getD q 0):p=q:=by
 have hnd:(vQ I e l).Nodup:=List.Pairwise.filter _ List.nodup_range;rw[l8,l8,pe hp,pe hq]at h;exact(List.getElem_inj hnd).1 h
theorem zHN{I:List yI}(hL:L.map NE.place=vQ I x.1 y.1)(hI:sY I)(fH:H<=10000)(hzf:∀i,(mD I x.1 y.1 i).length<=100000)(l1:w.heap.size<=b)(l2:w.heap.size<=gi)(l3:w.heap.size<=gh)(l4:0<L.length->w.heap.size<=gn):Q4 (fS w b I H x y L na gn nc sa sc gi gh):=by
 have hl:L.length=(vQ I x.1 y.1).length:=by rw[<-hL,ms]
 have zIC:(vQ I x.1 y.1).length<=I.length:=X7 I x.1 y.1 I.length;have h1:=Jc I x.1 y.1 I.length;have h2:=Jb x.1 y.1 H;have hf:=hI.few
 have hm:∀p,p<L.length->(L.getD p Yw).place<I.length/\kS x.1 y.1 (L.getD p Yw).place=true/\xT I (L.getD p Yw).place=true:=fun p hp=>by
  rw[tK hL hp];exact lO.1 (oD (by omega))
 refine⟨l1,l2,l3,l4,by show L.length<=100;omega,by show I.length<=10000;omega,fH,by show (_++_:List tU).length<=20000;rw[tq];omega,fun p _=>hzf _,fun p hp=>(hm p hp).1,fun p q hp hq e=>?_,fun p hp t ht h=>?_,fun t ht hf=>?_,fun t ht hf=>?_⟩
 ·have e':(vQ I x.1 y.1).getD p 0=(vQ I x.1 y.1).getD q 0:=by rw[<-tK hL hp,<-tK hL hq];exact e
  exact V8 (hl ▸ hp) (hl ▸ hq) e'
 ·rcases Xq ht with ⟨_,_,_,h9⟩|⟨h9,_⟩
  ·rw[h.2]at h9;have:=(hm p hp).2.2;rw[show (fS w b I H x y L na gn nc sa sc gi gh).P p=(L.getD p Yw).place from rfl,this]at h9;cases h9
  ·rw[h.1]at h9;cases h9
 ·rcases Xq ht with ⟨_,h9,_⟩|⟨h9,_⟩
  ·exact h9
  ·rw[hf]at h9;cases h9
 ·rcases Xq ht with ⟨h9,_⟩|⟨_,h9,_⟩
  ·rw[hf]at h9;cases h9
  ·exact h9
theorem js(l:List Bool)(c:Nat):pI l (c:Int)=(decide (c<l.length)&&l.getD c false):=by
 unfold pI;rw[tm (show (0:Int)<=(c:Int) by omega),md];by_cases h:c<l.length
 ·rw[tm h,tm (show (c:Int)<(l.length:Int) by omega)];rfl
 ·rw[th h,th (show ¬(c:Int)<(l.length:Int) by omega)];rfl
theorem zC6{I:List yI}{s':uN}(hL:L.map NE.place=vQ I x.1 y.1)(hI:sY I)(hpe:iX x.1 I.length (xT I))(hpl:iX y.1 I.length (xT I))(hneH:∀c,uX x.1 y.1 c=true->c<H)(haH:∀c,(vZ x.1 c || vZ y.1 c)=true->c<H)
 (h:Zx (qY (fS w b I H x y L na gn nc sa sc gi gh)) L.length (fun p=>(L.getD p Yw).place) (fun p=>mD I x.1 y.1 (L.getD p Yw).place) (kD I x.1 y.1 I.length++qI x.1 y.1 H) 0 (u9 I H x y) s' false):¬zBE I H x.1 y.1:=by
 rintro⟨v,hv,h1,h2⟩;have hl:L.length=(vQ I x.1 y.1).length:=by rw[<-hL,ms]
 obtain⟨Z,hZl,hZ,rk,hrl,hrr,o,ho,ht⟩:=Vs hpe hpl (fun i hi hn=>⟨(hI.num i hi hn).1,(hI.num i hi hn).2.2⟩) hv h1 h2
 obtain⟨F,hF⟩:∃F:Nat->Int,(∀p,p<L.length->F (L.getD p Yw).place=o.getD (rk.getD p 0) 0)/\∀i,(∀p,p<L.length->(L.getD p Yw).place≠i)->F i=if kS x.1 y.1 i=true/\xT I i=false/\i<I.length then v.inputs.getD i 0 else cM I I.length i:=by
  refine⟨fun i=>if hq:∃p,p<L.length/\(L.getD p Yw).place=i then o.getD (rk.getD (Classical.choose hq) 0) 0 else if kS x.1 y.1 i=true/\xT I i=false/\i<I.length then v.inputs.getD i 0 else cM I I.length i,fun p hp=>?_,fun i hi=>?_⟩
  ·have hq:∃q,q<L.length/\(L.getD q Yw).place=(L.getD p Yw).place:=⟨p,hp,rfl⟩
   simp only[hq,dite_true];have hc:=Classical.choose_spec hq;have e':(vQ I x.1 y.1).getD (Classical.choose hq) 0=(vQ I x.1 y.1).getD p 0:=by rw[<-tK hL hc.1,<-tK hL hp];exact hc.2
   rw[V8 (hl ▸ hc.1) (hl ▸ hp) e']
  ·have hq:¬ ∃p,p<L.length/\(L.getD p Yw).place=i:=fun ⟨p,hp,e⟩=>hi p hp e
   simp only[hq,dite_false]
 obtain⟨t,htd⟩:∃t:uN,t=⟨fun _=>(0,0),fun _=>0,F,fun c=>uX x.1 y.1 c || ((vZ x.1 c || vZ y.1 c)&&pI v.has (c:Int))⟩:=⟨_,rfl⟩;have hoff:∀i,Gl (kD I x.1 y.1 I.length++qI x.1 y.1 H) i->¬(kS x.1 y.1 i=true/\xT I i=false/\i<I.length):=fun i hi hh=>hi _ (Ds hh.2.2 hh.1 hh.2.1) ⟨rfl,rfl⟩
 have hrest:cS L.length (fun p=>(L.getD p Yw).place) (kD I x.1 y.1 I.length++qI x.1 y.1 H) (u9 I H x y) t:=by
  rw[htd];refine⟨fun i hp hi=>?_,fun c hc=>?_⟩
  ·show F i=cM I I.length i
   rw[hF.2 i hp,tg (hoff i hi)]
  ·show (uX x.1 y.1 c || ((vZ x.1 c || vZ y.1 c)&&pI v.has (c:Int)))=cN x.1 y.1 H c
   unfold cN;cases hn:uX x.1 y.1 c
   ·cases ha:(vZ x.1 c || vZ y.1 c)
    ·simp
    ·exact absurd ⟨rfl,rfl⟩ (hc _ (zFM (haH c ha) hn ha))
   ·rw[tm (hneH c hn)];simp
 have zJ4:=h.no rfl (fun p=>Z.getD p (0,0)) (fun p hp=>absurd hp (by omega)) (fun p hp=>by rw[tK hL hp];exact hZ p (by omega)) (fun p=>rk.getD p 0) (fun p hp=>by
  have hp2:p<rk.length:=by omega
  have:=hrr (rk.getD p 0) (by simp[List.getD,hp2])
  omega) o (by
  have e:dH L.length (fun p=>Z.getD p (0,0)) (fun p=>rk.getD p 0)=nC Z rk:=by unfold dH nC;rw[hZl,hl]
  rw[e];exact ho) t hrest (fun p hp=>by rw[htd];exact hF.1 p hp) (fun q hq hqf=>by
  rcases Xq hq with ⟨_,g1,g2,g3⟩|⟨g1,_⟩
  ·have hpn:∀p,p<L.length->(L.getD p Yw).place≠q.place:=fun p hp e=>by
    rw[tK hL hp]at e;have:=(lO.1 (oD (I:=I) (e:=x.1) (l:=y.1) (p:=p) (by omega))).2.2;rw[e,g3]at this;cases this
   rw[htd];show F q.place=0\/F q.place=1;rw[hF.2 _ hpn,tl ⟨g2,g3,g1⟩];exact hv.flag _ g1 g3
  ·rw[hqf]at g1;cases g1)
 have htry:zEX I x.1 y.1 rk o v (eT (fS w b I H x y L na gn nc sa sc gi gh) t):=by
  have zIK:∀i,i<I.length->(eT (fS w b I H x y L na gn nc sa sc gi gh) t).inputs.getD i 0=t.inp i:=fun i hi=>by simp[eT,fS,List.getD,hi]
  have hhas:∀c:Nat,pI (eT (fS w b I H x y L na gn nc sa sc gi gh) t).has (c:Int)=(decide (c<H)&&t.has c):=fun c=>by
   rw[js];by_cases hc:c<H
   ·simp[eT,fS,List.getD,hc]
   ·simp[eT,fS,hc]
  refine⟨by simp[eT,fS],fun p hp=>?_,fun i hi ha hn=>?_,fun c hc=>?_,fun c hc ha=>?_⟩
  ·have hm:=lO.1 (oD hp)
   rw[zIK _ hm.1,htd,<-tK hL (show p<L.length by omega)];exact hF.1 p (by omega)
  ·have hpn:∀p,p<L.length->(L.getD p Yw).place≠i:=fun p hp e=>by
    rw[tK hL hp]at e;have:=(lO.1 (oD (I:=I) (e:=x.1) (l:=y.1) (p:=p) (by omega))).2.2;rw[e,hn]at this;cases this
   rw[zIK i hi,htd];show F i=_;rw[hF.2 i hpn,tl ⟨ha,hn,hi⟩]
  ·rw[hhas,tm (hneH c hc),htd]
   show (true&&(uX x.1 y.1 c || _))=true;rw[hc];rfl
  ·rw[hhas,tm (haH c ha),htd]
   show (true&&(uX x.1 y.1 c || ((vZ x.1 c || vZ y.1 c)&&pI v.has (c:Int))))=_;rw[hc,ha];simp
 have:=ht _ htry;unfold qY at zJ4;rw[show (fS w b I H x y L na gn nc sa sc gi gh).e.1=x.1 from rfl,show (fS w b I H x y L na gn nc sa sc gi gh).l.1=y.1 from rfl,this.1,this.2]at zJ4;cases zJ4
theorem uf{I:List yI}{s':uN}(hL:L.map NE.place=vQ I x.1 y.1)(hI:sY I)
 (h:Zx (qY (fS w b I H x y L na gn nc sa sc gi gh)) L.length (fun p=>(L.getD p Yw).place) (fun p=>mD I x.1 y.1 (L.getD p Yw).place) (kD I x.1 y.1 I.length++qI x.1 y.1 H) 0 (u9 I H x y) s' true):fR I H (eT (fS w b I H x y L na gn nc sa sc gi gh) s')/\jW x.1 (eT (fS w b I H x y L na gn nc sa sc gi gh) s')=true/\jW y.1 (eT (fS w b I H x y L na gn nc sa sc gi gh) s')=true:=by
 have hl:L.length=(vQ I x.1 y.1).length:=by rw[<-hL,ms]
 obtain⟨hb,hbit,Z,rk,o,hZ,hrk,ho,hn⟩:=h.yes rfl;have zIK:∀i,i<I.length->(eT (fS w b I H x y L na gn nc sa sc gi gh) s').inputs.getD i 0=s'.inp i:=fun i hi=>by simp[eT,fS,List.getD,hi]
 have hlow:∀i,i<I.length->(∀p,p<L.length->(L.getD p Yw).place≠i)->¬(kS x.1 y.1 i=true/\xT I i=false)->s'.inp i=(kX I i).low:=fun i hi hp hna=>by
  rw[h.rest.inp i hp (fun t ht hh=>by
   rcases Xq ht with ⟨_,g1,g2,g3⟩|⟨g1,_⟩
   ·exact hna ⟨hh.2 ▸ g2,hh.2 ▸ g3⟩
   ·rw[hh.1]at g1;cases g1)]
  show cM I I.length i=_;unfold cM;rw[tl hi]
 refine⟨⟨by simp[eT,fS],by simp[eT,fS],fun i hi zIY=>?_,fun i hi hfl=>?_⟩,?_⟩
 ·rw[zIK i hi]
  have hr:=hI.num i hi zIY;by_cases ha:kS x.1 y.1 i=true
  ·obtain⟨p,hp,e⟩:=YR hi ha zIY
   have hp2:p<L.length:=by omega
   have e2:=tK hL hp2;rw[e]at e2
   have hs:=Xv (L:=dH L.length Z rk) (fun z hz=>by
    obtain⟨q,hq,rfl⟩:=ml.1 hz;rw[sZ];exact hrk q (by simpa using hq)) ho ⟨(Z p).1,(Z p).2,rk p⟩ (ml.2 ⟨p,by simpa using hp2,rfl⟩)
   have hnp:=hn p hp2;simp only at hnp hs;rw[e2]at hnp;rw[hnp];have hzo:=(Xh (kX I i).low (kX I i).high (xQ x.1 i) (xQ y.1 i)).sub (Z p) (by have:=hZ p hp2;rw[e2]at this;exact this);omega
  ·rw[hlow i hi (fun p hp e=>ha (by
    have:=(lO.1 (oD (I:=I) (e:=x.1) (l:=y.1) (p:=p) (by omega))).2.1;rw[tK hL hp]at e;rw[e]at this;exact this)) (fun hh=>ha hh.1)]
   omega
 ·rw[zIK i hi]
  by_cases ha:kS x.1 y.1 i=true
  ·exact hbit _ (Ds hi ha hfl) rfl
  ·rw[hlow i hi (fun p hp e=>ha (by
    have:=(lO.1 (oD (I:=I) (e:=x.1) (l:=y.1) (p:=p) (by omega))).2.1;rw[tK hL hp]at e;rw[e]at this;exact this)) (fun hh=>ha hh.1)]
   exact .inl (hI.flag i hi hfl)
 ·unfold qY at hb
  rw[tz]at hb;exact hb
def zHA:MX:=(⟨[],0,[],[],0⟩,.slice none 0 0,.slice none 0 0)
def tO(rs:List MX)(i:Nat):MX:=rs.getD i zHA
structure KU(w:World)(b o:Nat)(I:List yI)(C:List (Bs × Nat))(rs:List MX)(G:List Bool):Prop where
 inp:∃a c,w.cell? ⟨b,o,none⟩=some (.slice a I.length c)/\uS w 258 a (I.flatMap kJ)
 con:∃a c,w.cell? ⟨b,o+1,none⟩=some (.slice a C.length c)/\uS w 122 a (Yx C)
 rul:∃a c,w.cell? ⟨b,o+2,none⟩=some (.slice a rs.length c)/\uS w 176 a (rs.flatMap cZ)
 rows:∀x∈rs,kM w x
 gr:zHF w b (o+3) G
 few1:I.length<=100
 few2:C.length<=10000
 few3:rs.length<=10000
theorem KU.below{o:Nat}{I:List yI}(h:KU w b o I C rs G)(hb:Below w.heap.size w w'):KU w' b o I C rs G:=by
 obtain⟨a1,c1,p1,q1⟩:=h.inp;obtain⟨a2,c2,p2,q2⟩:=h.con;obtain⟨a3,c3,p3,q3⟩:=h.rul;exact⟨⟨a1,c1,(hb.cell (p:=⟨b,o,none⟩) (zP p1)).trans p1,q1.below hb⟩,⟨a2,c2,(hb.cell (p:=⟨b,o+1,none⟩) (zP p2)).trans p2,q2.below hb⟩,⟨a3,c3,(hb.cell (p:=⟨b,o+2,none⟩) (zP p3)).trans p3,q3.below hb⟩,fun x hx=>(h.rows x hx).below hb,h.gr.below hb,h.few1,h.few2,h.few3⟩
theorem Zf(h:jX w a (rs.flatMap cZ))(hi:i<rs.length):∃g,a=some ⟨g,0,none⟩/\w.cell? ⟨g,i*5,none⟩=some (.string ⟨(tO rs i).1.label.toArray⟩)/\w.cell? ⟨g,i*5+1,none⟩=some (.int .i64 (tO rs i).1.conc)/\w.cell? ⟨g,i*5+2,none⟩=some (tO rs i).2.1/\w.cell? ⟨g,i*5+3,none⟩=some (tO rs i).2.2/\w.cell? ⟨g,i*5+4,none⟩=some (.int .i64 (tO rs i).1.root):=by
 obtain⟨g,e,c0⟩:=h.at ((zV cZ 5 (fun _=>rfl) zHA rs i 0 hi (by decide)).trans rfl);obtain⟨g1,e1,c1⟩:=h.at ((zV cZ 5 (fun _=>rfl) zHA rs i 1 hi (by decide)).trans rfl);obtain⟨g2,e2,c2⟩:=h.at ((zV cZ 5 (fun _=>rfl) zHA rs i 2 hi (by decide)).trans rfl);obtain⟨g3,e3,c3⟩:=h.at ((zV cZ 5 (fun _=>rfl) zHA rs i 3 hi (by decide)).trans rfl);obtain⟨g4,e4,c4⟩:=h.at ((zV cZ 5 (fun _=>rfl) zHA rs i 4 hi (by decide)).trans rfl);obtain rfl:g=g1:=by rw[e]at e1;simpa using e1
 obtain rfl:g=g2:=by rw[e]at e2;simpa using e2
 obtain rfl:g=g3:=by rw[e]at e3;simpa using e3
 obtain rfl:g=g4:=by rw[e]at e4;simpa using e4
 exact⟨g,e,c0,c1,c2,c3,c4⟩
theorem aF(h:i<rs.length):tO rs i∈rs:=by simp[tO,List.getD,h]
def BN(rs:List MX)(G:List Bool)(i j:Nat):Bool:=decide ((tO rs i).1.conc=(tO rs j).1.conc)&&(!ZP G (i:Int) (j:Int) && !ZP G (j:Int) (i:Int))
theorem UF(w:World)(b o:Nat)(I:List yI)(C:List (Bs × Nat))(rs:List MX)(G:List Bool)(i j:Nat)(h:KU w b o I C rs G)(hi:i<rs.length)(hj:j<rs.length) :
 Calls Tryz.prog 70 #[.pointer (some ⟨b,o,none⟩),.int .i64 (i:Nat),.int .i64 (j:Nat)] w fun e w'=>e=.returned (.bool (BN rs G i j))/\Below w.heap.size w w':=by
 obtain⟨a,c,h2,hr⟩:=h.rul;obtain⟨g,rfl,-,ci,-,-,-⟩:=Zf hr.cel hi;obtain⟨g',e',-,cj,-,-,-⟩:=Zf hr.cel hj;obtain rfl:g=g':=by simpa using e'
 have hf:=h.few3;have ii:(i:Int)<(rs.length:Int):=by omega
 have jj:(j:Int)<(rs.length:Int):=by omega
 have HR:Hid (BN rs G i j=(decide ((tO rs i).1.conc=(tO rs j).1.conc)&&(!ZP G (i:Int) (j:Int) && !ZP G (j:Int) (i:Int)))):=rfl;have HS1:=zA (fun w' (hb:Below w.heap.size w w')=>eJ w' b o G (i:Int) (j:Int) (h.gr.below hb));have HS2:=zA (fun w' (hb:Below w.heap.size w w')=>eJ w' b o G (j:Int) (i:Int) (h.gr.below hb));clear h hr e';generalize BN rs G i j=ans at *;generalize ZP G (i:Int) (j:Int)=s1 at *;generalize ZP G (j:Int) (i:Int)=s2 at *;generalize (tO rs i).1.conc=k1 at *;generalize (tO rs j).1.conc=k2 at *
 go_enter Tryz.func70,Tryz.ntmps70
 by_cases hk:k1=k2
 ·have HR2:Hid (ans=(!s1 && !s2)):=by have:=HR.out;rw[tm hk,md]at this;exact this
  subst hk;go_wp2_with fail
  go_quiet (fail)
  have HBq:Hid (Below w.heap.size w (w.drewN nq)):=yA (tj _ _) nq;generalize w.drewN nq=wq at *;have HS1w:=zA (HS1.out wq HBq.out);have HS2w:=zA (HS2.out wq HBq.out);clear HS1 HS2 HR;cases s1
  ·have HR3:Hid (ans = !s2):=by have:=HR2.out;simpa[Hid] using this
   go_wp2_with fail
   refine HS1w.out.mono ?_;rintro e w' ⟨rfl,hw⟩;obtain rfl:=hw.symm;go_wp2_with fail
   refine HS2w.out.mono ?_;rintro e w' ⟨rfl,hw⟩;obtain rfl:=hw.symm;go_wp2_with fail
   go_ret
   exact⟨zE HR3.out.symm,HBq.out⟩
  ·have HR3:Hid (ans=false):=by have:=HR2.out;simpa[Hid] using this
   go_wp2_with fail
   refine HS1w.out.mono ?_;rintro e w' ⟨rfl,hw⟩;obtain rfl:=hw.symm;go_wp2_with fail
   go_ret
   exact⟨zE HR3.out.symm,HBq.out⟩
 ·have HR2:Hid (ans=false):=by have:=HR.out;rw[th hk,l5]at this;exact this
  have b1:(k1==k2)=false:=by simpa using hk
  have b2:(k1 != k2)=true:=by simp only[bne,b1];rfl
  clear hk;go_wp2_with fail
  go_quiet (fail)
  go_wp2_with fail
  go_ret
  exact⟨zE HR2.out.symm,yA (tj _ _) _⟩
def xg(I:List yI)(H:Nat)(rs:List MX)(G:List Bool)(i j:Nat):Prop:=i<j/\j<rs.length/\BN rs G i j=true/\zBE I H (tO rs i).1 (tO rs j).1
structure Q5(I:List yI)(H:Nat)(r:vI):Prop where
 pl:iX r I.length (xT I)
 nd:∀c,lR r c=true->c<H
 ah:∀c,vZ r c=true->c<H
 bd:∀i z,z∈xQ r i -> -1000000<=z/\z<=1000000
theorem Di(I:List yI)(x y:vI)(h1:x.guard.length<=10000)(h2:y.guard.length<=10000)(i:Nat):(mD I x y i).length<=100000:=by
 unfold mD nW;have a1:=fA (KC (kX I i).low (kX I i).high) (xQ x i) (xQ x i).length (t9 _);rw[lj]at a1;have a2:=fA a1.1 (xQ y i) (xQ y i).length (t9 _);rw[lj]at a2;have:=a1.2;have:=a2.2;have:=oP x i;have:=oP y i;simp only[p7,List.length_nil]at *;omega
def Q3(I:List yI)(H:Nat)(x y:MX)(B b gi gh:Nat)(w w':World)(e:Ending):Prop:=∃r,e=.returned (.bool r)/\Below B w w'/\(r=false->¬zBE I H x.1 y.1)/\(r=true->∃(f:Nat->Int) (g:Nat->Bool),(w'.cell? ⟨b,12,none⟩=some (.slice (some ⟨gi,0,none⟩) I.length I.length)/\w'.cell? ⟨b,13,none⟩=some (.slice (some ⟨gh,0,none⟩) H H)/\w'.cell? ⟨b,14,none⟩=some (.slice none 0 0))/\jD w' gi 3 I.length (fun i=>.int .i64 (f i))/\jD w' gh 4 H (fun c=>.bool (g c))/\fR I H ⟨(List.range I.length).map f,(List.range H).map g,[]⟩/\jW x.1 ⟨(List.range I.length).map f,(List.range H).map g,[]⟩=true/\jW y.1 ⟨(List.range I.length).map f,(List.range H).map g,[]⟩=true)
theorem zFY(F:Nat->List (Int × Int))(L:List NE)(p:Nat)(hp:p<L.length)(r:Nat)(hr:r<5):(iG F L)[p*5+r]? = (zEN F (L.getD p Yw))[r]? := zV (zEN F) 5 (fun _=>rfl) Yw L p r hp hr
theorem zFP(w wr:World)(b:Nat)(I:List yI)(H:Nat)(x y:MX)(gi gh:Nat)(nv sv:Value)(L:List NE)(hN:zGZ w wr I.length H gi gh (mD I x.1 y.1) nv sv L (kD I x.1 y.1 I.length++qI x.1 y.1 H) (cM I I.length) (cN x.1 y.1 H))(hL:L.map NE.place=vQ I x.1 y.1)(hb:wr.heap[b]? = some (.cells (Bv x y nv sv (.slice (some ⟨gi,0,none⟩) I.length I.length) (.slice (some ⟨gh,0,none⟩) H H)) 184 (0,0)))(hlb:w.heap.size<=b)(hI:sY I)(fH:H<=10000)(hx:kM w x)(hy:kM w y)(ox:Q5 I H x.1)(oy:Q5 I H y.1) :
 Calls Tryz.prog 72 #[.pointer (some ⟨b,0,none⟩),.int .i64 0] wr fun e w'=>Q3 I H x y w.heap.size b gi gh wr w' e:=by
 obtain⟨na,nc,rfl⟩:=yH hN.nums;obtain⟨sa,sc,rfl,hsw⟩:=jP hN.sws;have hzf:=Di I x.1 y.1 hx.few2 hy.few2
 obtain⟨gn,hgn1,hgn2⟩:∃gn,(0<L.length->na=some ⟨gn,0,none⟩/\jD wr gn 268 (5*L.length) (fun j=>(iG (mD I x.1 y.1) L).getD j (.slice none 0 0)))/\(0<L.length->w.heap.size<=gn):=by
  rcases hN.nums.2 with ⟨_,k2⟩|⟨g,cap,yW,k1,k2,k3,k4,k5,k6,k7⟩
  ·exact⟨0,fun h=>absurd h (by omega),fun h=>absurd h (by omega)⟩
  ·simp only[Value.slice.injEq]at k1
   refine⟨g,fun _=>⟨k1.1,yW,k3,fun j hj=>?_⟩,fun _=>by omega⟩;have hl:(iG (mD I x.1 y.1) L).length=L.length*5:=hN.nums.1;have hj2:j<(iG (mD I x.1 y.1) L).length:=by omega
   have:=xB k3 (n:=L.length*5) k7 (pe hj2);rw[zD k3 j]at this;rw[this];simp[List.getD,hj2]
 have ok:=zHN (b:=b) (na:=na) (gn:=gn) (nc:=nc) (sa:=sa) (sc:=sc) (gi:=gi) (gh:=gh) hL hI fH hzf hlb hN.loi hN.loh hgn2
 have hM:tB wr (fS w b I H x y L na gn nc sa sc gi gh) (u9 I H x y):=by
  refine⟨hb,fun h0=>⟨(hgn1 h0).1,?_⟩,hN.rI,hN.rH,hsw,fun p hp=>?_,hx.below hN.bel,hy.below hN.bel⟩
  ·obtain⟨cs,q1,q2⟩:=(hgn1 h0).2
   refine⟨cs,q1,fun j hj=>?_⟩;rw[q2 j hj];have hj5:j/5<L.length:=by have:j<5*L.length:=hj;omega
   have hr:j%5<5:=Nat.mod_lt _ (by decide);have zJ8:=zFY (mD I x.1 y.1) L (j/5) hj5 (j%5) hr;rw[show j/5*5+j%5=j by omega]at zJ8;show some ((iG (mD I x.1 y.1) L).getD j (.slice none 0 0))=_;rw[l8,zJ8];unfold aU fS u9;rcases(show j%5=0\/j%5=1\/j%5=2\/j%5=3\/j%5=4 by omega) with h|h|h|h|h <;> rw[h] <;> simp[zEN]
  ·have hm:L.getD p Yw∈L:=by simp[List.getD,show p<L.length from hp]
   exact hN.zn _ hm
 refine(QR _ ok L.length 0 wr _ (by show 0+L.length=L.length;omega) (fun p hp=>absurd hp (by omega)) hM).mono ?_;rintro e w' ⟨r,s',rfl,h1,h2,h3⟩;refine⟨r,rfl,h2,fun hr=>?_,fun hr=>?_⟩
 ·subst hr
  refine zC6 hL hI ox.pl oy.pl (fun c hc=>?_) (fun c hc=>?_) h3
  ·unfold uX at hc;rcases(mz _ _).mp hc with h|h
   ·exact ox.nd c h
   ·exact oy.nd c h
  ·rcases(mz _ _).mp hc with h|h
   ·exact ox.ah c h
   ·exact oy.ah c h
 ·subst hr
  obtain⟨k1,k2,k3⟩:=uf hL hI h3;exact⟨s'.inp,s'.has,⟨h1.cells 12,h1.cells 13,h1.cells 14⟩,h1.rI,h1.rH,k1,k2,k3⟩
theorem zGZ.below(k:zGZ w wr n h gi gh F nv sv L T inp has)(hb:Below wr.heap.size wr wy):zGZ w wy n h gi gh F nv sv L T inp has :=
 ⟨k.bel.trans (hb.mono k.bel.size),wQ k.nums hb,fun q hq=>(k.zn q hq).below hb,wQ k.sws hb,k.rI.below hb,k.rH.below hb,k.loi,k.loh⟩
theorem ug(w w2:World)(I:List yI)(H:Nat)(x y:MX)(e:Ending)(hp:KS I H x y w w2 e)(hI:sY I)(fH:H<=10000)(hx:kM w x)(hy:kM w y)(ox:Q5 I H x.1)(oy:Q5 I H y.1):∃SR gi gh,e=.returned (.agg SR)/\SR.size=15/\(Tryz.prog.info? 184).map (·.size)=some SR.size/\SR.all (·.oneCell')=true/\Below w.heap.size w w2/\∀(b:Nat) (wr:World),Below w2.heap.size w2 wr->w2.heap.size<=b->wr.heap[b]? = some (.cells SR 184 (0,0))->Calls Tryz.prog 72 #[.pointer (some ⟨b,0,none⟩),.int .i64 0] wr fun e w'=>Q3 I H x y w.heap.size b gi gh wr w' e:=by
 obtain⟨gi,gh,nv,sv,L,rfl,hN,hL⟩:=hp;have hb:=hN.bel;obtain⟨a1,c1,e1,-⟩:=hx.sum;obtain⟨a2,c2,e2,-⟩:=hx.guard;obtain⟨a3,c3,e3,-⟩:=hy.sum;obtain⟨a4,c4,e4,-⟩:=hy.guard;obtain⟨na,nc,e5⟩:=yH hN.nums;obtain⟨sa,sc,e6⟩:=yH hN.sws;refine⟨_,gi,gh,rfl,rfl,ua _ _ _ _ _ _,Dt (by rw[e1];rfl) (by rw[e2];rfl) (by rw[e3];rfl) (by rw[e4];rfl) (by rw[e5];rfl) (by rw[e6];rfl) rfl rfl,hb,fun b wr h1 h2 h3=>zFP w wr b I H x y gi gh nv sv L (hN.below h1) hL h3 (by have:=hb.size;omega) hI fH hx hy ox oy⟩
theorem YS(h:uO ls){x:zF}(hx:x∈ls)(hk:x.kind=3):∀y∈x.nd,vC ls y=true:=by
 obtain⟨i,hi,rfl⟩:=XI hx;have he:=h.err i hi;unfold pS at he;rw[tg (by omega),tg (by omega),tl hk]at he;unfold bM at he
 have hb:(vR (ls.take i) 3 (lA ls i).name || ((lA ls i).sum.any (fun x => !kH ls x) || (lA ls i).nd.any (fun x => !vC ls x)))=false:=by
  cases hc:(vR (ls.take i) 3 (lA ls i).name || ((lA ls i).sum.any (fun x => !kH ls x) || (lA ls i).nd.any (fun x => !vC ls x))) with
  | false=>rfl
  | true=>rw[hc,tl rfl]at he;exact absurd he (by decide)
 rw[ld,ld]at hb;intro y hy;have:=List.any_eq_false.1 hb.2.2 y hy;simpa using this
theorem zG2{y:zX}(h:vC ls y=true)(k:y.kind=5):jZ ls y.name=true:=by unfold vC at h;rwa [tl k]at h
theorem DA{y:zX}(h:vC ls y=true)(k:y.kind=6):vR ls 2 y.name=true:=by unfold vC at h;rwa [tg (by omega),tl k]at h
theorem Ks{y:zX}(h:vC ls y=true)(k:y.kind=7):vR ls 1 y.name=true/\(y.other≠[]->vR ls 1 y.other=true):=by
 unfold vC at h;rw[tg (by omega),tg (by omega),tl k,tz,mz,py]at h;exact⟨h.2,fun ho=>h.1.resolve_left ho⟩
theorem Xa(h:uO ls){nm:Bs}{k:Int}(hk:k=1\/k=2)(hh:vR ls k nm=true):∃i:Nat,zH (xI ls) nm=i/\i<(yG ls).length/\xT (yG ls) i=decide (k=1):=by
 obtain⟨z,z1,z2,z3⟩:=jh hh;have hz:z∈DV ls:=DU z1 (by omega);have hm:nm∈xI ls:=by rw[XY];exact ml.2 ⟨z,hz,z3⟩
 have h0:=(fM _ _).2 hm;have h1:=cP (xI ls) nm;obtain⟨i,hi⟩:∃i:Nat,zH (xI ls) nm=i:=⟨(zH (xI ls) nm).toNat,by omega⟩;have zI6:i<(yG ls).length:=by rw[<-tR];omega
 have zJ8:=((J3 nm (xI ls) (XX h) 0 i).1 (by rw[lu];exact hi)).2;obtain⟨x,x1,-,x3,x4⟩:=nH zI6;have e:x=z:=K8 h x1 hz (by rw[<-x4,zJ8,z3]);refine⟨i,hi,zI6,?_⟩;unfold xT;rw[x3,e,mQ (aJ hz),z2]
theorem K9(h:uO ls){nm:Bs}(hh:jZ ls nm=true):zH (xI ls) nm<0/\∃c:Nat,zH (zT ls) nm=c/\c<(zT ls).length:=by
 have h0:0<=zH (zT ls) nm:=(fM _ _).2 ((Ju _ _).2 hh);have h1:=cP (zT ls) nm;refine⟨?_,(zH (zT ls) nm).toNat,by omega,by omega⟩;rcases cr (zH (xI ls) nm) 0 with h1|h1
 ·exact h1
 ·have:=h.apart ((fM _ _).1 h1);rw[hh]at this;cases this
theorem bT(hA:yP ls us):yT us=xI ls++zT ls:=by unfold yT;rw[lD hA,Qa hA]
theorem zEL(hA:yP ls us)(h:uO ls){x:zF}(hx:x∈ls)(hk:x.kind=3)(hL:LT x u)(hku:cA u 0=zR):zEF (yT us).length (aT ls) (dK (yT us) u).steps:=by
 obtain⟨w,hr⟩:=hL.rule hku;obtain⟨k,y0,hg⟩:=hr.gr
 have eS:(dK (yT us) u).steps=vN (yT us) (u.length+1) (u.drop (w+1)):=by
  show vN (yT us) (u.length+1) (u.drop (iZ u+1))=_;rw[hr.wAt]
 have hLn:(yT us).length=(yG ls).length+(zT ls).length:=by rw[bT hA,tq,tR]
 have inpA':∀ {nm:Bs} {k:Int},k=1\/k=2->vR ls k nm=true->∃a:Nat,zH (yT us) nm=a/\a<(yT us).length/\aT ls a=decide (k=1):=fun {nm k} hk hh=>by
  obtain⟨i,h1,h2,h3⟩:=Xa h hk hh;refine⟨i,?_,by omega,?_⟩
  ·rw[bT hA,dW,tl (by omega),h1]
  ·unfold aT;rw[tm h2,md,h3]
 rw[eS];intro s hs;rcases Jd (names:=yT us) hg (u.length+1) (by rw[ty];omega) s hs with h0|h0|⟨y,hy,hyk,rfl⟩|⟨y,hy,hyk,-,rfl⟩|⟨y,hy,hyk,ho,rfl⟩
 ·exact⟨fun e=>by omega,fun e=>by omega,fun e=>by omega,by omega⟩
 ·exact⟨fun e=>by omega,fun e=>by omega,fun e=>by omega,by omega⟩
 ·have hn:=YS h hx hk y hy
  refine⟨fun _=>?_,fun e=>absurd e (by simp),fun e=>absurd e (by simp),by simp⟩;rcases hyk with k5|k6
  ·obtain⟨h1,c,h2,h3⟩:=K9 h (zG2 hn k5)
   refine⟨(yG ls).length+c,?_,by omega,?_⟩
   ·show zH (yT us) y.name=_
    rw[bT hA,dW,tg (by omega),tl (by omega),h2,tR];omega
   ·unfold aT;rw[th (by omega)];rfl
  ·exact inpA' (.inr rfl) (DA hn k6)
 ·have hn:=Ks (YS h hx hk y hy) hyk
  exact⟨fun e=>absurd e (by simp),fun _=>inpA' (.inl rfl) hn.1,fun e=>absurd e (by simp),by simp⟩
 ·have hn:=Ks (YS h hx hk y hy) hyk
  exact⟨fun e=>absurd e (by simp),fun e=>absurd e (by simp),fun _=>⟨inpA' (.inl rfl) hn.1,inpA' (.inl rfl) (hn.2 ho)⟩,by simp⟩
theorem qx{N:List zX}(hg:cT N){y:zX}(hy:y∈N)(hk:y.kind=7):0<=y.num/\y.num<=9999:=by
 obtain⟨a,ha,rfl⟩:=f8 hy;have e:kE N a=N[a]:=by unfold kE;simp[List.getD,ha]
 have:=(hg a ha).2.2.2 (by rw[e];omega) (by rw[e];omega) (by rw[e];omega);rw[e]at this;exact this.2
theorem zFR(h:uO ls){x:zF}(hx:x∈ls)(hk:x.kind=3)(hg:gE x):Q5 (yG ls) (zT ls).length (uR (xI ls) (zT ls) x):=by
 have hN:=YS h hx hk;have mem:∀y∈(uR (xI ls) (zT ls) x).guard,∃z∈x.nd,lS (xI ls) (zT ls) z=y:=fun y hy=>ml.1 hy;refine⟨⟨fun y hy hyk=>?_,fun y hy hyk=>?_,fun y hy hyk ht=>?_⟩,fun c hc=>?_,fun c hc=>?_,fun i z hz=>?_⟩
 ·obtain⟨z,hz,rfl⟩:=mem y hy
  have hzk:z.kind=6:=hyk;obtain⟨i,h1,h2,h3⟩:=Xa h (.inr rfl) (DA (hN z hz) hzk);refine⟨i,h2,?_,h3⟩;show DC (xI ls) (zT ls) z=_;unfold DC;rw[tg (by omega),tl (.inl hzk),h1]
 ·obtain⟨z,hz,rfl⟩:=mem y hy
  have hzk:z.kind=7:=hyk;obtain⟨i,h1,h2,h3⟩:=Xa h (.inl rfl) (Ks (hN z hz) hzk).1;refine⟨i,h2,?_,h3⟩;show DC (xI ls) (zT ls) z=_;unfold DC;rw[tg (by omega),tl (.inr hzk),h1]
 ·obtain⟨z,hz,rfl⟩:=mem y hy
  have hzk:z.kind=7:=hyk;have ho:z.other≠[]:=bg ht;obtain⟨i,h1,h2,h3⟩:=Xa h (.inl rfl) ((Ks (hN z hz) hzk).2 ho);refine⟨i,h2,?_,h3⟩;show zEO (xI ls) z=_;unfold zEO;rw[tg ho,h1]
 ·obtain⟨p,hp,e⟩:=mj.1 hc
  rw[tz,py,py]at e;obtain⟨q,hq,rfl⟩:=ml.1 hp;have e1:zG5 (xI ls) q=3:=e.1;have e2:zG4 (xI ls) (zT ls) q=(c:Int):=e.2;unfold zG5 at e1;unfold zG4 at e2;by_cases hq0:q.name=[]
  ·rw[tl hq0]at e1;exact absurd e1 (by decide)
  ·rw[tg hq0]at e1 e2
   by_cases hq1:zH (xI ls) q.name<0
   ·rw[tl hq1]at e2
    have:=cP (zT ls) q.name;omega
   ·rw[tg hq1]at e1;exact absurd e1 (by decide)
 ·obtain⟨y,hy,e⟩:=mj.1 hc
  rw[tz,py,py]at e;obtain⟨z,hz,rfl⟩:=mem y hy;have e1:z.kind=5:=e.1;have e2:DC (xI ls) (zT ls) z=(c:Int):=e.2;unfold DC at e2;rw[tl e1]at e2;have:=cP (zT ls) z.name;omega
 ·obtain⟨y,hy,rfl⟩:=ml.1 hz
  obtain⟨h1,h2⟩:=ma.1 hy;rw[tz,py]at h2;obtain⟨v,hv,rfl⟩:=mem y h1;have:=qx hg.nodes hv h2.1;show -1000000<=v.num/\v.num<=1000000;omega
theorem DR(h:uO ls)(hg:∀x∈ls,gE x):sY (yG ls):=by
 refine⟨fun i hi hn=>?_,fun i hi hn=>?_,by have:=Uf h;omega⟩
 ·obtain⟨x,x1,x2,x3,-⟩:=nH hi
  have hk:x.kind=1:=by unfold xT at hn;rw[x3,mQ (aJ x1)]at hn;exact bg hn
  have hp:=hg x x2;have:=VK h x2 hk;have e1:=hp.lo0;have e2:=hp.hi1;rw[x3];unfold oZ;rw[tl hk];exact⟨e1,this,e2⟩
 ·obtain⟨x,x1,x2,x3,-⟩:=nH hi
  have hk:¬x.kind=1:=by unfold xT at hn;rw[x3,mQ (aJ x1)]at hn;exact of_decide_eq_false hn
  rw[x3];unfold oZ;rw[tg hk]
def zBK(n:Nat)(u:List Int):vF:=⟨u.take n,(u.drop n).map fun v=>decide (v=1),[]⟩
def Vh(y:vF):List Int:=y.inputs++y.has.map fun b=>if b=true then 1 else 0
theorem Kk{ins cs:List Bs}{u:List Int}(h:u.length=ins.length+cs.length):sX ins cs (zBK ins.length u) u:=by
 refine⟨by simp[zBK];omega,by simp[zBK];omega,h,fun i hi=>?_,fun c hc=>?_⟩
 ·simp[zBK,List.getD,hi]
 ·have:ins.length+c<u.length:=by omega
  simp[zBK,List.getD,this]
theorem Kj{ins cs:List Bs}{y:vF}(h1:y.inputs.length=ins.length)(h2:y.has.length=cs.length):sX ins cs y (Vh y):=by
 refine⟨h1,h2,by simp[Vh];omega,fun i hi=>?_,fun c hc=>?_⟩
 ·simp[Vh,List.getD,pw (show i<y.inputs.length by omega)]
 ·have hl:c<y.has.length:=by omega
  have e:(Vh y).getD (ins.length+c) 0=if y.has[c]=true then 1 else 0:=by
   unfold Vh;rw[l8,pf (by omega),show ins.length+c-y.inputs.length=c by omega];simp[hl]
  rw[e];cases hb:y.has[c] <;> simp[List.getD,hl,hb]
theorem K6(hA:yP ls us)(h:uO ls)(hi:i<(yG ls).length)(hn:xT (yG ls) i=true):uK us (yT us) (qC us).length i=((kX (yG ls) i).low,(kX (yG ls) i).high):=by
 obtain⟨x,x1,x2,x3,x4⟩:=nH hi;have hk:x.kind=1:=by unfold xT at hn;rw[x3,mQ (aJ x1)]at hn;exact bg hn
 rw[Vv hA h (by rw[lD hA,tR];exact hi) x1 hk ((Cx hA hi).trans x4),x3];unfold oZ;rw[tl hk]
theorem zCA(hA:yP ls us)(h:uO ls){u:List Int}(hu:Fj us (yT us) (qC us).length (aT ls) u):fR (yG ls) (zT ls).length (zBK (xI ls).length u):=by
 have hl:=hu.len;have hLn:(yT us).length=(yG ls).length+(zT ls).length:=by rw[bT hA,tq,tR]
 have hR:sX (xI ls) (zT ls) (zBK (xI ls).length u) u:=Kk (by rw[tR];omega);refine⟨by rw[hR.li,tR],hR.lh,fun i hi hn=>?_,fun i hi hn=>?_⟩
 ·rw[<-hR.inp i (by rw[tR];exact hi)]
  have:=hu.nums i (by omega) (by unfold aT;rw[tm hi,hn];rfl);rw[K6 hA h hi hn]at this;exact this
 ·rw[<-hR.inp i (by rw[tR];exact hi)]
  exact hu.bits i (by omega) (by unfold aT;rw[hn,lp])
theorem DT(hA:yP ls us)(h:uO ls){y:vF}(hy:fR (yG ls) (zT ls).length y):Fj us (yT us) (qC us).length (aT ls) (Vh y):=by
 have hLn:(yT us).length=(yG ls).length+(zT ls).length:=by rw[bT hA,tq,tR]
 have hR:sX (xI ls) (zT ls) y (Vh y):=Kj (by rw[hy.inl,tR]) hy.hal;refine⟨by rw[hR.lv,tR,hLn],fun k hk hn=>?_,fun k hk hn=>?_⟩
 ·unfold aT at hn
  rw[tz,py]at hn;rw[K6 hA h hn.1 hn.2,hR.inp k (by rw[tR];exact hn.1)];exact hy.num k hn.1 hn.2
 ·by_cases zI6:k<(yG ls).length
  ·unfold aT at hn
   rw[tm zI6,md]at hn;rw[hR.inp k (by rw[tR];exact zI6)];exact hy.flag k zI6 hn
  ·unfold Vh
   rw[l8,pf (by rw[hy.inl];omega)];have h2:k-y.inputs.length<y.has.length:=by rw[hy.inl,hy.hal];omega
   rw[List.getElem?_map,pe h2];cases y.has[k-y.inputs.length] <;> simp
theorem zx(hA:yP ls us)(h:uO ls){x y:zF}{v:zG}(hx:x∈ls)(hxk:x.kind=3)(hLx:LT x u)(hux:cA u 0=zR)(hy:y∈ls)(hyk:y.kind=3)(hLy:LT y v)(huy:cA v 0=zR) :
 zBE (yG ls) (zT ls).length (uR (xI ls) (zT ls) x) (uR (xI ls) (zT ls) y) ↔ gQ us (yT us) (qC us).length (dK (yT us) u) (dK (yT us) v):=by
 have hN:=Cw hA h;have hins:(qC us).length=(xI ls).length:=by rw[lD hA]
 have hLn:(yT us).length=(xI ls).length+(zT ls).length:=by rw[bT hA,tq]
 have ap:∀ {s:vF} {vs:List Int},sX (xI ls) (zT ls) s vs->qR (qC us).length vs (dK (yT us) u)=jW (uR (xI ls) (zT ls) x) s/\qR (qC us).length vs (dK (yT us) v)=jW (uR (xI ls) (zT ls) y) s:=fun {s vs} hR=>by
  rw[hins,bT hA];exact⟨(sS hR (h.ruOk hx hxk) hLx hux).2,(sS hR (h.ruOk hy hyk) hLy huy).2⟩
 constructor
 ·rintro⟨s,h1,h2,h3⟩
  have hR:sX (xI ls) (zT ls) s (Vh s):=Kj (by rw[h1.inl,tR]) h1.hal;obtain⟨a1,a2⟩:=ap hR;exact zA2 hN (zEL hA h hx hxk hLx hux) (zEL hA h hy hyk hLy huy) (DT hA h h1) (a1.trans h2) (a2.trans h3)
 ·intro ht
  obtain⟨w,h1,h2,h3⟩:=vj hN ht;have hR:sX (xI ls) (zT ls) (zBK (xI ls).length w) w:=Kk (by rw[h1.len,hLn]);obtain⟨a1,a2⟩:=ap hR;exact⟨zBK (xI ls).length w,zCA hA h h1,a1.symm.trans h2,a2.symm.trans h3⟩
theorem zDJ:(Tryz.prog.info? 128).map (fun i=>(i.zero,i.size,i.bytes))=some (some (.agg #[.string ⟨#[]⟩,.int .i64 0]),2,24):=by kernel_rfl
def tI(I:List yI)(f:Nat->Int)(i:Nat):List Value:=(List.range i).flatMap fun j=>[.string ⟨(kX I j).name.toArray⟩,.int .i64 (f j)]
def mT(C:List (Bs × Nat))(g:Nat->Bool)(c:Nat):List Value:=(List.range c).flatMap fun j=>[.string ⟨(C.getD j ([],0)).1.toArray⟩,.int .i64 (if g j=true then 1 else 0)]
theorem B3(I:List yI)(f:Nat->Int)(i:Nat):tI I f (i+1)=tI I f i++[.string ⟨(kX I i).name.toArray⟩,.int .i64 (f i)]:=by unfold tI;rw[di,f9];simp
theorem B5(C:List (Bs × Nat))(g:Nat->Bool)(c:Nat):mT C g (c+1)=mT C g c++[.string ⟨(C.getD c ([],0)).1.toArray⟩,.int .i64 (if g c=true then 1 else 0)]:=by unfold mT;rw[di,f9];simp
theorem j8(h:jX w a (Yx C))(hi:i<C.length):∃g,a=some ⟨g,0,none⟩/\w.cell? ⟨g,i*2,none⟩=some (.string ⟨(C.getD i ([],0)).1.toArray⟩)/\w.cell? ⟨g,i*2+1,none⟩=some (.int .i64 ((C.getD i ([],0)).2:Nat)):=by
 obtain⟨g,e,q1⟩:=h.at ((zV (fun x:Bs × Nat=>[Value.string ⟨x.1.toArray⟩,.int .i64 (x.2:Nat)]) 2 (fun _=>rfl) ([],0) C i 0 hi (by decide)).trans rfl);obtain⟨g',e',q2⟩:=h.at ((zV (fun x:Bs × Nat=>[Value.string ⟨x.1.toArray⟩,.int .i64 (x.2:Nat)]) 2 (fun _=>rfl) ([],0) C i 1 hi (by decide)).trans rfl);obtain rfl:g=g':=by rw[e]at e';simpa using e'
 exact⟨g,e,q1,q2⟩
theorem Vq(w:World)(b o:Nat)(I:List yI)(C:List (Bs × Nat))(rs:List MX)(G:List Bool)(gi gh:Nat)(f:Nat->Int)(gg:Nat->Bool)(h:KU w b o I C rs G)(hI:jD w gi 3 I.length (fun i=>.int .i64 (f i)))(hH:jD w gh 4 C.length (fun c=>.bool (gg c))) :
 Calls Tryz.prog 73 #[.pointer (some ⟨b,o,none⟩),.agg #[.slice (some ⟨gi,0,none⟩) I.length I.length,.slice (some ⟨gh,0,none⟩) C.length C.length,.slice none 0 0]] w fun e w'=>∃v,e=.returned v/\w'.ownsRow w.heap.size 128 2 v (I.length+C.length) (tI I f I.length++mT C gg C.length)/\Below w.heap.size w w':=by
 obtain⟨i0,hi0,hz0,hz1,hz2⟩:=dp zDJ;obtain⟨ia,ic,c0,hia⟩:=h.inp;obtain⟨ca,cc,c1,hca⟩:=h.con;have fI:=h.few1;have fC:=h.few2;have HIn:=zA (fun w' (hb:Below w.heap.size w w') i (hi:i<I.length)=>Jz (hia.below hb).cel hi);have HCo:=zA (fun w' (hb:Below w.heap.size w w') i (hi:i<C.length)=>j8 (hca.below hb).cel hi);have HMd:Hid (∀w',Below w.heap.size w w'->w'.cell? ⟨b,o,none⟩=some (.slice ia I.length ic)/\w'.cell? ⟨b,o+1,none⟩=some (.slice ca C.length cc)):=fun w' hb=>⟨(hb.cell (p:=⟨b,o,none⟩) (zP c0)).trans c0,(hb.cell (p:=⟨b,o+1,none⟩) (zP c1)).trans c1⟩;have HRI:Hid (∀w',Below w.heap.size w w'->∀i,i<I.length->w'.cell? ⟨gi,i,none⟩=some (.int .i64 (f i))):=fun w' hb i hi=>(hI.below hb).cell hi;have HRH:Hid (∀w',Below w.heap.size w w'->∀i,i<C.length->w'.cell? ⟨gh,i,none⟩=some (.bool (gg i))):=fun w' hb i hi=>(hH.below hb).cell hi;have lb:=zP c0;clear h hia hca hI hH c0 c1
 go_enter Tryz.func73,Tryz.ntmps73
 go_upto_region 2 with fail
 have HB0:Hid (Below w.heap.size w ((w.alloc (.cells #[.slice (some ⟨gi,0,none⟩) I.length I.length,.slice (some ⟨gh,0,none⟩) C.length C.length,.slice none 0 0] 182)).alloc (.cells #[] 128))):=(ge (t9 _) _).alloc (by simp) _;have HX0:Hid (((w.alloc (.cells #[.slice (some ⟨gi,0,none⟩) I.length I.length,.slice (some ⟨gh,0,none⟩) C.length C.length,.slice none 0 0] 182)).alloc (.cells #[] 128)).heap[w.heap.size]? = some (.cells #[.slice (some ⟨gi,0,none⟩) I.length I.length,.slice (some ⟨gh,0,none⟩) C.length C.length,.slice none 0 0] 182 (0,0))):=yJ (zM _ _);have HO0:Hid (((w.alloc (.cells #[.slice (some ⟨gi,0,none⟩) I.length I.length,.slice (some ⟨gh,0,none⟩) C.length C.length,.slice none 0 0] 182)).alloc (.cells #[] 128)).ownsRow (w.heap.size+1) 128 2 (.slice (some ⟨w.heap.size+1,0,none⟩) 0 0) 0 (tI I f 0)):=⟨rfl,.inr ⟨w.heap.size+1,0,#[],rfl,t9 _,xX _ _ _ (by simp),t9 _,tr _,rfl,rfl⟩⟩;have hs0:w.heap.size+1<=((w.alloc (.cells #[.slice (some ⟨gi,0,none⟩) I.length I.length,.slice (some ⟨gh,0,none⟩) C.length C.length,.slice none 0 0] 182)).alloc (.cells #[] 128)).heap.size:=by simp
 generalize (w.alloc (.cells #[.slice (some ⟨gi,0,none⟩) I.length I.length,.slice (some ⟨gh,0,none⟩) C.length C.length,.slice none 0 0] 182)).alloc (.cells #[] 128)=w0 at *;generalize Value.slice (some ⟨w.heap.size+1,0,none⟩) 0 0=v0 at *;have HG:Hid (∀wr,Below (w.heap.size+1) w0 wr->Below w.heap.size w wr/\wr.heap[w.heap.size]? = some (.cells #[.slice (some ⟨gi,0,none⟩) I.length I.length,.slice (some ⟨gh,0,none⟩) C.length C.length,.slice none 0 0] 182 (0,0))):=fun wr hb=>⟨HB0.out.trans (hb.mono (bm _)),(hb.block _ (mh _)).trans HX0.out⟩;obtain⟨d0,d1⟩:=HMd.out w0 HB0.out;clear HB0 HX0;go_wp2_with fail
 go_loopw [5,17] (fun ov iv wr=>∃(i:Nat),i<=I.length/\iv=.int .i64 i/\Hid (Below (w.heap.size+1) w0 wr)/\Hid (wr.ownsRow (w.heap.size+1) 128 2 ov i (tI I f i))) (fun _ iv _=>I.length-(intOf iv).toNat)
 case atStart=>exact⟨0,tr _,rfl,zA (tj _ _),HO0⟩
 case round =>
  obtain⟨i,hi,rfl,HB,HO⟩:=hrel;have zIE:=HB.out.size;obtain⟨zJ6,hX⟩:=HG.out wr HB.out;by_cases zI6:i<I.length
  ·have ii:(i:Int)<(I.length:Int):=by omega
   obtain⟨g,rfl,n0,n1,n2,n3⟩:=HIn.out wr zJ6 i zI6;have ci:=HRI.out wr zJ6 i zI6;have x0:wr.cell? ⟨w.heap.size,0,none⟩=some (.slice (some ⟨gi,0,none⟩) I.length I.length):=zD hX 0;have lg:=zP n0;have lgi:=zP ci;have lx:=zP x0;have m1:wr.heap.size≠g:=by omega
   have m2:wr.heap.size≠gi:=by omega
   have m3:wr.heap.size≠w.heap.size:=by omega
   obtain⟨oa,oc,rfl⟩:=yH HO.out;have HVs:=zA (B3 I f i);have HO1:Hid (∀ob,(wr.alloc ob).ownsRow (w.heap.size+1) 128 2 (.slice oa i oc) i (tI I f i)):=fun ob=>HO.out.alloc ob;have HB1:Hid (∀ob,Below (w.heap.size+1) w0 (wr.alloc ob)):=fun ob=>HB.out.alloc (by omega) ob;clear hX zJ6;generalize kX I i=xi at *;obtain⟨xn,xf,xl,xh⟩:=xi;simp only at n0 n1 n2 n3 HVs;generalize f i=fv at *
   go_upto_region 5 with fail
   have c5a:(wr.alloc (.cells #[.string ⟨xn.toArray⟩,.bool xf,.int .i64 xl,.int .i64 xh] 258)).cell? ⟨wr.heap.size,0,none⟩=some (.string ⟨xn.toArray⟩):=zD (zM _ _) 0;have c5b:(wr.alloc (.cells #[.string ⟨xn.toArray⟩,.bool xf,.int .i64 xl,.int .i64 xh] 258)).cell? ⟨w.heap.size,0,none⟩=some (.slice (some ⟨gi,0,none⟩) I.length I.length):=(((tj wr.heap.size wr).alloc (t9 _) _).cell (p:=⟨w.heap.size,0,none⟩) lx).trans x0;have c5c:(wr.alloc (.cells #[.string ⟨xn.toArray⟩,.bool xf,.int .i64 xl,.int .i64 xh] 258)).cell? ⟨gi,i,none⟩=some (.int .i64 fv):=(((tj wr.heap.size wr).alloc (t9 _) _).cell (p:=⟨gi,i,none⟩) lgi).trans ci;have HO5:=zA (HO1.out (.cells #[.string ⟨xn.toArray⟩,.bool xf,.int .i64 xl,.int .i64 xh] 258));have HB5:=zA (HB1.out (.cells #[.string ⟨xn.toArray⟩,.bool xf,.int .i64 xl,.int .i64 xh] 258));have hs5:w.heap.size+1<=(wr.alloc (.cells #[.string ⟨xn.toArray⟩,.bool xf,.int .i64 xl,.int .i64 xh] 258)).heap.size:=by simp;omega
   clear n0 n1 n2 n3 x0 ci HO1 HB1;generalize wr.alloc (.cells #[.string ⟨xn.toArray⟩,.bool xf,.int .i64 xl,.int .i64 xh] 258)=w5 at *;go_wp2_with fail
   go_region_law ((refine step_append_lies _ (by rfl) _ _ _ (by rfl) (w.heap.size+1) 128 i0 _ 2 24 Tryz.underlying38 hi0 hz0 hz1 hz2 rfl (by decide) (.slice oa i oc) i (tI I f i) (by rfl) (HO5.out.drew.alloc _) ⟨w5.heap.size,0,none⟩ 1 1 [.string ⟨xn.toArray⟩,.int .i64 fv] (by rfl) (by rfl) (zZ _ _ _ _ rfl) (by simp[Value.oneCell']) (by decide) (by unfold maxLen;omega) (by omega) (by simp;omega) (w5.heap.size+1) (by simp) ?_;intro g2 cap w6 zI9 zI7 zJ8 hlt5))
   all_goals
    have HB6:Hid (Below (w.heap.size+1) w0 w6):=(HB5.out.drew.alloc hs5 _).grown zI7 (by show w.heap.size+1<=(w5.drew.alloc _).heap.size;simp;omega) (zN HO5.out);have HO6:Hid (w6.ownsRow (w.heap.size+1) 128 2 (.slice (some ⟨g2,0,none⟩) (i+1) cap) (i+1) (tI I f (i+1))):=by unfold Hid;rw[HVs.out];exact zI9
    clear zI7 zI9 zJ8 hlt5;go_wp2_with fail
    go_roundw
    case rel=>exact⟨i+1,by omega,by go_num,HB6,HO6⟩
    case measure=>simp[intOf];omega
  ·obtain rfl:i=I.length:=by omega
   have ii:¬(I.length:Int)<(I.length:Int):=by omega
   obtain⟨k0,k1⟩:=HMd.out wr zJ6
   have HO1:Hid (∀ov,wr.ownsRow (w.heap.size+1) 128 2 ov I.length (tI I f I.length)->wr.ownsRow (w.heap.size+1) 128 2 ov (I.length+0) (tI I f I.length++mT C gg 0)):=fun ov h=>by
    have e:tI I f I.length++mT C gg 0=tI I f I.length:=ce _;rw[e];exact h
   have HO2:=zA (HO1.out _ HO.out);clear HO1 HO hX zJ6 d0 d1;generalize hSI:tI I f I.length=SI at *;have HSI:=zA hSI;clear hSI;generalize hwr:wr=wq at *;clear hwr;go_wp2_with fail
   go_loopw [5,39] (fun ov iv wr=>∃(c:Nat),c<=C.length/\iv=.int .i64 c/\Hid (Below (w.heap.size+1) w0 wr)/\Hid (wr.ownsRow (w.heap.size+1) 128 2 ov (I.length+c) (SI++mT C gg c))) (fun _ iv _=>C.length-(intOf iv).toNat)
   case atStart=>exact⟨0,tr _,rfl,HB,HO2⟩
   case round =>
    obtain⟨c,hc,rfl,HBc,HOc⟩:=hrel;have hszc:=HBc.out.size;obtain⟨zJ6,hX⟩:=HG.out wr HBc.out;obtain⟨oa,oc,rfl⟩:=yH HOc.out;by_cases hltc:c<C.length
    ·have jj:(c:Int)<(C.length:Int):=by omega
     obtain⟨g,rfl,n0,n1⟩:=HCo.out wr zJ6 c hltc;have ch:=HRH.out wr zJ6 c hltc;have x1:wr.cell? ⟨w.heap.size,1,none⟩=some (.slice (some ⟨gh,0,none⟩) C.length C.length):=zD hX 1;have lg:=zP n0;have lgh:=zP ch;have lx:=zP x1;have m1:wr.heap.size≠g:=by omega
     have m2:wr.heap.size≠gh:=by omega
     have m3:wr.heap.size≠w.heap.size:=by omega
     have HVs:=zA (B5 C gg c);have HO1:Hid (∀ob,(wr.alloc ob).ownsRow (w.heap.size+1) 128 2 (.slice oa (I.length+c) oc) (I.length+c) (SI++mT C gg c)):=fun ob=>HOc.out.alloc ob;have HB1:Hid (∀ob,Below (w.heap.size+1) w0 (wr.alloc ob)):=fun ob=>HBc.out.alloc (by omega) ob;clear hX zJ6;generalize (C.getD c ([],0)).1=cn at *;generalize (C.getD c ([],0)).2=cl at *;generalize gg c=gv at *;cases gv
     ·rw[tg (by simp)]at HVs
      go_upto_region 13 with fail
      have c5a:(wr.alloc (.cells #[.string ⟨cn.toArray⟩,.int .i64 (cl:Nat)] 122)).cell? ⟨wr.heap.size,0,none⟩=some (.string ⟨cn.toArray⟩):=zD (zM _ _) 0;have HO5:=zA (HO1.out (.cells #[.string ⟨cn.toArray⟩,.int .i64 (cl:Nat)] 122));have HB5:=zA (HB1.out (.cells #[.string ⟨cn.toArray⟩,.int .i64 (cl:Nat)] 122));have hs5:w.heap.size+1<=(wr.alloc (.cells #[.string ⟨cn.toArray⟩,.int .i64 (cl:Nat)] 122)).heap.size:=by simp;omega
      clear n0 n1 x1 ch HO1 HB1;generalize wr.alloc (.cells #[.string ⟨cn.toArray⟩,.int .i64 (cl:Nat)] 122)=w5 at *
      go_wp2_with (at_builtin;refine wpList_append_own _ rfl _ _ 38 rfl (w.heap.size+1) 128 i0 _ 2 24 Tryz.underlying38 hi0 hz0 hz1 hz2 rfl (by decide) _ _ _ rfl (HO5.out.alloc _) ⟨w5.heap.size,0,none⟩ 1 1 [.string ⟨cn.toArray⟩,.int .i64 0] rfl rfl ?c1k1 ?c1k2 ?c1k3 ?c1k4 ?c1k5 ?_)
      try (case c1k1=>first|exact zZ _ _ _ _ rfl|exact fun _ _ h=>h)
      try (case c1k2=>first|exact⟨rfl,rfl⟩|(intro u hu;simp at hu;rcases hu with rfl|rfl <;> rfl))
      try (case c1k3=>unfold maxLen;omega)
      try (case c1k4=>omega)
      try (case c1k5=>first|omega|(simp;omega))
      intro v6 w6 zIQ zIF _;have HB6:Hid (Below (w.heap.size+1) w0 w6):=(HB5.out.alloc hs5 _).grown zIF (by simp;omega) (zN HO5.out);have HO6:Hid (w6.ownsRow (w.heap.size+1) 128 2 v6 (I.length+(c+1)) (SI++mT C gg (c+1))):=by unfold Hid;rw[HVs.out,<-Nat.add_assoc];first|exact zIQ|(rw[<-mn];exact zIQ)
      clear zIQ zIF;go_wp2_with fail
      go_roundw
      case rel=>exact⟨c+1,by omega,by go_num,HB6,HO6⟩
      case measure=>simp[intOf];omega
     ·rw[tl rfl]at HVs
      go_upto_region 13 with fail
      have c5a:(wr.alloc (.cells #[.string ⟨cn.toArray⟩,.int .i64 (cl:Nat)] 122)).cell? ⟨wr.heap.size,0,none⟩=some (.string ⟨cn.toArray⟩):=zD (zM _ _) 0;have HO5:=zA (HO1.out (.cells #[.string ⟨cn.toArray⟩,.int .i64 (cl:Nat)] 122));have HB5:=zA (HB1.out (.cells #[.string ⟨cn.toArray⟩,.int .i64 (cl:Nat)] 122));have hs5:w.heap.size+1<=(wr.alloc (.cells #[.string ⟨cn.toArray⟩,.int .i64 (cl:Nat)] 122)).heap.size:=by simp;omega
      clear n0 n1 x1 ch HO1 HB1;generalize wr.alloc (.cells #[.string ⟨cn.toArray⟩,.int .i64 (cl:Nat)] 122)=w5 at *
      go_wp2_with (at_builtin;refine wpList_append_own _ rfl _ _ 38 rfl (w.heap.size+1) 128 i0 _ 2 24 Tryz.underlying38 hi0 hz0 hz1 hz2 rfl (by decide) _ _ _ rfl (HO5.out.alloc _) ⟨w5.heap.size,0,none⟩ 1 1 [.string ⟨cn.toArray⟩,.int .i64 1] rfl rfl ?c2k1 ?c2k2 ?c2k3 ?c2k4 ?c2k5 ?_)
      try (case c2k1=>first|exact zZ _ _ _ _ rfl|exact fun _ _ h=>h)
      try (case c2k2=>first|exact⟨rfl,rfl⟩|(intro u hu;simp at hu;rcases hu with rfl|rfl <;> rfl))
      try (case c2k3=>unfold maxLen;omega)
      try (case c2k4=>omega)
      try (case c2k5=>first|omega|(simp;omega))
      intro v6 w6 zIQ zIF _;have HB6:Hid (Below (w.heap.size+1) w0 w6):=(HB5.out.alloc hs5 _).grown zIF (by simp;omega) (zN HO5.out);have HO6:Hid (w6.ownsRow (w.heap.size+1) 128 2 v6 (I.length+(c+1)) (SI++mT C gg (c+1))):=by unfold Hid;rw[HVs.out,<-Nat.add_assoc];first|exact zIQ|(rw[<-mn];exact zIQ)
      clear zIQ zIF;go_wp2_with fail
      go_roundw
      case rel=>exact⟨c+1,by omega,by go_num,HB6,HO6⟩
      case measure=>simp[intOf];omega
    ·obtain rfl:c=C.length:=by omega
     have jj:¬(C.length:Int)<(C.length:Int):=by omega
     have HFn:=zA (xC HOc.out (bm w.heap.size));have HBf:=zA zJ6;clear HOc hX zJ6;go_wp2_with fail
     go_ret
     exact⟨_,rfl,by rw[HSI.out];exact HFn.out,HBf.out⟩
def dJ(I:List yI)(H:Nat)(f:Nat->Int)(g:Nat->Bool):vF:=⟨(List.range I.length).map f,(List.range H).map g,[]⟩
def Q9(I:List yI)(C:List (Bs × Nat))(rs:List MX)(G:List Bool)(w w':World)(e:Ending):Prop:=Below w.heap.size w w'/\((∃(i j:Nat) (f:Nat->Int) (g:Nat->Bool) (la:Option Addr) (sv:Value),oU (xg I C.length rs G) i j/\e=.returned (.agg #[.slice la 2 2,sv])/\jX w' la [.string ⟨(tO rs i).1.label.toArray⟩,.string ⟨(tO rs j).1.label.toArray⟩]/\(∃sa sc,sv=.slice sa (I.length+C.length) sc/\jX w' sa (tI I f I.length++mT C g C.length))/\fR I C.length (dJ I C.length f g)/\jW (tO rs i).1 (dJ I C.length f g)=true/\jW (tO rs j).1 (dJ I C.length f g)=true)\/((∀i j,¬xg I C.length rs G i j)/\e=.returned (.agg #[.slice none 0 0,.slice none 0 0])))
theorem K7(a b:Value):(Tryz.prog.info? 101).map (·.size)=some (#[a,b]:Array Value).size:=by
 show _=some 2
 kernel_rfl
theorem JZ{a b c d:Value}(h:w.heap[p]? = some (.cells #[a,b] t (0,0))):((w.setCell ⟨p,0,none⟩ c).setCell ⟨p,1,none⟩ d).heap[p]? = some (.cells #[c,d] t (0,0)):=by
 have q1:=m6 w _ 0 _ _ c h;have q2:=m6 _ _ 1 _ _ d q1;rw[q2];simp
theorem KF{a b c d:Value}{a':Option Addr}(h:w.heap[p]? = some (.cells #[a,b] t (0,0)))(hc:uS w t' a' xs)(zIH:t'≠t):uS ((w.setCell ⟨p,0,none⟩ c).setCell ⟨p,1,none⟩ d) t' a' xs:=(hc.set h zIH).set (m6 w _ 0 _ _ c h) zIH
theorem DM{x y:Value}(h:w.heap[g]? = some (.cells #[x,y] t (0,0))):uS w t (some ⟨g,0,none⟩) [x,y]:=.inr ⟨g,_,_,rfl,h,fun j hj=>match j,hj with
 | 0,_=>rfl
 | 1,_=>rfl
 | j+2,hj=>absurd hj (by simp)⟩
theorem zH3(w:World)(b o:Nat)(I:List yI)(C:List (Bs × Nat))(rs:List MX)(G:List Bool)(h:KU w b o I C rs G)(hI:sY I)(hr:∀x∈rs,Q5 I C.length x.1) :
 Calls Tryz.prog 38 #[.pointer (some ⟨b,o,none⟩)] w fun e w'=>Q9 I C rs G w w' e:=by
 have hf:=h.few3;have hfC:=h.few2;have hfI:=h.few1;have HMd:=zA (fun w' (hb:Below w.heap.size w w')=>(h.below hb));have HRl:=zA (fun w' (hb:Below w.heap.size w w')=>(h.below hb).rul);have HRv:=zA (fun w' (hb:Below w.heap.size w w') (i j:Nat) (hi:i<rs.length) (hj:j<rs.length)=>UF w' b o I C rs G i j (h.below hb) hi hj)
 have HNw:Hid (∀w' (_:Below w.heap.size w w') (i j:Nat) (_:i<rs.length) (_:j<rs.length),Calls Tryz.prog 71 #[.pointer (some ⟨b,o,none⟩),kA (tO rs i),kA (tO rs j)] w' fun e w2=>∃SR gi gh,e=.returned (.agg SR)/\SR.size=15/\(Tryz.prog.info? 184).map (·.size)=some SR.size/\SR.all (·.oneCell')=true/\Below w'.heap.size w' w2/\∀(b:Nat) (wr:World),Below w2.heap.size w2 wr->w2.heap.size<=b->wr.heap[b]? = some (.cells SR 184 (0,0))->Calls Tryz.prog 72 #[.pointer (some ⟨b,0,none⟩),.int .i64 0] wr fun e w3=>Q3 I C.length (tO rs i) (tO rs j) w'.heap.size b gi gh wr w3 e):=fun w' hb i j hi hj=>by
  have hm:=h.below hb;obtain⟨a1,c1,p1,q1⟩:=hm.inp;obtain⟨a2,c2,p2,q2⟩:=hm.con;have hx:=hm.rows _ (aF hi);have hy:=hm.rows _ (aF hj);have ox:=hr _ (aF hi);have oy:=hr _ (aF hj);refine(VD w' b o I C.length (tO rs i) (tO rs j) a1 a2 c1 c2 p1 p2 q1 hx hy (by omega) hfC (fun k z hz=>?_) (Di I _ _ hx.few2 hy.few2)).mono ?_
  ·rcases List.mem_append.mp hz with h|h
   ·exact ox.bd k z h
   ·exact oy.bd k z h
  ·intro e w2 hp
   exact ug w' w2 I C.length (tO rs i) (tO rs j) e hp hI hfC hx hy ox oy
 have HSe:=zA (fun w' (hb:Below w.heap.size w w') (gi gh:Nat) (f:Nat->Int) (g:Nat->Bool) (h1:jD w' gi 3 I.length (fun i=>.int .i64 (f i))) (h2:jD w' gh 4 C.length (fun c=>.bool (g c)))=>Vq w' b o I C rs G gi gh f g (h.below hb) h1 h2)
 have HSl:Hid (∀i,i<rs.length->(∃a c,(tO rs i).2.1=.slice a (tO rs i).1.sum.length c)/\∃a c,(tO rs i).2.2=.slice a (tO rs i).1.guard.length c):=fun i hi=>by
  obtain⟨a,c,e,-⟩:=(h.rows _ (aF hi)).sum;obtain⟨a',c',e',-⟩:=(h.rows _ (aF hi)).guard;exact⟨⟨a,c,e⟩,a',c',e'⟩
 have HCl:Hid (∀i k,xg I C.length rs G i k ↔ (i<k/\k<rs.length/\BN rs G i k=true/\zBE I C.length (tO rs i).1 (tO rs k).1)):=fun _ _=>Iff.rfl;have HFp:Hid (∀w' e,Below w.heap.size w w'->((∃(i j:Nat) (f:Nat->Int) (g:Nat->Bool) (la:Option Addr) (sv:Value),oU (xg I C.length rs G) i j/\e=.returned (.agg #[.slice la 2 2,sv])/\jX w' la [.string ⟨(tO rs i).1.label.toArray⟩,.string ⟨(tO rs j).1.label.toArray⟩]/\(∃sa sc,sv=.slice sa (I.length+C.length) sc/\jX w' sa (tI I f I.length++mT C g C.length))/\fR I C.length (dJ I C.length f g)/\jW (tO rs i).1 (dJ I C.length f g)=true/\jW (tO rs j).1 (dJ I C.length f g)=true)\/((∀i j,¬xg I C.length rs G i j)/\e=.returned (.agg #[.slice none 0 0,.slice none 0 0])))->Q9 I C rs G w w' e):=fun w' e h1 h2=>⟨h1,h2⟩;clear h hI hr HMd;generalize xg I C.length rs G=R at *;generalize Q9 I C rs G w=Q at *
 go_enter Tryz.func38,Tryz.ntmps38
 obtain⟨ra,rc,d2,-⟩:=HRl.out w (tj _ _);have lb:=zP d2;have m0:w.heap.size≠b:=by omega
 have HB0:Hid (Below w.heap.size w (w.alloc (.cells #[.slice none 0 0,.slice none 0 0] 101))):=ge (t9 _) _;have HX0:Hid ((w.alloc (.cells #[.slice none 0 0,.slice none 0 0] 101)).heap[w.heap.size]? = some (.cells #[.slice none 0 0,.slice none 0 0] 101 (0,0))):=zM _ _;have hs0:(w.alloc (.cells #[.slice none 0 0,.slice none 0 0] 101)).heap.size=w.heap.size+1:=by simp
 go_wp2_with fail
 generalize w.alloc (.cells #[.slice none 0 0,.slice none 0 0] 101)=w0 at *;have HG:Hid (∀wr,Below (w.heap.size+1) w0 wr->Below w.heap.size w wr/\wr.heap[w.heap.size]? = some (.cells #[.slice none 0 0,.slice none 0 0] 101 (0,0))):=fun wr hb=>⟨HB0.out.trans (hb.mono (bm _)),(hb.block _ (mh _)).trans HX0.out⟩;clear HB0 HX0
 go_loopw [13] (fun iv wr=>∃(i:Nat),i<=rs.length/\iv=.int .i64 i/\Hid (Below (w.heap.size+1) w0 wr)/\Hid (∀i' k',R i' k'->i<=i')) (fun iv _=>rs.length-(intOf iv).toNat)
 case atStart=>exact⟨0,tr _,rfl,zA (tj _ _),zA fun _ _ _=>tr _⟩
 case round =>
  obtain⟨i,hi,rfl,HB,HM⟩:=hrel;have zIE:=HB.out.size;obtain⟨zJ6,hX⟩:=HG.out wr HB.out;obtain⟨ra',rc',d2',zIZ⟩:=HRl.out wr zJ6
  obtain⟨e1,e2⟩:ra'=ra/\rc'=rc:=by
   have:=(zJ6.cell (p:=⟨b,o+2,none⟩) lb).trans d2;rw[this]at d2';simp only[cx,Value.slice.injEq]at d2';exact⟨d2'.1.symm,d2'.2.2.symm⟩
  subst e1 e2;by_cases zI6:i<rs.length
  ·have ii:(i:Int)<(rs.length:Int):=by omega
   have HM1:Hid (∀i' k',R i' k'->i<i'\/(i=i'/\0<=k')):=fun i' k' h=>by
    have:=HM.out i' k' h;omega
   obtain⟨g,rfl,i0,i1,i2,i3,i4⟩:=Zf zIZ.cel zI6;obtain⟨⟨p1,p2,e1⟩,p3,p4,e2⟩:=HSl.out i zI6;rw[e1]at i2;rw[e2]at i3;have lg:=zP i0;have lbr:b<wr.heap.size:=by have:=zJ6.size;omega
   have m1:wr.heap.size≠g:=by omega
   have m2:wr.heap.size≠b:=by omega
   have HEq:Hid (kA (tO rs i)=.agg #[.string ⟨(tO rs i).1.label.toArray⟩,.int .i64 (tO rs i).1.conc,.slice p1 (tO rs i).1.sum.length p2,.slice p3 (tO rs i).1.guard.length p4,.int .i64 (tO rs i).1.root]):=by
    show kA (tO rs i)=_;unfold kA;rw[e1,e2]
   have HLi:Hid (∃l,l=(tO rs i).1.label):=⟨_,rfl⟩;clear hX zJ6 zIZ e1 e2;generalize hxl:(tO rs i).1.label=xl at *;generalize (tO rs i).1.conc=xc at *;generalize (tO rs i).1.sum.length=xn at *;generalize (tO rs i).1.guard.length=xm at *;generalize (tO rs i).1.root=xr at *;have HBe:=zA (HB.out.alloc (show w.heap.size+1<=wr.heap.size by omega) (.cells #[.string ⟨xl.toArray⟩,.int .i64 xc,.slice p1 xn p2,.slice p3 xm p4,.int .i64 xr] 176));have HXe:Hid ((wr.alloc (.cells #[.string ⟨xl.toArray⟩,.int .i64 xc,.slice p1 xn p2,.slice p3 xm p4,.int .i64 xr] 176)).heap[wr.heap.size]? = some (.cells #[.string ⟨xl.toArray⟩,.int .i64 xc,.slice p1 xn p2,.slice p3 xm p4,.int .i64 xr] 176 (0,0))):=zM _ _;have hse:(wr.alloc (.cells #[.string ⟨xl.toArray⟩,.int .i64 xc,.slice p1 xn p2,.slice p3 xm p4,.int .i64 xr] 176)).heap.size=wr.heap.size+1:=by simp
   go_wp2_with fail
   generalize wr.alloc (.cells #[.string ⟨xl.toArray⟩,.int .i64 xc,.slice p1 xn p2,.slice p3 xm p4,.int .i64 xr] 176)=wE at *;clear i0 i1 i2 i3 i4 d2' m1 m2;have hsw:w.heap.size+1<=wr.heap.size:=by omega
   generalize wr.heap.size=eb at *;have HGe:Hid (∀wx,Below (eb+1) wE wx->Below (w.heap.size+1) w0 wx/\wx.heap[eb]? = some (.cells #[.string ⟨xl.toArray⟩,.int .i64 xc,.slice p1 xn p2,.slice p3 xm p4,.int .i64 xr] 176 (0,0))):=fun wx hb=>⟨HBe.out.trans (hb.mono (by omega)),(hb.block _ (mh _)).trans HXe.out⟩;clear HBe HXe
   go_loopw [23] (fun kv wy=>∃(k:Nat),k<=rs.length/\kv=.int .i64 k/\Hid (Below (eb+1) wE wy)/\Hid (∀i' k',R i' k'->i<i'\/(i=i'/\k<=k'))) (fun kv _=>rs.length-(intOf kv).toNat)
   case atStart=>exact⟨0,tr _,rfl,zA (tj _ _),HM1⟩
   case round =>
    obtain⟨k,hk,rfl,HBy,HMk⟩:=hrel;have hszy:=HBy.out.size;by_cases zJ5:k<rs.length
    ·have kk:(k:Int)<(rs.length:Int):=by omega
     obtain⟨hB0,hE⟩:=HGe.out wr HBy.out;obtain⟨zJ6,hX⟩:=HG.out wr hB0;obtain⟨ra2,rc2,d3,zIZ⟩:=HRl.out wr zJ6
     obtain⟨e1,e2⟩:ra2=some ⟨g,0,none⟩/\rc2=rc':=by
      have:=(zJ6.cell (p:=⟨b,o+2,none⟩) lb).trans d2;rw[this]at d3;simp only[cx,Value.slice.injEq]at d3;exact⟨d3.1.symm,d3.2.2.symm⟩
     subst e1 e2;obtain⟨g',e',k0,k1,k2,k3,k4⟩:=Zf zIZ.cel zJ5;obtain rfl:g=g':=by simpa using e'
     obtain⟨⟨q1,q2,e1⟩,q3,q4,e2⟩:=HSl.out k zJ5;rw[e1]at k2;rw[e2]at k3;have lg2:=zP k0;have m1:wr.heap.size≠g:=by omega
     have HKq:Hid (kA (tO rs k)=.agg #[.string ⟨(tO rs k).1.label.toArray⟩,.int .i64 (tO rs k).1.conc,.slice q1 (tO rs k).1.sum.length q2,.slice q3 (tO rs k).1.guard.length q4,.int .i64 (tO rs k).1.root]):=by
      show kA (tO rs k)=_;unfold kA;rw[e1,e2]
     have HCk:=zA (HCl.out i k)
     have HNx:Hid (¬R i k->∀i' k',R i' k'->i<i'\/(i=i'/\k+1<=k')):=fun hn i' k' h=>by
      have h1:=HMk.out i' k' h;rcases h1 with h1|⟨h1,h2⟩
      ·exact .inl h1
      ·by_cases hkk:k=k'
       ·subst h1 hkk;exact absurd h hn
       ·exact .inr ⟨h1,by omega⟩
     have HYs:Hid (R i k->∀w' (la:Option Addr) (sv:Value) (f:Nat->Int) (gg:Nat->Bool),Below w.heap.size w w'->jX w' la [.string ⟨xl.toArray⟩,.string ⟨(tO rs k).1.label.toArray⟩]->(∃sa sc,sv=.slice sa (I.length+C.length) sc/\jX w' sa (tI I f I.length++mT C gg C.length))->fR I C.length (dJ I C.length f gg)->jW (tO rs i).1 (dJ I C.length f gg)=true->jW (tO rs k).1 (dJ I C.length f gg)=true->Q w' (.returned (.agg #[.slice la 2 2,sv]))):=fun h w' la sv f gg hb h1 h2 h3 h4 h5=>HFp.out w' _ hb (.inl ⟨i,k,f,gg,la,sv,⟨h,HMk.out⟩,rfl,by rw[hxl];exact h1,h2,h3,h4,h5⟩);have HRk:=zA (fun w' hb=>HRv.out w' hb i k zI6 zJ5);have HNk:=zA (fun w' hb=>HNw.out w' hb i k zI6 zJ5);rw[HEq.out,HKq.out]at HNk;clear zIZ e' e1 e2 hE hX hB0 zJ6 HKq;generalize (tO rs k).1.label=yl at *;generalize (tO rs k).1.conc=yc at *;generalize (tO rs k).1.sum.length=yn at *;generalize (tO rs k).1.guard.length=ym at *;generalize (tO rs k).1.root=yr at *;generalize BN rs G i k=rv at *;have HBl:=zA (HBy.out.alloc (show eb+1<=wr.heap.size by omega) (.cells #[.string ⟨yl.toArray⟩,.int .i64 yc,.slice q1 yn q2,.slice q3 ym q4,.int .i64 yr] 176));have HXl:Hid ((wr.alloc (.cells #[.string ⟨yl.toArray⟩,.int .i64 yc,.slice q1 yn q2,.slice q3 ym q4,.int .i64 yr] 176)).heap[wr.heap.size]? = some (.cells #[.string ⟨yl.toArray⟩,.int .i64 yc,.slice q1 yn q2,.slice q3 ym q4,.int .i64 yr] 176 (0,0))):=zM _ _;have hsl:(wr.alloc (.cells #[.string ⟨yl.toArray⟩,.int .i64 yc,.slice q1 yn q2,.slice q3 ym q4,.int .i64 yr] 176)).heap.size=wr.heap.size+1:=by simp
     go_upto_region 7 with fail
     generalize wr.alloc (.cells #[.string ⟨yl.toArray⟩,.int .i64 yc,.slice q1 yn q2,.slice q3 ym q4,.int .i64 yr] 176)=wL at *;clear k0 k1 k2 k3 k4 d3 m1;have hse2:eb+1<=wr.heap.size:=by omega
     generalize wr.heap.size=lb2 at *
     have HGl:Hid (∀wx,Below (lb2+1) wL wx->Below (eb+1) wE wx/\Below w.heap.size w wx/\wx.heap[w.heap.size]? = some (.cells #[.slice none 0 0,.slice none 0 0] 101 (0,0))/\wx.heap[eb]? = some (.cells #[.string ⟨xl.toArray⟩,.int .i64 xc,.slice p1 xn p2,.slice p3 xm p4,.int .i64 xr] 176 (0,0))/\wx.heap[lb2]? = some (.cells #[.string ⟨yl.toArray⟩,.int .i64 yc,.slice q1 yn q2,.slice q3 ym q4,.int .i64 yr] 176 (0,0))):=fun wx hb=>by
      have h1:=HBl.out.trans (hb.mono (by omega));obtain⟨h2,h3⟩:=HGe.out wx h1;obtain⟨h4,h5⟩:=HG.out wx h2;exact⟨h1,h4,h5,h3,(hb.block _ (mh _)).trans HXl.out⟩
     clear HBl HXl;have HB7:=zA (HGl.out wL (tj _ _)).1;by_cases hik:i<k
     ·have gg:¬(k:Int)<=(i:Int):=by omega
      have HRw:=zA (HRk.out wL (HGl.out wL (tj _ _)).2.1);go_wp2_with fail
      refine HRw.out.mono ?_;rintro e w2 ⟨rfl,hb2⟩;have HB2:Hid (Below (lb2+1) wL w2):=by rw[hsl]at hb2;exact hb2
      clear hb2 HRw;cases rv
      ·have HNn:=zA (HNx.out (fun h=>by have:=(HCk.out.1 h).2.2.1;cases this))
       have HBn:=zA (HGl.out w2 HB2.out).1;go_wp2_with fail
       go_roundw
       case rel=>exact⟨k+1,by omega,by go_num,HBn,HNn⟩
       case measure=>simp[intOf];omega
      ·obtain⟨-,hBw2,-,hE2,hL2⟩:=HGl.out w2 HB2.out
       have x0:w2.cell? ⟨eb,0,none⟩=some (.string ⟨xl.toArray⟩):=(zD hE2 0).trans rfl;have x1:w2.cell? ⟨eb,1,none⟩=some (.int .i64 xc):=(zD hE2 1).trans rfl;have x2:w2.cell? ⟨eb,2,none⟩=some (.slice p1 xn p2):=(zD hE2 2).trans rfl;have x3:w2.cell? ⟨eb,3,none⟩=some (.slice p3 xm p4):=(zD hE2 3).trans rfl;have x4:w2.cell? ⟨eb,4,none⟩=some (.int .i64 xr):=(zD hE2 4).trans rfl;have y0:w2.cell? ⟨lb2,0,none⟩=some (.string ⟨yl.toArray⟩):=(zD hL2 0).trans rfl;have y1:w2.cell? ⟨lb2,1,none⟩=some (.int .i64 yc):=(zD hL2 1).trans rfl;have y2:w2.cell? ⟨lb2,2,none⟩=some (.slice q1 yn q2):=(zD hL2 2).trans rfl;have y3:w2.cell? ⟨lb2,3,none⟩=some (.slice q3 ym q4):=(zD hL2 3).trans rfl;have y4:w2.cell? ⟨lb2,4,none⟩=some (.int .i64 yr):=(zD hL2 4).trans rfl;have HNz:=zA (HNk.out w2 hBw2);have hs2:lb2+1<=w2.heap.size:=by have:=HB2.out.size;omega
       clear hBw2 hE2 hL2 HNk HRk HNw HRv;go_wp2_with fail
       refine HNz.out.mono ?_;rintro e w3 ⟨SR,gi,gh,rfl,zIJ,hinf,hone,hb3,hsk⟩;have HIf:=zA hinf;have HSz:=zA zIJ;have HAl:=zA hone;have HB3:=zA hb3;have HSk:=zA hsk;have hs3:=hb3.size;clear hinf zIJ hone hb3 hsk HNz x0 x1 x2 x3 x4 y0 y1 y2 y3 y4;have HZr:Hid ((w3.alloc (.cells #[.string ⟨#[]⟩,.int .i64 0,.slice none 0 0,.slice none 0 0,.int .i64 0,.string ⟨#[]⟩,.int .i64 0,.slice none 0 0,.slice none 0 0,.int .i64 0,.slice none 0 0,.slice none 0 0,.slice none 0 0,.slice none 0 0,.slice none 0 0] 184)).heap[w3.heap.size]? = some (.cells Dj 184 (0,0))):=zM _ _;have HBs:Hid (Below w3.heap.size w3 ((w3.alloc (.cells Dj 184)).setRow w3.heap.size SR)):=xL (ge (t9 _) _) (t9 _) _;have HXs:Hid (((w3.alloc (.cells Dj 184)).setRow w3.heap.size SR).heap[w3.heap.size]? = some (.cells SR 184 (0,0))):=ly _ _ Dj _ _ _ (zM w3 _);unfold Dj at HBs HXs
       go_wp2_with (refine wpList_store_row ?zIM 184 (.tmp 7) (.tmp 41) ?ho w3.heap.size SR ?hx ?hy 184 Dj HZr.out HIf.out ?zIL HAl.out ?_
                    case ho=>rfl
                    case zIM=>rfl
                    case hx=>rfl
                    case hy=>rfl
                    case zIL=>rw[HSz.out];rfl)
       generalize (w3.alloc (.cells #[.string ⟨#[]⟩,.int .i64 0,.slice none 0 0,.slice none 0 0,.int .i64 0,.string ⟨#[]⟩,.int .i64 0,.slice none 0 0,.slice none 0 0,.int .i64 0,.slice none 0 0,.slice none 0 0,.slice none 0 0,.slice none 0 0,.slice none 0 0] 184)).setRow w3.heap.size SR=wS at *;refine(HSk.out w3.heap.size wS HBs.out (t9 _) HXs.out).mono ?_;rintro e w4 ⟨r,rfl,hb4,zJ4,hyes⟩;have HB4:Hid (Below (lb2+1) wL w4):=(HB2.out.trans ((HB3.out.trans (HBs.out.mono hs3)).mono hs2)).trans (hb4.mono hs2);clear HIf HSz HAl HSk HZr HBs HXs hb4;cases r
       ·have HNn:=zA (HNx.out (fun h=>zJ4 rfl (HCk.out.1 h).2.2.2))
        have HBn:=zA (HGl.out w4 HB4.out).1;clear zJ4 hyes;go_wp2_with fail
        go_roundw
        case rel=>exact⟨k+1,by omega,by go_num,HBn,HNn⟩
        case measure=>simp[intOf];omega
       ·obtain⟨f,gg,⟨s12,s13,s14⟩,hrI,hrH,hroom,ha1,ha2⟩:=hyes rfl
        have hRik:R i k:=HCk.out.2 ⟨hik,zJ5,by first|trivial|rfl,_,hroom,ha1,ha2⟩;obtain⟨-,hBw4,hX4,hE4,hL4⟩:=HGl.out w4 HB4.out;have hsw4:=hBw4.size;have HPo:=zA (fun w' la sv hb h1 h2=>HYs.out hRik w' la sv f gg hb h1 h2 hroom ha1 ha2)
        have HSw:Hid (∀w',Below w4.heap.size w4 w'->Calls Tryz.prog 73 #[.pointer (some ⟨b,o,none⟩),.agg #[.slice (some ⟨gi,0,none⟩) I.length I.length,.slice (some ⟨gh,0,none⟩) C.length C.length,.slice none 0 0]] w' fun e w5=>∃sa sc,e=.returned (.slice sa (I.length+C.length) sc)/\uS w5 128 sa (tI I f I.length++mT C gg C.length)/\Below w'.heap.size w' w5):=fun w' hb=>by
         refine(HSe.out w' (hBw4.trans (hb.mono hsw4)) gi gh f gg (hrI.below hb) (hrH.below hb)).mono ?_;rintro e w5 ⟨v,rfl,h1,h2⟩;obtain⟨sa,sc,rfl,h3⟩:=jP h1;exact⟨sa,sc,rfl,h3,h2⟩
        have lsb:=zP s12;have lsb2:lb2<w3.heap.size:=by omega
        have lre:=yK hX4;have lee:=yK hE4;have lle:=yK hL4
        have HAf:Hid (∀w5,Below w4.heap.size w4 w5->(w5.cell? ⟨eb,0,none⟩=some (.string ⟨xl.toArray⟩)/\w5.cell? ⟨lb2,0,none⟩=some (.string ⟨yl.toArray⟩)/\w5.cell? ⟨w3.heap.size,12,none⟩=some (.slice (some ⟨gi,0,none⟩) I.length I.length)/\w5.cell? ⟨w3.heap.size,13,none⟩=some (.slice (some ⟨gh,0,none⟩) C.length C.length)/\w5.cell? ⟨w3.heap.size,14,none⟩=some (.slice none 0 0))/\(w5.cell? ⟨w.heap.size,0,none⟩=some (.slice none 0 0)/\w5.cell? ⟨w.heap.size,1,none⟩=some (.slice none 0 0)/\w5.frozen? ⟨w.heap.size,0,none⟩=false/\w5.frozen? ⟨w.heap.size,1,none⟩=false)/\Below w.heap.size w w5/\w5.heap[w.heap.size]? = some (.cells #[.slice none 0 0,.slice none 0 0] 101 (0,0))/\w.heap.size<w5.heap.size):=fun w5 hb=>by
         have hR5:=(hb.block _ lre).trans hX4;have hE5:=(hb.block _ lee).trans hE4;have hL5:=(hb.block _ lle).trans hL4;exact⟨⟨(zD hE5 0).trans rfl,(zD hL5 0).trans rfl,(hb.cell (p:=⟨w3.heap.size,12,none⟩) lsb).trans s12,(hb.cell (p:=⟨w3.heap.size,13,none⟩) lsb).trans s13,(hb.cell (p:=⟨w3.heap.size,14,none⟩) lsb).trans s14⟩,⟨(zD hR5 0).trans rfl,(zD hR5 1).trans rfl,by simp[World.frozen?,hR5],by simp[World.frozen?,hR5]⟩,hBw4.trans (hb.mono hsw4),hR5,yK hR5⟩
        obtain⟨⟨t0,t1,t2,t3,t4⟩,⟨t5,t6,t7,t8⟩,-,-,-⟩:=HAf.out w4 (tj _ _);clear hroom ha1 ha2 hrI hrH s12 s13 s14 hX4 hE4 hL4 hBw4 zJ4 hyes HYs HCk HSe;generalize tI I f I.length++mT C gg C.length=SV at *;generalize w3.heap.size=sb at *;have n1:w4.heap.size≠eb:=by omega
        have n2:w4.heap.size≠lb2:=by omega
        have n3:w4.heap.size≠sb:=by omega
        have n4:w4.heap.size≠w.heap.size:=by omega
        have a1:w.heap.size≠eb:=by omega
        have a2:w.heap.size≠lb2:=by omega
        have a3:w.heap.size≠sb:=by omega
        have a4:eb≠w.heap.size:=by omega
        have a5:lb2≠w.heap.size:=by omega
        have a6:sb≠w.heap.size:=by omega
        go_upto_region 10 with fail
        go_region_held3 (fun w'=>w'.cell? ⟨eb,0,none⟩=some (.string ⟨xl.toArray⟩)/\w'.cell? ⟨lb2,0,none⟩=some (.string ⟨yl.toArray⟩)/\w'.cell? ⟨sb,12,none⟩=some (.slice (some ⟨gi,0,none⟩) I.length I.length)/\w'.cell? ⟨sb,13,none⟩=some (.slice (some ⟨gh,0,none⟩) C.length C.length)/\w'.cell? ⟨sb,14,none⟩=some (.slice none 0 0)) (go_keep) (
         (go_at_call 73;first
          | (refine(HSw.out _ (me (tj _ _))).mono ?_;rintro e w5 ⟨sa,sc,rfl,hcv,hb5⟩;obtain⟨⟨r0,r1,r2,r3,r4⟩,⟨z0,z1,z2,z3⟩,hB5,hR5,hl5⟩:=HAf.out w5 ((me (tj _ _)).trans hb5);have hs45:w4.heap.size<=w5.heap.size:=((me (tj w4.heap.size w4)).trans hb5).size;have n5:w5.heap.size≠eb:=(by omega);have n6:w5.heap.size≠w.heap.size:=(by omega);have n7:w5.heap.size≠lb2:=(by omega);have n8:w5.heap.size≠sb:=(by omega))
          | (refine(HSw.out _ ((tj w4.heap.size w4).drew.alloc (t9 _) _)).mono ?_;rintro e w5 ⟨sa,sc,rfl,hcv,hb5⟩;obtain⟨⟨r0,r1,r2,r3,r4⟩,⟨z0,z1,z2,z3⟩,hB5,hR5,hl5⟩:=HAf.out w5 (((tj w4.heap.size w4).drew.alloc (t9 _) _).trans (hb5.mono (by simp))))))
        ·have hlab:w5.heap[w4.heap.size]? = some (.cells #[.string ⟨xl.toArray⟩,.string ⟨yl.toArray⟩] 9 (0,0)):=(hb5.block _ (yL _ _)).trans (zM _ _)
         have HQ:=zA (HPo.out ((w5.setCell ⟨w.heap.size,0,none⟩ (.slice (some ⟨w4.heap.size,0,none⟩) 2 2)).setCell ⟨w.heap.size,1,none⟩ (.slice sa (I.length+C.length) sc)) (some ⟨w4.heap.size,0,none⟩) (.slice sa (I.length+C.length) sc) ((hB5.setCell (by simp) _).setCell (by simp) _) (KF hR5 (DM hlab) (by decide)).cel ⟨sa,sc,rfl,(KF hR5 hcv (by decide)).cel⟩);have HFr:=zA (JZ (c:=.slice (some ⟨w4.heap.size,0,none⟩) 2 2) (d:=.slice sa (I.length+C.length) sc) hR5);go_wp2_with fail
         refine ph (v:=.agg #[.slice (some ⟨w4.heap.size,0,none⟩) 2 2,.slice sa (I.length+C.length) sc]) (results_cell_row Tryz.results38 _ _ w.heap.size 101 #[.slice (some ⟨w4.heap.size,0,none⟩) 2 2,.slice sa (I.length+C.length) sc] (0,0) _ rfl HFr.out Tryz.underlying101 rfl (K7 _ _)) rfl HQ.out
        ·have hlab:(((w5.setCell ⟨w.heap.size,0,none⟩ (.slice (some ⟨w5.heap.size,0,none⟩) 2 2)).setCell ⟨w.heap.size,1,none⟩ (.slice sa (I.length+C.length) sc)).alloc (.cells #[.string ⟨xl.toArray⟩,.string ⟨yl.toArray⟩] 9)).heap[w5.heap.size]? = some (.cells #[.string ⟨xl.toArray⟩,.string ⟨yl.toArray⟩] 9 (0,0)):=xX _ _ _ (by simp)
         have hbe:Below w.heap.size w ((w5.setCell ⟨w.heap.size,0,none⟩ (.slice (some ⟨w5.heap.size,0,none⟩) 2 2)).setCell ⟨w.heap.size,1,none⟩ (.slice sa (I.length+C.length) sc)):=(hB5.setCell (by simp) _).setCell (by simp) _;have HQ:=zA (HPo.out (((w5.setCell ⟨w.heap.size,0,none⟩ (.slice (some ⟨w5.heap.size,0,none⟩) 2 2)).setCell ⟨w.heap.size,1,none⟩ (.slice sa (I.length+C.length) sc)).alloc (.cells #[.string ⟨xl.toArray⟩,.string ⟨yl.toArray⟩] 9)) (some ⟨w5.heap.size,0,none⟩) (.slice sa (I.length+C.length) sc) (hbe.alloc hbe.size _) (DM hlab).cel ⟨sa,sc,rfl,((KF hR5 hcv (by decide)).below (ge (t9 _) _)).cel⟩);have HFr:Hid ((((w5.setCell ⟨w.heap.size,0,none⟩ (.slice (some ⟨w5.heap.size,0,none⟩) 2 2)).setCell ⟨w.heap.size,1,none⟩ (.slice sa (I.length+C.length) sc)).alloc (.cells #[.string ⟨xl.toArray⟩,.string ⟨yl.toArray⟩] 9)).heap[w.heap.size]? = some (.cells #[.slice (some ⟨w5.heap.size,0,none⟩) 2 2,.slice sa (I.length+C.length) sc] 101 (0,0))):=yJ (JZ hR5);clear hlab hbe;go_wp2_with fail
         refine ph (v:=.agg #[.slice (some ⟨w5.heap.size,0,none⟩) 2 2,.slice sa (I.length+C.length) sc]) (results_cell_row Tryz.results38 _ _ w.heap.size 101 #[.slice (some ⟨w5.heap.size,0,none⟩) 2 2,.slice sa (I.length+C.length) sc] (0,0) _ rfl HFr.out Tryz.underlying101 rfl (K7 _ _)) rfl HQ.out
     ·have gg:(k:Int)<=(i:Int):=by omega
      have HNn:=zA (HNx.out (fun h=>hik (HCk.out.1 h).1));go_wp2_with fail
      go_roundw
      case rel=>exact⟨k+1,by omega,by go_num,HB7,HNn⟩
      case measure=>simp[intOf];omega
    ·obtain rfl:k=rs.length:=by omega
     have kk:¬(rs.length:Int)<(rs.length:Int):=by omega
     have HNo:Hid (∀i' k',R i' k'->i+1<=i'):=fun i' k' h=>by
      have h1:=HMk.out i' k' h;have h2:=((HCl.out i' k').1 h).2.1;omega
     have HBn:=zA (HGe.out _ HBy.out).1;go_wp2_with fail
     go_roundw
     case rel=>exact⟨i+1,by omega,by go_num,HBn,HNo⟩
     case measure=>simp[intOf];omega
  ·obtain rfl:i=rs.length:=by omega
   have ii:¬(rs.length:Int)<(rs.length:Int):=by omega
   have HQ:=zA (HFp.out ((wr.setCell ⟨w.heap.size,0,none⟩ (.slice none 0 0)).setCell ⟨w.heap.size,1,none⟩ (.slice none 0 0)) (.returned (.agg #[.slice none 0 0,.slice none 0 0])) ((zJ6.setCell (by simp) _).setCell (by simp) _) (.inr ⟨fun i' k' h=>by
    have h1:=HM.out i' k' h;have h2:=(HCl.out i' k').1 h;omega,rfl⟩))
   have HFr:=zA (JZ (c:=.slice none 0 0) (d:=.slice none 0 0) hX);have z0:wr.cell? ⟨w.heap.size,0,none⟩=some (.slice none 0 0):=(zD hX 0).trans rfl;have z1:wr.cell? ⟨w.heap.size,1,none⟩=some (.slice none 0 0):=(zD hX 1).trans rfl;have y0:wr.frozen? ⟨w.heap.size,0,none⟩=false:=by simp[World.frozen?,hX]
   have y1:wr.frozen? ⟨w.heap.size,1,none⟩=false:=by simp[World.frozen?,hX]
   go_wp2_with fail
   refine ph (v:=.agg #[.slice none 0 0,.slice none 0 0]) (results_cell_row Tryz.results38 _ _ w.heap.size 101 #[.slice none 0 0,.slice none 0 0] (0,0) _ rfl HFr.out Tryz.underlying101 rfl (K7 _ _)) rfl HQ.out
theorem YW{cv rv:Value}(k:Int)(hj:j<3+G.length):(fK iv cv rv G k)[j]? = (nE iv cv rv G)[j]? := by
 unfold fK;rw[Array.getElem?_append_left (by rw[lT];exact hj)]
theorem KU.made{cv rv:Value}{I:List yI}(h:w.heap[b]? = some (C0 iv cv rv G 0))(hG:G.length=64)(hc:gU w iv cv rv I C rs)(hf:I.length<=100):KU w b 0 I C rs G:=by
 unfold C0 at h;obtain⟨g0,g1,g2⟩:=Kw iv cv rv G;obtain⟨a1,c1,e1,k1⟩:=hc.inp;obtain⟨a2,c2,e2,k2⟩:=hc.con;obtain⟨a3,c3,e3,k3⟩:=hc.rul;refine⟨⟨a1,c1,?_,k1⟩,⟨a2,c2,?_,k2⟩,⟨a3,c3,?_,k3⟩,hc.rows,fun k hk=>?_,hf,hc.few2,hc.few3⟩
 ·rw[<-e1];exact((zD h 0).trans (YW 0 (by omega))).trans g0
 ·rw[<-e2];exact((zD h 1).trans (YW 0 (by omega))).trans g1
 ·rw[<-e3];exact((zD h 2).trans (YW 0 (by omega))).trans g2
 ·rw[lu];exact((zD h (3+k)).trans (YW 0 (by omega))).trans (XL iv cv rv G k (by omega))
def CH(F:List zF):List Bool:=xE (jI (xH F) F gZ)
theorem Fa(F:List zF):(CH F).length=64:=by unfold CH xE;rw[eO,fG];exact vE
structure zF3(F:List zF):Prop where
 few:(yG F).length<=100
 inp:sY (yG F)
 rul:∀x∈jN ((yG F).map yI.name) ((uI F).map Prod.fst) F,Q5 (yG F) (uI F).length x
def Xg(F:List zF)(w w':World)(e:Ending):Prop:=∃rs:List MX,rs.map Prod.fst=jN ((yG F).map yI.name) ((uI F).map Prod.fst) F/\Below w.heap.size w w'/\((e=.returned (.tuple #[.slice none 0 0,.slice none 0 0,.int .i64 9])/\∀i j,¬xg (yG F) (uI F).length rs (CH F) i j)\/(∃(i j:Nat) (f:Nat->Int) (g:Nat->Bool) (la sa:Option Addr) (sc:Nat),e=.returned (.tuple #[.slice la 2 2,.slice sa ((yG F).length+(uI F).length) sc,.int .i64 0])/\oU (xg (yG F) (uI F).length rs (CH F)) i j/\jX w' la [.string ⟨(tO rs i).1.label.toArray⟩,.string ⟨(tO rs j).1.label.toArray⟩]/\jX w' sa (tI (yG F) f (yG F).length++mT (uI F) g (uI F).length)/\fR (yG F) (uI F).length (dJ (yG F) (uI F).length f g)/\jW (tO rs i).1 (dJ (yG F) (uI F).length f g)=true/\jW (tO rs j).1 (dJ (yG F) (uI F).length f g)=true))
theorem UN(l:Bs)(w:World)(k:Int)(hk:k≠0)(hR:Calls Tryz.prog 37 #[.string ⟨l.toArray⟩] w fun e w'=>e=.returned (.agg (fK vB vB vB gZ k))/\Below w.heap.size w w') :
 Calls Tryz.prog 14 #[.string ⟨l.toArray⟩] w fun e w'=>e=.returned (.tuple #[.slice none 0 0,.slice none 0 0,.int .i64 k])/\Below w.heap.size w w':=by
 have HR:=zA hR;have b0:(k != 0)=true:=by simpa using hk
 clear hR hk
 go_enter Tryz.func14,Tryz.ntmps14
 go_wp2_with fail
 refine HR.out.mono ?_;rintro e w1 ⟨rfl,hb⟩;have HB:=zA hb;have hs:=hb.size;clear hb HR;have zJ0:Hid ((w1.alloc (.cells Tryz.zeroCells98 98)).heap[w1.heap.size]? = some (.cells Tryz.zeroCells98 98 (0,0))):=zM _ _;have hM:((w1.alloc (.cells Tryz.zeroCells98 98)).setRow w1.heap.size (fK vB vB vB gZ k)).heap[w1.heap.size]? = some (C0 vB vB vB gZ k):=ly _ _ _ _ _ _ zJ0.out;have c67:((w1.alloc (.cells Tryz.zeroCells98 98)).setRow w1.heap.size (fK vB vB vB gZ k)).cell? ⟨w1.heap.size,67,none⟩=some (.int .i64 k):=by unfold C0 at hM;exact(zD hM 67).trans (DD vE k)
 clear hM
 go_wp2_with (refine wpList_store_row ?zIM 98 (.tmp 5) (.tmp 8) ?ho w1.heap.size (fK vB vB vB gZ k) ?hx ?hy 98 Tryz.zeroCells98 zJ0.out (sD vE _ _ _ _) ?zIL (Zg rfl rfl rfl _ _) ?_
              case ho=>rfl
              case zIM=>rfl
              case hx=>rfl
              case hy=>rfl
              case zIL=>rw[YV,tY,tY])
 go_quiet (fail)
 go_wp2_with fail
 go_ret3
 exact⟨rfl,yA (xL (HB.out.alloc hs _) hs _) _⟩
theorem KN(l:Bs)(w:World)(F:List zF)(hO:zF3 F)(hR:Calls Tryz.prog 37 #[.string ⟨l.toArray⟩] w fun e w'=>Yf F w w' e) :
 Calls Tryz.prog 14 #[.string ⟨l.toArray⟩] w fun e w'=>Xg F w w' e:=by
 have HR:=zA hR;clear hR;have HGL:=zA (Fa F);have HRN:Hid (∀w' e,Yf F w w' e->∃iv cv rv rs,e=.returned (.agg (fK iv cv rv (CH F) 0))/\rs.map Prod.fst=jN ((yG F).map yI.name) ((uI F).map Prod.fst) F/\gU w' iv cv rv (yG F) (uI F) rs/\Below w.heap.size w w'):=fun w' e h=>h
 have HFd:Hid (∀w' b rs iv cv rv,rs.map Prod.fst=jN ((yG F).map yI.name) ((uI F).map Prod.fst) F->w'.heap[b]? = some (C0 iv cv rv (CH F) 0)->gU w' iv cv rv (yG F) (uI F) rs->Below w.heap.size w w'->Calls Tryz.prog 38 #[.pointer (some ⟨b,0,none⟩)] w' fun e w2=>((∃la sa sn sc,e=.returned (.agg #[.slice la 2 2,.slice sa sn sc])/\∀w3,Below w2.heap.size w2 w3->Xg F w w3 (.returned (.tuple #[.slice la 2 2,.slice sa sn sc,.int .i64 0])))\/(e=.returned (.agg #[.slice none 0 0,.slice none 0 0])/\∀w3,Below w2.heap.size w2 w3->Xg F w w3 (.returned (.tuple #[.slice none 0 0,.slice none 0 0,.int .i64 9]))))):=fun w' b rs iv cv rv h1 h2 h3 h4=>by
  refine(zH3 w' b 0 (yG F) (uI F) rs (CH F) (KU.made h2 (Fa F) h3 hO.few) hO.inp (fun x hx=>hO.rul x.1 ?_)).mono ?_
  ·rw[<-h1];exact List.mem_map_of_mem hx
  ·rintro e w2 ⟨hb,⟨i,j,f,g,la,sv,hfp,rfl,hl,⟨sa,sc,rfl,hs⟩,hrm,ha1,ha2⟩|⟨hn,rfl⟩⟩
   ·have hb2:=h4.trans (hb.mono h4.size)
    exact .inl ⟨la,sa,_,sc,rfl,fun w3 h3=>⟨rs,h1,hb2.trans (h3.mono hb2.size),.inr ⟨i,j,f,g,la,sa,sc,rfl,hfp,hl.below h3,hs.below h3,hrm,ha1,ha2⟩⟩⟩
   ·have hb2:=h4.trans (hb.mono h4.size)
    exact .inr ⟨rfl,fun w3 h3=>⟨rs,h1,hb2.trans (h3.mono hb2.size),.inl ⟨rfl,hn⟩⟩⟩
 clear hO;generalize CH F=G at *;generalize Xg F w=Q at *
 go_enter Tryz.func14,Tryz.ntmps14
 go_wp2_with fail
 refine HR.out.mono ?_;rintro e w1 hri;obtain⟨iv,cv,rv,rs,rfl,hrs,hmc,hb⟩:=HRN.out _ _ hri;obtain⟨o1,o2,o3⟩:=hmc.one;have HB:=zA hb;have HMc:=zA hmc;have hs:=hb.size;have HFe:=zA (fun w' b=>HFd.out w' b rs iv cv rv hrs);clear hb HR hri hmc hrs HRN HFd;have zJ0:Hid ((w1.alloc (.cells Tryz.zeroCells98 98)).heap[w1.heap.size]? = some (.cells Tryz.zeroCells98 98 (0,0))):=zM _ _;have HM:Hid (((w1.alloc (.cells Tryz.zeroCells98 98)).setRow w1.heap.size (fK iv cv rv G 0)).heap[w1.heap.size]? = some (C0 iv cv rv G 0)):=ly _ _ _ _ _ _ zJ0.out;have c67:((w1.alloc (.cells Tryz.zeroCells98 98)).setRow w1.heap.size (fK iv cv rv G 0)).cell? ⟨w1.heap.size,67,none⟩=some (.int .i64 0):=by have h8:=HM.out;unfold C0 at h8;exact(zD h8 67).trans (DD HGL.out 0)
 have HBm:Hid (Below w1.heap.size w1 ((w1.alloc (.cells Tryz.zeroCells98 98)).setRow w1.heap.size (fK iv cv rv G 0))):=xL (ge (t9 _) _) (t9 _) _
 go_wp2_with (refine wpList_store_row ?zIM 98 (.tmp 5) (.tmp 8) ?ho w1.heap.size (fK iv cv rv G 0) ?hx ?hy 98 Tryz.zeroCells98 zJ0.out (sD HGL.out _ _ _ _) ?zIL (Zg o1 o2 o3 _ _) ?_
              case ho=>rfl
              case zIM=>rfl
              case hx=>rfl
              case hy=>rfl
              case zIL=>rw[YV,tY,tY,vE,HGL.out])
 have HMm:=zA (HMc.out.below HBm.out);have zJ2:Hid (Below w.heap.size w ((w1.alloc (.cells Tryz.zeroCells98 98)).setRow w1.heap.size (fK iv cv rv G 0))):=HB.out.trans (HBm.out.mono hs);clear zJ0 c67 HBm HMc;generalize (w1.alloc (.cells Tryz.zeroCells98 98)).setRow w1.heap.size (fK iv cv rv G 0)=wM at *;refine(HFe.out wM w1.heap.size HM.out HMm.out zJ2.out).mono ?_;rintro e w2 (⟨la,sa,sn,sc,rfl,hex⟩|⟨rfl,zJ4⟩)
 ·have HQ:=zA hex
  clear hex HFe HMm HM;go_wp2_with fail
  go_quiet (fail)
  go_wp2_with fail
  go_ret3
  exact HQ.out _ (yA (ge (t9 _) _) _)
 ·have HQ:=zA (zJ4 _ ((tj w2.heap.size w2).alloc (t9 _) (.cells #[.slice none 0 0,.slice none 0 0] 101)))
  clear zJ4 HFe HMm HM;go_wp2_with fail
  first|exact HQ.out|(go_ret3;exact HQ.out)
theorem Zi{F:List zF}(h:uO F):(uI F).map Prod.fst=zT F:=by
 rw[kr F h.heads h.nam];unfold zAF;rw[List.map_map];refine List.ext_getElem (by simp) fun i h1 h2=>?_;simp only[List.getElem_map,List.getElem_range,Function.comp];rw[l8,pe h2];rfl
theorem sE{F:List zF}(h:uO F):(uI F).length=(zT F).length:=by rw[<-Zi h,ms]
theorem Vw{r:Nat}(hr:r<(rO ls).length):(rO ls).getD r Vc∈ls/\((rO ls).getD r Vc).kind=3:=by
 have hm:(rO ls).getD r Vc∈rO ls:=nN _ hr;obtain⟨h1,h2⟩:=ma.1 hm;exact⟨h1,bg h2⟩
theorem U3{x:zF}(hx:x∈ls)(hk:x.kind=3):jZ ls x.conc=true:=mj.2 ⟨x,hx,by unfold Vd;rw[tm hk];simp⟩
theorem Um(hi:i<8)(hj:j<8):ZP G (i:Int) (j:Int)=gA G i j:=by
 unfold ZP;rw[tm (show (0:Int)<=(i:Int) by omega),tm (show (i:Int)<8 by omega),tm (show (0:Int)<=(j:Int) by omega),tm (show (j:Int)<8 by omega)];simp
theorem DY(hA:yP ls us)(h:uO ls){x:zF}(hx:x∈ls)(hk:x.kind=3)(hL:LT x u)(hu:cA u 0=zR):(dK (yT us) u).head=(xI ls).length+zH (zT ls) x.conc:=by
 obtain⟨w,hr⟩:=hL.rule hu;obtain⟨h1,c,h2,h3⟩:=K9 h (U3 hx hk);show zH (yT us) (tA u 3)=_;rw[hr.conc,bT hA,dW,tg (by omega),tl (by omega)]
theorem VF(h:uO ls)(hr:rs.map Prod.fst=jN ((yG ls).map yI.name) ((uI ls).map Prod.fst) ls):rs.length=(rO ls).length/\∀i,i<(rO ls).length->(tO rs i).1=uR (xI ls) (zT ls) ((rO ls).getD i Vc):=by
 rw[Zi h,Jg]at hr;have hl:rs.length=(rO ls).length:=by have:=congrArg List.length hr;simpa using this
 refine⟨hl,fun i hi=>?_⟩;have h1:i<rs.length:=by omega
 have e1:(rs.map Prod.fst).getD i (uR [] [] Vc)=(tO rs i).1:=by simp[tO,List.getD,h1]
 rw[<-e1,hr];exact Qd _ _ _ _ _ hi
theorem Ff(hA:yP ls us)(h:uO ls)(hr:rs.map Prod.fst=jN ((yG ls).map yI.name) ((uI ls).map Prod.fst) ls)(i j:Nat):xg (yG ls) (uI ls).length rs (CH ls) i j ↔ Be us i j:=by
 obtain⟨hl,zJ8⟩:=VF h hr;obtain⟨hl2,hat2⟩:=Kf hA (yT us);have h8:(rO ls).length<=8:=by rw[zFS];exact h.rules
 unfold xg Be;rw[hl,hl2,sE h];by_cases hij:i<j
 ·by_cases hj:j<(rO ls).length
  ·have hi:i<(rO ls).length:=by omega
   obtain⟨u,u1,u2,u3⟩:=hat2 i hi;obtain⟨v,v1,v2,v3⟩:=hat2 j hj;obtain⟨x1,x2⟩:=Vw hi;obtain⟨y1,y2⟩:=Vw hj;have hc:=zx hA h x1 x2 u1 u2 y1 y2 v1 v2;rw[zJ8 i hi,zJ8 j hj,u3,v3,hc,DY hA h x1 x2 u1 u2,DY hA h y1 y2 v1 v2,Qx hA h (by omega) (by omega),Qx hA h (by omega) (by omega)];unfold BN;rw[zJ8 i hi,zJ8 j hj,Um (by omega) (by omega),Um (by omega) (by omega),tz,tz,py,Bool.not_eq_true',Bool.not_eq_true'];show (i<j/\j<(rO ls).length/\(zH (zT ls) ((rO ls).getD i Vc).conc=zH (zT ls) ((rO ls).getD j Vc).conc/\gA (CH ls) i j=false/\gA (CH ls) j i=false)/\_) ↔ (i<j/\j<(rO ls).length/\_/\gA (CH ls) i j=false/\gA (CH ls) j i=false/\_);constructor
   ·rintro⟨a,b,⟨c,d,e⟩,f⟩
    exact⟨a,b,by rw[c],d,e,f⟩
   ·rintro⟨a,b,c,d,e,f⟩
    exact⟨a,b,⟨by omega,d,e⟩,f⟩
  ·constructor <;> (rintro⟨_,b,_⟩;exact absurd b hj)
 ·constructor <;> (rintro⟨a,_⟩;exact absurd a hij)
theorem zG6(h:uO ls)(hg:∀x∈ls,gE x):zF3 ls:=by
 refine⟨by have:=Uf h;omega,DR h hg,fun r hr=>?_⟩;rw[Zi h,Jg]at hr;obtain⟨x,hx,rfl⟩:=ml.1 hr;obtain⟨h1,h2⟩:=ma.1 hx;rw[sE h];exact zFR h h1 (bg h2) (hg x h1)
theorem Zh(hA:yP ls us){r:pU}(hr:r∈vO (yT us) us):∃x u,x∈ls/\x.kind=3/\LT x u/\cA u 0=zR/\r=dK (yT us) u:=by
 obtain⟨hl,zJ8⟩:=Kf hA (yT us);obtain⟨i,hi,rfl⟩:=f8 hr;have hi2:i<(rO ls).length:=by omega
 obtain⟨u,u1,u2,u3⟩:=zJ8 i hi2;obtain⟨x1,x2⟩:=Vw hi2;refine⟨_,u,x1,x2,u1,u2,?_⟩;rw[<-u3];simp[List.getD,hi]
theorem JD(hg:∀x∈ls,gE x){x:zF}(hx:x∈ls)(hL:LT x u)(hu:cA u 0=zR):∀z∈vX (dK (yT us) u).steps,-1000000<=z/\z<=1000000:=fun z hz=>by
 obtain⟨w,hr⟩:=hL.rule hu;obtain⟨k,y0,hgr⟩:=hr.gr
 have eS:(dK (yT us) u).steps=vN (yT us) (u.length+1) (u.drop (w+1)):=by
  show vN (yT us) (u.length+1) (u.drop (iZ u+1))=_;rw[hr.wAt]
 rw[eS]at hz;obtain⟨s,hs,rfl⟩:=ml.1 hz;obtain⟨h1,h2⟩:=ma.1 hs;have hk:s.kind=2:=bg h2;rcases Jd (names:=yT us) hgr (u.length+1) (by rw[ty];omega) s h1 with h0|h0|⟨y,hy,hyk,rfl⟩|⟨y,hy,hyk,-,rfl⟩|⟨y,hy,hyk,ho,rfl⟩
 ·omega
 ·omega
 ·exact absurd hk (by simp)
 ·have:=qx (hg x hx).nodes hy hyk
  show -1000000<=y.num/\y.num<=1000000;omega
 ·exact absurd hk (by simp)
theorem BH(hA:yP ls us)(h:uO ls)(hg:∀x∈ls,gE x)(k:Nat):0<=(uK us (yT us) (qC us).length k).1/\(uK us (yT us) (qC us).length k).1<=9999/\0<=(uK us (yT us) (qC us).length k).2/\(uK us (yT us) (qC us).length k).2<=9999:=by
 by_cases hn:k<(yG ls).length/\xT (yG ls) k=true
 ·rw[K6 hA h hn.1 hn.2]
  have:=(DR h hg).num k hn.1 hn.2;show 0<=(kX (yG ls) k).low/\(kX (yG ls) k).low<=9999/\0<=(kX (yG ls) k).high/\(kX (yG ls) k).high<=9999;omega
 ·have e:uK us (yT us) (qC us).length k=(0,1):=by
   by_cases hk:k<(yT us).length
   ·refine((Cw hA h).isF k hk ?_).2
    unfold aT;by_cases h1:k<(yG ls).length
    ·rw[tm h1,md]
     cases hc:xT (yG ls) k with
     | false=>rfl
     | true=>exact absurd ⟨h1,hc⟩ hn
    ·rw[th h1];rfl
   ·refine Xz (.inl ?_)
    have:(yT us).length=(qC us).length+(qM us).length:=by unfold yT;rw[tq]
    omega
  rw[e];decide
theorem zCL(hA:yP ls us)(h:uO ls)(hg:∀x∈ls,gE x):KR ls us:=by
 have hLn:(yT us).length=(xI ls).length+(zT ls).length:=by rw[bT hA,tq]
 refine⟨hA,fun h0=>?_,?_,fun x hx y hy z hz=>?_,fun r hr vs hv=>?_⟩
 ·have hm:(vO (yT us) us)[0]∈vO (yT us) us:=List.getElem_mem h0
  obtain⟨x,u,x1,x2,-⟩:=Zh hA hm;obtain⟨-,c,-,hc⟩:=K9 h (U3 x1 x2);omega
 ·rw[(Kf hA (yT us)).1,ZL hA,jg];simp
 ·obtain⟨a,u,a1,a2,a3,a4,rfl⟩:=Zh hA hx
  obtain⟨b,v,b1,b2,b3,b4,rfl⟩:=Zh hA hy;unfold uJ at hz;rw[pt,pt]at hz;rcases hz with (hz|hz)|hz
  ·unfold sQ at hz
   obtain⟨k,-,hk⟩:=List.mem_flatMap.1 hz;have hs:=BH hA h hg k;unfold JB at hk;split at hk
   ·rcases pi.1 hk with rfl|hk
    ·omega
    ·rw[pu]at hk;subst hk;omega
   ·cases hk
  ·exact JD hg a1 a3 a4 z hz
  ·exact JD hg b1 b3 b4 z hz
 ·obtain⟨a,u,a1,a2,a3,a4,rfl⟩:=Zh hA hr
  have hR:sX (xI ls) (zT ls) (zBK (xI ls).length vs) vs:=Kk (by rw[hv,hLn]);rw[lD hA,bT hA];exact(sS hR (h.ruOk a1 a2) a3 a4).1
structure zI5(l:Bs):Prop where
 few:l.length<=4000
 read:(xZ l).2.2=false
 lines:yP (xZ l).1 (yX l)
 calm:uO (xZ l).1
 good:∀x∈(xZ l).1,gE x
theorem zGR{l:Bs}(hk:(aX l).1=0):zI5 l:=by
 have hp:l.length<=4000->UO 4001 l/\UP l:=fun h=>ZF h (by decide)
 have hl4:l.length<=4000:=by
  rcases po 4000 l.length with h|h
  ·unfold aX at hk;rw[tl h]at hk;exact absurd (show (1:Int)=0 from hk) (by decide)
  ·exact h
 have hrd:(xZ l).2.2=false:=by
  cases hr:(xZ l).2.2 with
  | false=>rfl
  | true=>unfold aX at hk;rw[tg (by omega),hr]at hk;exact absurd (show (2:Int)=0 from hk) (by decide)
 have hck:(kC (xZ l).1).1=0:=by unfold aX at hk;rw[tg (by omega),hrd]at hk;exact hk
 exact⟨hl4,hrd,(hp hl4).2.lines hrd,zI0 hck,(hp hl4).1.good hrd⟩
theorem zCB(l:Bs)(w:World)(hmax:l.length<=maxLen)(hf:jJ w):∀w',Below w.heap.size w w'->Calls Tryz.prog 39 #[.string ⟨l.toArray⟩] w' fun e w''=>e=.returned (.tuple #[.int .i64 (aX l).1,.int .i64 (aX l).2])/\Below w'.heap.size w' w'':=fun w' hb=>by
 have hp:l.length<=4000->UO 4001 l/\UP l:=fun h=>ZF h (by decide)
 have hlines:l.length<=4000->tS l<0->(xZ l).2.2=false:=fun h1 h2=>by
  cases hr:(xZ l).2.2 with
  | false=>rfl
  | true=>have:=(hp h1).1.fails hr;omega
 have h1:=KP l w' hmax (hf.below hb) (fun h1 h2=>⟨_,(hp h1).2.lines (hlines h1 h2)⟩);rw[zAP hp]at h1;exact h1
theorem zEM{F:Nat->List Value}(hF:∀j,(F j).length=2){r:Nat}(hi:i<n)(hr:r<2):((List.range n).flatMap F)[i*2+r]? = (F i)[r]? := by
 rw[zV F 2 hF 0 (List.range n) i r (by simpa using hi) hr];simp[List.getD,hi]
theorem zFT{F:Nat->List Value}(hF:∀j,(F j).length=2)(n:Nat):((List.range n).flatMap F).length=n*2:=by
 rw[Qe F 2 hF,List.length_range]
theorem zFD{I:List yI}{g:Nat->Bool}:(∀i,i<I.length->(Vh (dJ I H f g)).getD i 0=f i)/\∀c,c<H->(Vh (dJ I H f g)).getD (I.length+c) 0=if g c=true then 1 else 0:=by
 refine⟨fun i hi=>?_,fun c hc=>?_⟩
 ·simp[Vh,dJ,List.getD,pw,hi]
 ·simp[Vh,dJ,List.getD,hc]
theorem FD{I:List yI}{g:Nat->Bool}(h:jX w sa (tI I f I.length++mT C g C.length)):x5 w sa (I.map yI.name++C.map Prod.fst) (Vh (dJ I C.length f g)):=by
 intro a ha;obtain⟨u1,u2⟩:=zFD (I:=I) (H:=C.length) (f:=f) (g:=g);have l1:(tI I f I.length).length=I.length*2:=zFT (fun _=>rfl) _
 have key:∀r,r<2->(tI I f I.length++mT C g C.length)[a*2+r]? = [Value.string ⟨((I.map yI.name++C.map Prod.fst).getD a []).toArray⟩,.int .i64 ((Vh (dJ I C.length f g)).getD a 0)][r]? := fun r hr=>by
  by_cases hi:a<I.length
  ·rw[pw (by omega),u1 a hi]
   unfold tI;rw[zEM (fun _=>rfl) hi hr];congr 3
   simp[kX,List.getD,pw,hi]
  ·obtain⟨c,rfl⟩:∃c,a=I.length+c:=⟨a-I.length,by omega⟩
   have hc:c<C.length:=by simp at ha;omega
   rw[pf (by omega),u2 c hc,l1,show (I.length+c)*2+r-I.length*2=c*2+r by omega];unfold mT;rw[zEM (fun _=>rfl) hc hr];congr 3
   simp[List.getD,hc]
 obtain⟨g0,e0,c0⟩:=h.at ((key 0 (by decide)).trans rfl);obtain⟨g1,e1,c1⟩:=h.at ((key 1 (by decide)).trans rfl);obtain rfl:g0=g1:=by rw[e0]at e1;simpa using e1
 exact⟨g0,e0,c0,c1⟩
theorem zBX(hA:yP ls us)(h:uO ls)(hr:rs.map Prod.fst=jN ((yG ls).map yI.name) ((uI ls).map Prod.fst) ls){la:Option Addr}{g:Nat->Bool}(hF:oU (xg (yG ls) (uI ls).length rs (CH ls)) i j)(hl:jX w la [.string ⟨(tO rs i).1.label.toArray⟩,.string ⟨(tO rs j).1.label.toArray⟩])(hs:jX w sa (tI (yG ls) f (yG ls).length++mT (uI ls) g (uI ls).length))(hm:fR (yG ls) (uI ls).length (dJ (yG ls) (uI ls).length f g))(a1:jW (tO rs i).1 (dJ (yG ls) (uI ls).length f g)=true)(a2:jW (tO rs j).1 (dJ (yG ls) (uI ls).length f g)=true) :
 Yd us w la sa i j (Vh (dJ (yG ls) (uI ls).length f g))/\(yG ls).length+(uI ls).length=(yT us).length:=by
 obtain⟨hl1,zJ8⟩:=VF h hr;obtain⟨hl2,hat2⟩:=Kf hA (yT us);have e:xg (yG ls) (uI ls).length rs (CH ls)=Be us:=by funext i k;exact propext (Ff hA h hr i k)
 rw[e]at hF;have hj:j<(rO ls).length:=by rw[<-hl2];exact hF.1.2.1
 have hi:i<(rO ls).length:=by have:=hF.1.1;omega
 have hnm:yT us=(yG ls).map yI.name++(uI ls).map Prod.fst:=by rw[bT hA,Zi h];rfl
 have zIC:(yG ls).length+(uI ls).length=(yT us).length:=by rw[hnm];simp
 obtain⟨u,u1,u2,u3⟩:=hat2 i hi;obtain⟨v,v1,v2,v3⟩:=hat2 j hj;obtain⟨x1,x2⟩:=Vw hi;obtain⟨y1,y2⟩:=Vw hj;have hm2:=hm;rw[sE h]at hm2;have hU:=DT hA h hm2;have hN:=Cw hA h;have hR:sX (xI ls) (zT ls) (dJ (yG ls) (uI ls).length f g) (Vh (dJ (yG ls) (uI ls).length f g)):=Kj (by rw[hm.inl,tR]) (by rw[hm.hal,sE h]);rw[<-sE h]at hU;refine⟨⟨hF,?_,by rw[hnm];exact FD hs,hU.len,fun a ha=>?_,?_,?_⟩,zIC⟩
 ·rw[zJ8 i hi,zJ8 j hj]at hl
  rw[u3,v3];rw[show (dK (yT us) u).label=(uR (xI ls) (zT ls) ((rO ls).getD i Vc)).label from u1.name,show (dK (yT us) v).label=(uR (xI ls) (zT ls) ((rO ls).getD j Vc)).label from v1.name];exact hl
 ·cases hn:aT ls a
  ·rw[(hN.isF a ha hn).2]
   have:=hU.bits a ha hn;simp only;omega
  ·exact hU.nums a ha hn
 ·rw[zJ8 i hi]at a1
  rw[u3,lD hA,bT hA,(sS hR (h.ruOk x1 x2) u1 u2).2];exact a1
 ·rw[zJ8 j hj]at a2
  rw[v3,lD hA,bT hA,(sS hR (h.ruOk y1 y2) v1 v2).2];exact a2
theorem QB(l:Bs)(w:World)(P:World->Option Addr->Nat->Nat->Option Addr->Nat->Nat->Int->Prop)(hC:Calls Tryz.prog 14 #[.string ⟨l.toArray⟩] w fun e w'=>∃la n c sa m sc k,e=.returned (.tuple #[.slice la n c,.slice sa m sc,.int .i64 k])/\Below w.heap.size w w'/\P w' la n c sa m sc k)(hR:∀w' la n c sa m sc k,Below w.heap.size w w'->P w' la n c sa m sc k->Calls Tryz.prog 15 #[.string ⟨l.toArray⟩,.slice la n c,.slice sa m sc,.int .i64 k] w' fun e w''=>e=.returned (.bool true)/\Below w'.heap.size w' w'') :
 Calls Tryz.prog 7 #[.string ⟨l.toArray⟩] w fun e w'=>e=.returned (.bool true)/\Below w.heap.size w w':=by
 have HC:=zA hC;have HR:=zA hR;clear hC hR
 go_enter Tryz.func7,Tryz.ntmps7
 go_wp2_with fail
 refine HC.out.mono ?_;rintro e w1 ⟨la,n,c,sa,m,sc,k,rfl,hb1,hp⟩;have HB1:=zA hb1;have HRw:=zA (HR.out w1 la n c sa m sc k hb1 hp);clear hb1 hp HR HC;go_wp2_with fail
 refine(zHR k w1).mono ?_;rintro e w2 ⟨rfl,hw⟩;obtain rfl:=hw.symm;go_wp2_with fail
 refine HRw.out.mono ?_;rintro e w3 ⟨rfl,hb3⟩;have HB3:Hid (Below w.heap.size w w3):=HB1.out.trans (hb3.mono HB1.out.size);clear hb3 HRw;go_wp2_with fail
 go_ret
 exact⟨rfl,HB3.out⟩
theorem UX(l:Bs)(w:World)(hmax:l.length<=maxLen)(hfo:jJ w) :
 Calls Tryz.prog 7 #[.string ⟨l.toArray⟩] w fun e w'=>e=.returned (.bool true)/\Below w.heap.size w w':=by
 have hp:l.length<=4000->UO 4001 l/\UP l:=fun h=>ZF h (by decide);have hC:=zCB l w hmax hfo
 have bad:∀k:Int,k≠0->(aX l).1=k->Calls Tryz.prog 37 #[.string ⟨l.toArray⟩] w (fun e w'=>e=.returned (.agg (fK vB vB vB gZ k))/\Below w.heap.size w w')->Calls Tryz.prog 7 #[.string ⟨l.toArray⟩] w fun e w'=>e=.returned (.bool true)/\Below w.heap.size w w':=fun k hk hc hR=>by
  refine QB l w (fun _ la n c sa m sc k'=>la=none/\n=0/\c=0/\sa=none/\m=0/\sc=0/\k'=k) ((UN l w k hk hR).mono ?_) ?_
  ·rintro e w' ⟨h1,h2⟩
   exact⟨none,0,0,none,0,0,k,h1,h2,rfl,rfl,rfl,rfl,rfl,rfl,rfl⟩
  ·rintro w' la n c sa m sc k' hb ⟨rfl,rfl,rfl,rfl,rfl,rfl,rfl⟩
   have h1:=hC w' hb;rw[hc]at h1;exact UY l w' k' _ hk h1
 by_cases hl:4000<l.length
 ·have ec:aX l=(1,0):=by unfold aX;rw[tl hl]
  exact bad 1 (by decide) (by rw[ec]) (Q0 l w 1 (.inl rfl) 0 (fun o=>QU l (w.alloc o) hmax hl))
 ·have hl4:l.length<=4000:=by omega
  cases hf:(xZ l).2.2
  ·have ec:aX l=kC (xZ l).1:=by unfold aX;rw[tg hl,hf]
   have hR:=yz l w hl4 hf ((hp hl4).1.good hf) (hp hl4).1.many (zG1 hl4 hf) zD4;by_cases hk:(kC (xZ l).1).1=0
   ·have hc:(aX l).1=0:=by rw[ec];exact hk
    have hT:=zGR hc;have hO:=zCL hT.lines hT.calm hT.good;have zIP:∀u∈yX l,cA u 0=zR->zB6 u:=fun u hu hr=>by obtain⟨x,hx⟩:=hT.lines.mem u hu;exact zHP hx hr
    refine QB l w (fun w' la n c sa m sc k=>(la=none/\n=0/\c=0/\sa=none/\m=0/\sc=0/\k=9/\∀i j,¬Be (yX l) i j)\/(n=2/\c=2/\m=(yT (yX l)).length/\k=0/\∃i j vs,Yd (yX l) w' la sa i j vs)) ((KN l w (xZ l).1 (zG6 hT.calm hT.good) (hR.mono fun e w' h=>h.2 hk)).mono ?_) ?_
    ·rintro e w' ⟨rs,h1,h2,⟨h3,h4⟩|⟨i,j,f,g,la,sa,sc,h3,h4,h5,h6,h7,h8,h9⟩⟩
     ·exact⟨none,0,0,none,0,0,9,h3,h2,.inl ⟨rfl,rfl,rfl,rfl,rfl,rfl,rfl,fun i j h=>h4 i j ((Ff hT.lines hT.calm h1 i j).2 h)⟩⟩
     ·obtain⟨t1,t2⟩:=zBX hT.lines hT.calm h1 h4 h5 h6 h7 h8 h9
      exact⟨la,2,2,sa,_,sc,0,h3,h2,.inr ⟨rfl,rfl,t2,rfl,i,j,_,t1⟩⟩
    ·intro w' la n c sa m sc k hb h
     have h1:=hC w' hb;rw[hc]at h1;rcases h with ⟨rfl,rfl,rfl,rfl,rfl,rfl,rfl,zJ4⟩|⟨rfl,rfl,rfl,rfl,i,j,vs,ht⟩
     ·exact KZ l w' _ _ hT.few hO zIP zJ4 h1
     ·exact KY l w' _ _ la sa sc i j vs hT.few hO zIP ht h1
   ·exact bad _ hk (by rw[ec]) (hR.mono fun e w' h=>h.1 hk)
  ·have ec:aX l=(2,((yW (Z9 l) (xZ l).2.1).p:Int)):=by unfold aX;rw[tg hl,hf]
   refine bad 2 (by decide) (by rw[ec]) (Q0 l w 2 (.inr rfl) ((yW (Z9 l) (xZ l).2.1).p:Int) (fun o=>(Z8 l (w.alloc o) (by omega)).mono ?_));rintro e w' ⟨h1,h2⟩;unfold Q6 at h1;rw[hf]at h1;exact⟨h1,h2⟩
end Go.Proofs.YtnbpdffdnphbeaaGreatDoor
