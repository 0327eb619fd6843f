import Derived.Test.YtnbpdffdnphbeaaGreatDoorLex
import Derived.Deep.AppendLies
set_option maxHeartbeats 1000000
namespace Go.Proofs.YtnbpdffdnphbeaaGreatDoor
open Go.RowKit
def B6(t:Nat × Bs):List Value:=[.string ⟨t.2.toArray⟩,.int .i64 t.1,.string ⟨(zR t.2).toArray⟩]
def oZ(ts:List (Nat × Bs)):List Value:=ts.flatMap B6
theorem CB(ts:List (Nat × Bs))(t:Nat × Bs):oZ (ts++[t])=oZ ts++B6 t:=by simp[oZ]
theorem zDM:(Tryz.prog.info? 193).map (fun i=>(i.zero,i.size,i.bytes))=some (some (.agg #[.string ⟨#[]⟩,.int .i64 0,.string ⟨#[]⟩]),3,40):=by kernel_rfl
theorem DX(l:Bs)(p:Nat):(ByteArray.mk l.toArray).extract p l.length=⟨(l.drop p).toArray⟩:=by
 rw[ByteArray.extract_mk,cf (by simp)]
theorem zZ(w:World)(cs:Array Value)(T:TypeId)(l:List Value)(h:cs.toList=l) :
 ∀j u,l[j]? = some u->(w.alloc (.cells cs T)).cell? ((⟨w.heap.size,0,none⟩:Addr).add j)=some u:=by
 subst h;exact World.news_of_block (heap_alloc_new w _)
theorem Qs(l:Bs)(w:World)(hl:l.length<=4000) :
 Calls Tryz.prog 109 #[.string ⟨l.toArray⟩] w fun e w'=>∃v,e=.returned v/\w'.ownsRow w.heap.size 193 3 v (yR l 0).length (oZ (yR l 0))/\Below w.heap.size w w':=by
 obtain⟨i0,hi,hz0,hz1,hz2⟩:=dp zDM;obtain⟨B,hB⟩:∃B,B=w.heap.size:=⟨_,rfl⟩;have HB:Hid (B=w.heap.size):=hB;rw[<-hB];clear hB
 go_enter Tryz.func109,Tryz.ntmps109
 go_wp2
 go_loopw [3,4] (fun lv av wr=>∃(p:Nat) (ts:List (Nat × Bs)),p<=l.length/\av=.int .i64 p/\wr.ownsRow B 193 3 lv ts.length (oZ ts)/\Below B w wr/\Hid (ts++yR l p=yR l 0)) (fun _ av _=>l.length-(intOf av).toNat)
 case atStart=>exact⟨0,[],tr _,rfl,lq _ _ _ _,tl _ _,rfl⟩
 case round =>
  obtain⟨p,ts,hp,rfl,zID,zIX,hH⟩:=hrel;by_cases zIB:p<l.length
  ·have hd0:0<(l.drop p).length:=by simp;omega
   have hn1:=nB (l.drop p);have hn2:=Ky hd0;rw[ty]at hn2;obtain⟨n,hn⟩:∃n,vZ (l.drop p)=n:=⟨_,rfl⟩;have HN:Hid (vZ (l.drop p)=n):=hn;rw[hn]at hn1 hn2;clear hn;obtain⟨t,ht⟩:∃t,(l.drop p).take n=t:=⟨_,rfl⟩;have hx1:(ByteArray.mk l.toArray).extract p (p+n)=⟨t.toArray⟩:=by rw[ByteArray.extract_mk,<-ht,show p+n-p=n by omega]
   have htn:t.length=n:=by rw[<-ht,p9,ty];omega
   have hk0:t.getD 0 0=l.getD p 0:=by rw[<-ht];simp only[List.getD,bv,List.getElem?_drop,pq];rw[tj (by omega)]
   obtain⟨k,hk⟩:∃k,so (l.getD p 0)=k:=⟨_,rfl⟩;have HK:Hid (∀h:0<(ByteArray.mk t.toArray).size,tS (((ByteArray.mk t.toArray)[0]'h).toNat:Int)=k):=zEZ (by rw[hk0];exact hk);have ht0:0<t.length:=by omega
   have ht1:t.length<=4000:=by omega
   by_cases h3:k=3
   ·subst h3
    have HF:Hid (ts++yR l (p+n)=yR l 0):=by have:=hH.out;rw[Q7 zIB hk,HN.out]at this;exact this
    clear hk hk0 hH ht htn
    go_wp2_with (first
     | (go_at_call 172;rw[DX];refine(VG (l.drop p) _ hd0 (by simp;omega)).mono ?_;rintro e w' ⟨rfl,hw⟩;obtain rfl:=hw.symm;rw[HN.out])
     | (go_at_call 173;refine(kS _ 3 (HK.out _) _).mono ?_;rintro e w' ⟨rfl,hw⟩;obtain rfl:=hw.symm))
    go_roundw
    case rel=>exact⟨p+n,ts,by omega,by go_num,zID,zIX,HF.out⟩
    case measure=>simp[intOf];omega
   ·have h3':(k != 3)=true:=by simp[h3]
    have HF:Hid ((ts++[(p,t)])++yR l (p+n)=yR l 0):=by
     have:=hH.out;rw[Xe zIB (by rw[hk];exact h3),HN.out,ht]at this;rw[Hid,mq];exact this
    have zJ1:ts.length<=4000:=by
     have h1:=congrArg List.length HF.out;have h2:=kW l 0;simp only[tq]at h1;omega
    clear hk hk0 hH ht htn h3
    go_wp2_with (first
     | (go_at_call 172;rw[DX];refine(VG (l.drop p) _ hd0 (by simp;omega)).mono ?_;rintro e w' ⟨rfl,hw⟩;obtain rfl:=hw.symm;rw[HN.out])
     | (go_at_call 173;refine(kS _ k (HK.out _) _).mono ?_;rintro e w' ⟨rfl,hw⟩;obtain rfl:=hw.symm)
     | (go_at_call 174;refine(zr t _ ht0 ht1).mono ?_;rintro e w' ⟨rfl,hw⟩;obtain rfl:=hw.symm)
     | (at_builtin;refine wpList_append_own _ rfl _ _ 194 rfl B 193 i0 _ 3 40 Tryz.underlying194 hi hz0 hz1 hz2 rfl (by decide) _ _ _ rfl (zID.alloc _) ⟨wr.heap.size,0,none⟩ 1 1 (B6 (p,t)) rfl rfl ?c1 ?c2 ?c3 ?c4 ?c5 ?_))
    case c1=>exact zZ _ _ _ _ rfl
    case c2=>intro u hu;simp[B6]at hu;rcases hu with rfl|rfl|rfl <;> rfl
    case c3=>unfold maxLen;omega
    case c4=>omega
    case c5=>have h5:=zIX.size;have h6:=HB.out;simp;omega
    intro v' w1 zIE zIC _
    have hbel1:Below B w w1:=(zIX.alloc (by have h5:=zIX.size;have h6:=HB.out;omega) _).grown zIC (by have h5:=zIX.size;have h6:=HB.out;simp;omega) (by
     intro k hk;rcases zID.2 with ⟨h1,_⟩|⟨g,cap,yV,h1,h2,_⟩
     ·rw[h1]at hk;simp[Value.ownBlock]at hk
     ·rw[h1]at hk;simp[Value.ownBlock]at hk;omega)
    clear zID zIX zIC
    go_wp2
    go_roundw
    case rel=>exact⟨p+n,ts++[(p,t)],by omega,by go_num,by rw[CB];simpa using zIE,hbel1,HF.out⟩
    case measure=>simp[intOf];omega
  ·have HF:Hid (ts=yR l 0):=by have:=hH.out;rw[Xf zIB,ce]at this;exact this
   clear hH
   go_wp2
   go_ret
   exact⟨_,rfl,by rw[<-HF.out];exact zID,zIX⟩
def jF(w:World):Prop:=∀j,j<129->w.cell? ⟨0,j,none⟩=some (.string ⟨(xQ.getD j []).toArray⟩)
theorem Ci(st cl:Bs)(op:Int)(h1:¬st=uQ)(h2:¬st=qF)(w:World)(hf:jF w) :
 Calls Tryz.prog 128 #[.string ⟨st.toArray⟩,.string ⟨cl.toArray⟩,.int .i64 op] w fun e w'=>e=.returned (.string ⟨(zO st cl op).toArray⟩)/\w'=w:=by
 have HW:Hid (jF w):=hf;clear hf;have HF:Hid (zO st cl op=xL st cl 43 0):=by unfold Hid zO;simp[h1,h2]
 have b1:(st==[110,97,109,101,100])=false:=by simpa[uQ] using h1
 have b2:(st==[100,111,110,101])=false:=by simpa[qF] using h2
 clear h1 h2
 go_enter Tryz.func128,Tryz.ntmps128
 go_wp2
 go_loop [7] (fun iv=>∃i:Nat,i<=43/\iv=.int .i64 i/\Hid (xL st cl (43-i) i=zO st cl op)) (fun iv=>43-(intOf iv).toNat)
 case atStart=>exact⟨0,by omega,rfl,HF.out.symm⟩
 case round =>
  obtain⟨i,hi,rfl,HI⟩:=hrel;by_cases zIB:i<43
  ·have hc0:=HW.out (i*3) (by omega)
   have hc1:=HW.out (i*3+1) (by omega);have hc2:=HW.out (i*3+2) (by omega);obtain⟨a,ha⟩:∃a,xQ.getD (i*3) []=a:=⟨_,rfl⟩;obtain⟨b,hb⟩:∃b,xQ.getD (i*3+1) []=b:=⟨_,rfl⟩;obtain⟨c,hc⟩:∃c,xQ.getD (i*3+2) []=c:=⟨_,rfl⟩;rw[ha]at hc0;rw[hb]at hc1;rw[hc]at hc2;have HA:Hid (xQ.getD (i*3) []=a):=ha;have HB:Hid (xQ.getD (i*3+1) []=b):=hb;have HC:Hid (xQ.getD (i*3+2) []=c):=hc;clear ha hb hc;by_cases e1:a=st
   ·have f1:(a==st)=true:=by simpa using e1
    by_cases e2:b=cl
    ·have HR:Hid (zO st cl op=c):=by
      have h1:=HI.out;rw[jR zIB (by rw[HA.out];exact e1) (by rw[HB.out];exact e2),HC.out]at h1;exact h1.symm
     have f2:(b==cl)=true:=by simpa using e2
     clear e1 e2 HI HA HB HC
     go_wp2
     go_ret;exact⟨yS HR.out.symm,rfl⟩
    ·have HR:Hid (xL st cl (43-(i+1)) (i+1)=zO st cl op):=by
      have h1:=HI.out;rw[xJ zIB (by rw[HB.out];exact fun h=>e2 h.2)]at h1;exact h1
     have f2:(b==cl)=false:=by simpa using e2
     clear e1 e2 HI HA HB HC
     go_wp2
     go_round
     case rel=>exact⟨i+1,by omega,by go_num,HR.out⟩
     case measure=>simp[intOf];omega
   ·have f1:(a==st)=false:=by simpa using e1
    have HR:Hid (xL st cl (43-(i+1)) (i+1)=zO st cl op):=by
     have h1:=HI.out;rw[xJ zIB (by rw[HA.out];exact fun h=>e1 h.1)]at h1;exact h1
    clear e1 HI HA HB HC
    go_wp2
    go_round
    case rel=>exact⟨i+1,by omega,by go_num,HR.out⟩
    case measure=>simp[intOf];omega
  ·have HR:Hid (zO st cl op=[]):=by have h1:=HI.out;rw[jS zIB]at h1;exact h1.symm
   clear HI
   go_wp2
   all_goals (go_ret;exact⟨yS HR.out.symm,rfl⟩)
theorem QB(op:Int)(w:World)(hf:jF w) :
 Calls Tryz.prog 128 #[.string ⟨[110,97,109,101,100].toArray⟩,.string ⟨[111,114].toArray⟩,.int .i64 op] w fun e w'=>e=.returned (.string ⟨(zO [110,97,109,101,100] [111,114] op).toArray⟩)/\w'=w:=by
 have HW:Hid (jF w):=hf;clear hf;have HF:Hid (zO [110,97,109,101,100] [111,114] op=xL [100,111,110,101] [111,114] 43 0):=by simp[Hid,zO,uQ,qF,xX,yE,xT,qN]
 go_enter Tryz.func128,Tryz.ntmps128
 go_wp2
 go_loop [7] (fun iv=>∃i:Nat,i<=43/\iv=.int .i64 i/\Hid (xL [100,111,110,101] [111,114] (43-i) i=zO [110,97,109,101,100] [111,114] op)) (fun iv=>43-(intOf iv).toNat)
 case atStart=>exact⟨0,by omega,rfl,HF.out.symm⟩
 case round =>
  obtain⟨i,hi,rfl,HI⟩:=hrel;by_cases zIB:i<43
  ·have hc0:=HW.out (i*3) (by omega)
   have hc1:=HW.out (i*3+1) (by omega);have hc2:=HW.out (i*3+2) (by omega);obtain⟨a,ha⟩:∃a,xQ.getD (i*3) []=a:=⟨_,rfl⟩;obtain⟨b,hb⟩:∃b,xQ.getD (i*3+1) []=b:=⟨_,rfl⟩;obtain⟨c,hc⟩:∃c,xQ.getD (i*3+2) []=c:=⟨_,rfl⟩;rw[ha]at hc0;rw[hb]at hc1;rw[hc]at hc2;have HA:Hid (xQ.getD (i*3) []=a):=ha;have HB:Hid (xQ.getD (i*3+1) []=b):=hb;have HC:Hid (xQ.getD (i*3+2) []=c):=hc;clear ha hb hc;by_cases e1:a=[100,111,110,101]
   ·have f1:(a==[100,111,110,101])=true:=by simpa using e1
    by_cases e2:b=[111,114]
    ·have HR:Hid (zO [110,97,109,101,100] [111,114] op=c):=by
      have h1:=HI.out;rw[jR zIB (by rw[HA.out];exact e1) (by rw[HB.out];exact e2),HC.out]at h1;exact h1.symm
     have f2:(b==[111,114])=true:=by simpa using e2
     clear e1 e2 HI HA HB HC
     go_wp2
     go_ret;exact⟨yS HR.out.symm,rfl⟩
    ·have HR:Hid (xL [100,111,110,101] [111,114] (43-(i+1)) (i+1)=zO [110,97,109,101,100] [111,114] op):=by
      have h1:=HI.out;rw[xJ zIB (by rw[HB.out];exact fun h=>e2 h.2)]at h1;exact h1
     have f2:(b==[111,114])=false:=by simpa using e2
     clear e1 e2 HI HA HB HC
     go_wp2
     go_round
     case rel=>exact⟨i+1,by omega,by go_num,HR.out⟩
     case measure=>simp[intOf];omega
   ·have f1:(a==[100,111,110,101])=false:=by simpa using e1
    have HR:Hid (xL [100,111,110,101] [111,114] (43-(i+1)) (i+1)=zO [110,97,109,101,100] [111,114] op):=by
     have h1:=HI.out;rw[xJ zIB (by rw[HA.out];exact fun h=>e1 h.1)]at h1;exact h1
    clear e1 HI HA HB HC
    go_wp2
    go_round
    case rel=>exact⟨i+1,by omega,by go_num,HR.out⟩
    case measure=>simp[intOf];omega
  ·have HR:Hid (zO [110,97,109,101,100] [111,114] op=[]):=by have h1:=HI.out;rw[jS zIB]at h1;exact h1.symm
   clear HI
   go_wp2
   all_goals (go_ret;exact⟨yS HR.out.symm,rfl⟩)
theorem X6(op:Int)(w:World)(hf:jF w) :
 Calls Tryz.prog 128 #[.string ⟨[110,97,109,101,100].toArray⟩,.string ⟨[97,110,100].toArray⟩,.int .i64 op] w fun e w'=>e=.returned (.string ⟨(zO [110,97,109,101,100] [97,110,100] op).toArray⟩)/\w'=w:=by
 have HW:Hid (jF w):=hf;clear hf;have HF:Hid (zO [110,97,109,101,100] [97,110,100] op=xL [100,111,110,101] [97,110,100] 43 0):=by simp[Hid,zO,uQ,qF,xX,yE,xT,qN]
 go_enter Tryz.func128,Tryz.ntmps128
 go_wp2
 go_loop [7] (fun iv=>∃i:Nat,i<=43/\iv=.int .i64 i/\Hid (xL [100,111,110,101] [97,110,100] (43-i) i=zO [110,97,109,101,100] [97,110,100] op)) (fun iv=>43-(intOf iv).toNat)
 case atStart=>exact⟨0,by omega,rfl,HF.out.symm⟩
 case round =>
  obtain⟨i,hi,rfl,HI⟩:=hrel;by_cases zIB:i<43
  ·have hc0:=HW.out (i*3) (by omega)
   have hc1:=HW.out (i*3+1) (by omega);have hc2:=HW.out (i*3+2) (by omega);obtain⟨a,ha⟩:∃a,xQ.getD (i*3) []=a:=⟨_,rfl⟩;obtain⟨b,hb⟩:∃b,xQ.getD (i*3+1) []=b:=⟨_,rfl⟩;obtain⟨c,hc⟩:∃c,xQ.getD (i*3+2) []=c:=⟨_,rfl⟩;rw[ha]at hc0;rw[hb]at hc1;rw[hc]at hc2;have HA:Hid (xQ.getD (i*3) []=a):=ha;have HB:Hid (xQ.getD (i*3+1) []=b):=hb;have HC:Hid (xQ.getD (i*3+2) []=c):=hc;clear ha hb hc;by_cases e1:a=[100,111,110,101]
   ·have f1:(a==[100,111,110,101])=true:=by simpa using e1
    by_cases e2:b=[97,110,100]
    ·have HR:Hid (zO [110,97,109,101,100] [97,110,100] op=c):=by
      have h1:=HI.out;rw[jR zIB (by rw[HA.out];exact e1) (by rw[HB.out];exact e2),HC.out]at h1;exact h1.symm
     have f2:(b==[97,110,100])=true:=by simpa using e2
     clear e1 e2 HI HA HB HC
     go_wp2
     go_ret;exact⟨yS HR.out.symm,rfl⟩
    ·have HR:Hid (xL [100,111,110,101] [97,110,100] (43-(i+1)) (i+1)=zO [110,97,109,101,100] [97,110,100] op):=by
      have h1:=HI.out;rw[xJ zIB (by rw[HB.out];exact fun h=>e2 h.2)]at h1;exact h1
     have f2:(b==[97,110,100])=false:=by simpa using e2
     clear e1 e2 HI HA HB HC
     go_wp2
     go_round
     case rel=>exact⟨i+1,by omega,by go_num,HR.out⟩
     case measure=>simp[intOf];omega
   ·have f1:(a==[100,111,110,101])=false:=by simpa using e1
    have HR:Hid (xL [100,111,110,101] [97,110,100] (43-(i+1)) (i+1)=zO [110,97,109,101,100] [97,110,100] op):=by
     have h1:=HI.out;rw[xJ zIB (by rw[HA.out];exact fun h=>e1 h.1)]at h1;exact h1
    clear e1 HI HA HB HC
    go_wp2
    go_round
    case rel=>exact⟨i+1,by omega,by go_num,HR.out⟩
    case measure=>simp[intOf];omega
  ·have HR:Hid (zO [110,97,109,101,100] [97,110,100] op=[]):=by have h1:=HI.out;rw[jS zIB]at h1;exact h1.symm
   clear HI
   go_wp2
   all_goals (go_ret;exact⟨yS HR.out.symm,rfl⟩)
theorem ZF(op:Int)(h:op=0)(w:World)(hf:jF w) :
 Calls Tryz.prog 128 #[.string ⟨[110,97,109,101,100].toArray⟩,.string ⟨[41].toArray⟩,.int .i64 op] w fun e w'=>e=.returned (.string ⟨(zO [110,97,109,101,100] [41] op).toArray⟩)/\w'=w:=by
 have HW:Hid (jF w):=hf;clear hf;have HF:Hid (zO [110,97,109,101,100] [41] op=[]):=by simp[Hid,zO,uQ,qF,xX,yE,xT,qN,h]
 have h':(op==0)=true:=by simp[h]
 clear h
 go_enter Tryz.func128,Tryz.ntmps128
 go_wp2
 go_ret;exact⟨yS (HF.out.symm),rfl⟩
theorem Y8(op:Int)(h:¬op=0)(w:World)(hf:jF w) :
 Calls Tryz.prog 128 #[.string ⟨[110,97,109,101,100].toArray⟩,.string ⟨[41].toArray⟩,.int .i64 op] w fun e w'=>e=.returned (.string ⟨(zO [110,97,109,101,100] [41] op).toArray⟩)/\w'=w:=by
 have HW:Hid (jF w):=hf;clear hf;have HF:Hid (zO [110,97,109,101,100] [41] op=xL [100,111,110,101] [41] 43 0):=by simp[Hid,zO,uQ,qF,xX,yE,xT,qN,h]
 have h':(op==0)=false:=by simp[h]
 clear h
 go_enter Tryz.func128,Tryz.ntmps128
 go_wp2
 go_loop [7] (fun iv=>∃i:Nat,i<=43/\iv=.int .i64 i/\Hid (xL [100,111,110,101] [41] (43-i) i=zO [110,97,109,101,100] [41] op)) (fun iv=>43-(intOf iv).toNat)
 case atStart=>exact⟨0,by omega,rfl,HF.out.symm⟩
 case round =>
  obtain⟨i,hi,rfl,HI⟩:=hrel;by_cases zIB:i<43
  ·have hc0:=HW.out (i*3) (by omega)
   have hc1:=HW.out (i*3+1) (by omega);have hc2:=HW.out (i*3+2) (by omega);obtain⟨a,ha⟩:∃a,xQ.getD (i*3) []=a:=⟨_,rfl⟩;obtain⟨b,hb⟩:∃b,xQ.getD (i*3+1) []=b:=⟨_,rfl⟩;obtain⟨c,hc⟩:∃c,xQ.getD (i*3+2) []=c:=⟨_,rfl⟩;rw[ha]at hc0;rw[hb]at hc1;rw[hc]at hc2;have HA:Hid (xQ.getD (i*3) []=a):=ha;have HB:Hid (xQ.getD (i*3+1) []=b):=hb;have HC:Hid (xQ.getD (i*3+2) []=c):=hc;clear ha hb hc;by_cases e1:a=[100,111,110,101]
   ·have f1:(a==[100,111,110,101])=true:=by simpa using e1
    by_cases e2:b=[41]
    ·have HR:Hid (zO [110,97,109,101,100] [41] op=c):=by
      have h1:=HI.out;rw[jR zIB (by rw[HA.out];exact e1) (by rw[HB.out];exact e2),HC.out]at h1;exact h1.symm
     have f2:(b==[41])=true:=by simpa using e2
     clear e1 e2 HI HA HB HC
     go_wp2
     go_ret;exact⟨yS HR.out.symm,rfl⟩
    ·have HR:Hid (xL [100,111,110,101] [41] (43-(i+1)) (i+1)=zO [110,97,109,101,100] [41] op):=by
      have h1:=HI.out;rw[xJ zIB (by rw[HB.out];exact fun h=>e2 h.2)]at h1;exact h1
     have f2:(b==[41])=false:=by simpa using e2
     clear e1 e2 HI HA HB HC
     go_wp2
     go_round
     case rel=>exact⟨i+1,by omega,by go_num,HR.out⟩
     case measure=>simp[intOf];omega
   ·have f1:(a==[100,111,110,101])=false:=by simpa using e1
    have HR:Hid (xL [100,111,110,101] [41] (43-(i+1)) (i+1)=zO [110,97,109,101,100] [41] op):=by
     have h1:=HI.out;rw[xJ zIB (by rw[HA.out];exact fun h=>e1 h.1)]at h1;exact h1
    clear e1 HI HA HB HC
    go_wp2
    go_round
    case rel=>exact⟨i+1,by omega,by go_num,HR.out⟩
    case measure=>simp[intOf];omega
  ·have HR:Hid (zO [110,97,109,101,100] [41] op=[]):=by have h1:=HI.out;rw[jS zIB]at h1;exact h1.symm
   clear HI
   go_wp2
   all_goals (go_ret;exact⟨yS HR.out.symm,rfl⟩)
theorem Y9(op:Int)(h:0<op)(w:World)(hf:jF w) :
 Calls Tryz.prog 128 #[.string ⟨[110,97,109,101,100].toArray⟩,.string ⟨[59].toArray⟩,.int .i64 op] w fun e w'=>e=.returned (.string ⟨(zO [110,97,109,101,100] [59] op).toArray⟩)/\w'=w:=by
 have HW:Hid (jF w):=hf;clear hf;have HF:Hid (zO [110,97,109,101,100] [59] op=[]):=by simp[Hid,zO,uQ,qF,xX,yE,xT,qN,h]
 go_enter Tryz.func128,Tryz.ntmps128
 go_wp2
 go_ret;exact⟨yS (HF.out.symm),rfl⟩
theorem X5(op:Int)(h:¬ 0<op)(w:World)(hf:jF w) :
 Calls Tryz.prog 128 #[.string ⟨[110,97,109,101,100].toArray⟩,.string ⟨[59].toArray⟩,.int .i64 op] w fun e w'=>e=.returned (.string ⟨(zO [110,97,109,101,100] [59] op).toArray⟩)/\w'=w:=by
 have HW:Hid (jF w):=hf;clear hf;have HF:Hid (zO [110,97,109,101,100] [59] op=xL [100,111,110,101] [59] 43 0):=by simp[Hid,zO,uQ,qF,xX,yE,xT,qN,h]
 go_enter Tryz.func128,Tryz.ntmps128
 go_wp2
 go_loop [7] (fun iv=>∃i:Nat,i<=43/\iv=.int .i64 i/\Hid (xL [100,111,110,101] [59] (43-i) i=zO [110,97,109,101,100] [59] op)) (fun iv=>43-(intOf iv).toNat)
 case atStart=>exact⟨0,by omega,rfl,HF.out.symm⟩
 case round =>
  obtain⟨i,hi,rfl,HI⟩:=hrel;by_cases zIB:i<43
  ·have hc0:=HW.out (i*3) (by omega)
   have hc1:=HW.out (i*3+1) (by omega);have hc2:=HW.out (i*3+2) (by omega);obtain⟨a,ha⟩:∃a,xQ.getD (i*3) []=a:=⟨_,rfl⟩;obtain⟨b,hb⟩:∃b,xQ.getD (i*3+1) []=b:=⟨_,rfl⟩;obtain⟨c,hc⟩:∃c,xQ.getD (i*3+2) []=c:=⟨_,rfl⟩;rw[ha]at hc0;rw[hb]at hc1;rw[hc]at hc2;have HA:Hid (xQ.getD (i*3) []=a):=ha;have HB:Hid (xQ.getD (i*3+1) []=b):=hb;have HC:Hid (xQ.getD (i*3+2) []=c):=hc;clear ha hb hc;by_cases e1:a=[100,111,110,101]
   ·have f1:(a==[100,111,110,101])=true:=by simpa using e1
    by_cases e2:b=[59]
    ·have HR:Hid (zO [110,97,109,101,100] [59] op=c):=by
      have h1:=HI.out;rw[jR zIB (by rw[HA.out];exact e1) (by rw[HB.out];exact e2),HC.out]at h1;exact h1.symm
     have f2:(b==[59])=true:=by simpa using e2
     clear e1 e2 HI HA HB HC
     go_wp2
     go_ret;exact⟨yS HR.out.symm,rfl⟩
    ·have HR:Hid (xL [100,111,110,101] [59] (43-(i+1)) (i+1)=zO [110,97,109,101,100] [59] op):=by
      have h1:=HI.out;rw[xJ zIB (by rw[HB.out];exact fun h=>e2 h.2)]at h1;exact h1
     have f2:(b==[59])=false:=by simpa using e2
     clear e1 e2 HI HA HB HC
     go_wp2
     go_round
     case rel=>exact⟨i+1,by omega,by go_num,HR.out⟩
     case measure=>simp[intOf];omega
   ·have f1:(a==[100,111,110,101])=false:=by simpa using e1
    have HR:Hid (xL [100,111,110,101] [59] (43-(i+1)) (i+1)=zO [110,97,109,101,100] [59] op):=by
     have h1:=HI.out;rw[xJ zIB (by rw[HA.out];exact fun h=>e1 h.1)]at h1;exact h1
    clear e1 HI HA HB HC
    go_wp2
    go_round
    case rel=>exact⟨i+1,by omega,by go_num,HR.out⟩
    case measure=>simp[intOf];omega
  ·have HR:Hid (zO [110,97,109,101,100] [59] op=[]):=by have h1:=HI.out;rw[jS zIB]at h1;exact h1.symm
   clear HI
   go_wp2
   all_goals (go_ret;exact⟨yS HR.out.symm,rfl⟩)
theorem YA(cl:Bs)(op:Int)(h1:¬cl=xX)(h2:¬cl=yE)(h3:¬cl=xT)(h4:¬cl=qN)(w:World)(hf:jF w) :
 Calls Tryz.prog 128 #[.string ⟨[110,97,109,101,100].toArray⟩,.string ⟨cl.toArray⟩,.int .i64 op] w fun e w'=>e=.returned (.string ⟨(zO [110,97,109,101,100] cl op).toArray⟩)/\w'=w:=by
 have HW:Hid (jF w):=hf;clear hf;have HF:Hid (zO [110,97,109,101,100] cl op=xL [110,97,109,101,100] cl 43 0):=by simp[Hid,zO,h1,h2,h3,h4]
 have b1:(cl==[111,114])=false:=by simpa[xX] using h1
 have b2:(cl==[97,110,100])=false:=by simpa[yE] using h2
 have b3:(cl==[41])=false:=by simpa[xT] using h3
 have b4:(cl==[59])=false:=by simpa[qN] using h4
 clear h1 h2 h3 h4
 go_enter Tryz.func128,Tryz.ntmps128
 go_wp2
 go_loop [7] (fun iv=>∃i:Nat,i<=43/\iv=.int .i64 i/\Hid (xL [110,97,109,101,100] cl (43-i) i=zO [110,97,109,101,100] cl op)) (fun iv=>43-(intOf iv).toNat)
 case atStart=>exact⟨0,by omega,rfl,HF.out.symm⟩
 case round =>
  obtain⟨i,hi,rfl,HI⟩:=hrel;by_cases zIB:i<43
  ·have hc0:=HW.out (i*3) (by omega)
   have hc1:=HW.out (i*3+1) (by omega);have hc2:=HW.out (i*3+2) (by omega);obtain⟨a,ha⟩:∃a,xQ.getD (i*3) []=a:=⟨_,rfl⟩;obtain⟨b,hb⟩:∃b,xQ.getD (i*3+1) []=b:=⟨_,rfl⟩;obtain⟨c,hc⟩:∃c,xQ.getD (i*3+2) []=c:=⟨_,rfl⟩;rw[ha]at hc0;rw[hb]at hc1;rw[hc]at hc2;have HA:Hid (xQ.getD (i*3) []=a):=ha;have HB:Hid (xQ.getD (i*3+1) []=b):=hb;have HC:Hid (xQ.getD (i*3+2) []=c):=hc;clear ha hb hc;by_cases e1:a=[110,97,109,101,100]
   ·have f1:(a==[110,97,109,101,100])=true:=by simpa using e1
    by_cases e2:b=cl
    ·have HR:Hid (zO [110,97,109,101,100] cl op=c):=by
      have h1:=HI.out;rw[jR zIB (by rw[HA.out];exact e1) (by rw[HB.out];exact e2),HC.out]at h1;exact h1.symm
     have f2:(b==cl)=true:=by simpa using e2
     clear e1 e2 HI HA HB HC
     go_wp2
     go_ret;exact⟨yS HR.out.symm,rfl⟩
    ·have HR:Hid (xL [110,97,109,101,100] cl (43-(i+1)) (i+1)=zO [110,97,109,101,100] cl op):=by
      have h1:=HI.out;rw[xJ zIB (by rw[HB.out];exact fun h=>e2 h.2)]at h1;exact h1
     have f2:(b==cl)=false:=by simpa using e2
     clear e1 e2 HI HA HB HC
     go_wp2
     go_round
     case rel=>exact⟨i+1,by omega,by go_num,HR.out⟩
     case measure=>simp[intOf];omega
   ·have f1:(a==[110,97,109,101,100])=false:=by simpa using e1
    have HR:Hid (xL [110,97,109,101,100] cl (43-(i+1)) (i+1)=zO [110,97,109,101,100] cl op):=by
     have h1:=HI.out;rw[xJ zIB (by rw[HA.out];exact fun h=>e1 h.1)]at h1;exact h1
    clear e1 HI HA HB HC
    go_wp2
    go_round
    case rel=>exact⟨i+1,by omega,by go_num,HR.out⟩
    case measure=>simp[intOf];omega
  ·have HR:Hid (zO [110,97,109,101,100] cl op=[]):=by have h1:=HI.out;rw[jS zIB]at h1;exact h1.symm
   clear HI
   go_wp2
   all_goals (go_ret;exact⟨yS HR.out.symm,rfl⟩)
theorem Kn(op:Int)(w:World)(hf:jF w) :
 Calls Tryz.prog 128 #[.string ⟨[100,111,110,101].toArray⟩,.string ⟨[111,114].toArray⟩,.int .i64 op] w fun e w'=>e=.returned (.string ⟨(zO [100,111,110,101] [111,114] op).toArray⟩)/\w'=w:=by
 have HW:Hid (jF w):=hf;clear hf;have HF:Hid (zO [100,111,110,101] [111,114] op=xL [100,111,110,101] [111,114] 43 0):=by simp[Hid,zO,uQ,qF,xX,yE,xT,qN]
 go_enter Tryz.func128,Tryz.ntmps128
 go_wp2
 go_loop [7] (fun iv=>∃i:Nat,i<=43/\iv=.int .i64 i/\Hid (xL [100,111,110,101] [111,114] (43-i) i=zO [100,111,110,101] [111,114] op)) (fun iv=>43-(intOf iv).toNat)
 case atStart=>exact⟨0,by omega,rfl,HF.out.symm⟩
 case round =>
  obtain⟨i,hi,rfl,HI⟩:=hrel;by_cases zIB:i<43
  ·have hc0:=HW.out (i*3) (by omega)
   have hc1:=HW.out (i*3+1) (by omega);have hc2:=HW.out (i*3+2) (by omega);obtain⟨a,ha⟩:∃a,xQ.getD (i*3) []=a:=⟨_,rfl⟩;obtain⟨b,hb⟩:∃b,xQ.getD (i*3+1) []=b:=⟨_,rfl⟩;obtain⟨c,hc⟩:∃c,xQ.getD (i*3+2) []=c:=⟨_,rfl⟩;rw[ha]at hc0;rw[hb]at hc1;rw[hc]at hc2;have HA:Hid (xQ.getD (i*3) []=a):=ha;have HB:Hid (xQ.getD (i*3+1) []=b):=hb;have HC:Hid (xQ.getD (i*3+2) []=c):=hc;clear ha hb hc;by_cases e1:a=[100,111,110,101]
   ·have f1:(a==[100,111,110,101])=true:=by simpa using e1
    by_cases e2:b=[111,114]
    ·have HR:Hid (zO [100,111,110,101] [111,114] op=c):=by
      have h1:=HI.out;rw[jR zIB (by rw[HA.out];exact e1) (by rw[HB.out];exact e2),HC.out]at h1;exact h1.symm
     have f2:(b==[111,114])=true:=by simpa using e2
     clear e1 e2 HI HA HB HC
     go_wp2
     go_ret;exact⟨yS HR.out.symm,rfl⟩
    ·have HR:Hid (xL [100,111,110,101] [111,114] (43-(i+1)) (i+1)=zO [100,111,110,101] [111,114] op):=by
      have h1:=HI.out;rw[xJ zIB (by rw[HB.out];exact fun h=>e2 h.2)]at h1;exact h1
     have f2:(b==[111,114])=false:=by simpa using e2
     clear e1 e2 HI HA HB HC
     go_wp2
     go_round
     case rel=>exact⟨i+1,by omega,by go_num,HR.out⟩
     case measure=>simp[intOf];omega
   ·have f1:(a==[100,111,110,101])=false:=by simpa using e1
    have HR:Hid (xL [100,111,110,101] [111,114] (43-(i+1)) (i+1)=zO [100,111,110,101] [111,114] op):=by
     have h1:=HI.out;rw[xJ zIB (by rw[HA.out];exact fun h=>e1 h.1)]at h1;exact h1
    clear e1 HI HA HB HC
    go_wp2
    go_round
    case rel=>exact⟨i+1,by omega,by go_num,HR.out⟩
    case measure=>simp[intOf];omega
  ·have HR:Hid (zO [100,111,110,101] [111,114] op=[]):=by have h1:=HI.out;rw[jS zIB]at h1;exact h1.symm
   clear HI
   go_wp2
   all_goals (go_ret;exact⟨yS HR.out.symm,rfl⟩)
theorem QD(op:Int)(w:World)(hf:jF w) :
 Calls Tryz.prog 128 #[.string ⟨[100,111,110,101].toArray⟩,.string ⟨[97,110,100].toArray⟩,.int .i64 op] w fun e w'=>e=.returned (.string ⟨(zO [100,111,110,101] [97,110,100] op).toArray⟩)/\w'=w:=by
 have HW:Hid (jF w):=hf;clear hf;have HF:Hid (zO [100,111,110,101] [97,110,100] op=xL [100,111,110,101] [97,110,100] 43 0):=by simp[Hid,zO,uQ,qF,xX,yE,xT,qN]
 go_enter Tryz.func128,Tryz.ntmps128
 go_wp2
 go_loop [7] (fun iv=>∃i:Nat,i<=43/\iv=.int .i64 i/\Hid (xL [100,111,110,101] [97,110,100] (43-i) i=zO [100,111,110,101] [97,110,100] op)) (fun iv=>43-(intOf iv).toNat)
 case atStart=>exact⟨0,by omega,rfl,HF.out.symm⟩
 case round =>
  obtain⟨i,hi,rfl,HI⟩:=hrel;by_cases zIB:i<43
  ·have hc0:=HW.out (i*3) (by omega)
   have hc1:=HW.out (i*3+1) (by omega);have hc2:=HW.out (i*3+2) (by omega);obtain⟨a,ha⟩:∃a,xQ.getD (i*3) []=a:=⟨_,rfl⟩;obtain⟨b,hb⟩:∃b,xQ.getD (i*3+1) []=b:=⟨_,rfl⟩;obtain⟨c,hc⟩:∃c,xQ.getD (i*3+2) []=c:=⟨_,rfl⟩;rw[ha]at hc0;rw[hb]at hc1;rw[hc]at hc2;have HA:Hid (xQ.getD (i*3) []=a):=ha;have HB:Hid (xQ.getD (i*3+1) []=b):=hb;have HC:Hid (xQ.getD (i*3+2) []=c):=hc;clear ha hb hc;by_cases e1:a=[100,111,110,101]
   ·have f1:(a==[100,111,110,101])=true:=by simpa using e1
    by_cases e2:b=[97,110,100]
    ·have HR:Hid (zO [100,111,110,101] [97,110,100] op=c):=by
      have h1:=HI.out;rw[jR zIB (by rw[HA.out];exact e1) (by rw[HB.out];exact e2),HC.out]at h1;exact h1.symm
     have f2:(b==[97,110,100])=true:=by simpa using e2
     clear e1 e2 HI HA HB HC
     go_wp2
     go_ret;exact⟨yS HR.out.symm,rfl⟩
    ·have HR:Hid (xL [100,111,110,101] [97,110,100] (43-(i+1)) (i+1)=zO [100,111,110,101] [97,110,100] op):=by
      have h1:=HI.out;rw[xJ zIB (by rw[HB.out];exact fun h=>e2 h.2)]at h1;exact h1
     have f2:(b==[97,110,100])=false:=by simpa using e2
     clear e1 e2 HI HA HB HC
     go_wp2
     go_round
     case rel=>exact⟨i+1,by omega,by go_num,HR.out⟩
     case measure=>simp[intOf];omega
   ·have f1:(a==[100,111,110,101])=false:=by simpa using e1
    have HR:Hid (xL [100,111,110,101] [97,110,100] (43-(i+1)) (i+1)=zO [100,111,110,101] [97,110,100] op):=by
     have h1:=HI.out;rw[xJ zIB (by rw[HA.out];exact fun h=>e1 h.1)]at h1;exact h1
    clear e1 HI HA HB HC
    go_wp2
    go_round
    case rel=>exact⟨i+1,by omega,by go_num,HR.out⟩
    case measure=>simp[intOf];omega
  ·have HR:Hid (zO [100,111,110,101] [97,110,100] op=[]):=by have h1:=HI.out;rw[jS zIB]at h1;exact h1.symm
   clear HI
   go_wp2
   all_goals (go_ret;exact⟨yS HR.out.symm,rfl⟩)
theorem YB(op:Int)(h:op=0)(w:World)(hf:jF w) :
 Calls Tryz.prog 128 #[.string ⟨[100,111,110,101].toArray⟩,.string ⟨[41].toArray⟩,.int .i64 op] w fun e w'=>e=.returned (.string ⟨(zO [100,111,110,101] [41] op).toArray⟩)/\w'=w:=by
 have HW:Hid (jF w):=hf;clear hf;have HF:Hid (zO [100,111,110,101] [41] op=[]):=by simp[Hid,zO,uQ,qF,xX,yE,xT,qN,h]
 have h':(op==0)=true:=by simp[h]
 clear h
 go_enter Tryz.func128,Tryz.ntmps128
 go_wp2
 go_ret;exact⟨yS (HF.out.symm),rfl⟩
theorem X7(op:Int)(h:¬op=0)(w:World)(hf:jF w) :
 Calls Tryz.prog 128 #[.string ⟨[100,111,110,101].toArray⟩,.string ⟨[41].toArray⟩,.int .i64 op] w fun e w'=>e=.returned (.string ⟨(zO [100,111,110,101] [41] op).toArray⟩)/\w'=w:=by
 have HW:Hid (jF w):=hf;clear hf;have HF:Hid (zO [100,111,110,101] [41] op=xL [100,111,110,101] [41] 43 0):=by simp[Hid,zO,uQ,qF,xX,yE,xT,qN,h]
 have h':(op==0)=false:=by simp[h]
 clear h
 go_enter Tryz.func128,Tryz.ntmps128
 go_wp2
 go_loop [7] (fun iv=>∃i:Nat,i<=43/\iv=.int .i64 i/\Hid (xL [100,111,110,101] [41] (43-i) i=zO [100,111,110,101] [41] op)) (fun iv=>43-(intOf iv).toNat)
 case atStart=>exact⟨0,by omega,rfl,HF.out.symm⟩
 case round =>
  obtain⟨i,hi,rfl,HI⟩:=hrel;by_cases zIB:i<43
  ·have hc0:=HW.out (i*3) (by omega)
   have hc1:=HW.out (i*3+1) (by omega);have hc2:=HW.out (i*3+2) (by omega);obtain⟨a,ha⟩:∃a,xQ.getD (i*3) []=a:=⟨_,rfl⟩;obtain⟨b,hb⟩:∃b,xQ.getD (i*3+1) []=b:=⟨_,rfl⟩;obtain⟨c,hc⟩:∃c,xQ.getD (i*3+2) []=c:=⟨_,rfl⟩;rw[ha]at hc0;rw[hb]at hc1;rw[hc]at hc2;have HA:Hid (xQ.getD (i*3) []=a):=ha;have HB:Hid (xQ.getD (i*3+1) []=b):=hb;have HC:Hid (xQ.getD (i*3+2) []=c):=hc;clear ha hb hc;by_cases e1:a=[100,111,110,101]
   ·have f1:(a==[100,111,110,101])=true:=by simpa using e1
    by_cases e2:b=[41]
    ·have HR:Hid (zO [100,111,110,101] [41] op=c):=by
      have h1:=HI.out;rw[jR zIB (by rw[HA.out];exact e1) (by rw[HB.out];exact e2),HC.out]at h1;exact h1.symm
     have f2:(b==[41])=true:=by simpa using e2
     clear e1 e2 HI HA HB HC
     go_wp2
     go_ret;exact⟨yS HR.out.symm,rfl⟩
    ·have HR:Hid (xL [100,111,110,101] [41] (43-(i+1)) (i+1)=zO [100,111,110,101] [41] op):=by
      have h1:=HI.out;rw[xJ zIB (by rw[HB.out];exact fun h=>e2 h.2)]at h1;exact h1
     have f2:(b==[41])=false:=by simpa using e2
     clear e1 e2 HI HA HB HC
     go_wp2
     go_round
     case rel=>exact⟨i+1,by omega,by go_num,HR.out⟩
     case measure=>simp[intOf];omega
   ·have f1:(a==[100,111,110,101])=false:=by simpa using e1
    have HR:Hid (xL [100,111,110,101] [41] (43-(i+1)) (i+1)=zO [100,111,110,101] [41] op):=by
     have h1:=HI.out;rw[xJ zIB (by rw[HA.out];exact fun h=>e1 h.1)]at h1;exact h1
    clear e1 HI HA HB HC
    go_wp2
    go_round
    case rel=>exact⟨i+1,by omega,by go_num,HR.out⟩
    case measure=>simp[intOf];omega
  ·have HR:Hid (zO [100,111,110,101] [41] op=[]):=by have h1:=HI.out;rw[jS zIB]at h1;exact h1.symm
   clear HI
   go_wp2
   all_goals (go_ret;exact⟨yS HR.out.symm,rfl⟩)
theorem X8(op:Int)(h:0<op)(w:World)(hf:jF w) :
 Calls Tryz.prog 128 #[.string ⟨[100,111,110,101].toArray⟩,.string ⟨[59].toArray⟩,.int .i64 op] w fun e w'=>e=.returned (.string ⟨(zO [100,111,110,101] [59] op).toArray⟩)/\w'=w:=by
 have HW:Hid (jF w):=hf;clear hf;have HF:Hid (zO [100,111,110,101] [59] op=[]):=by simp[Hid,zO,uQ,qF,xX,yE,xT,qN,h]
 go_enter Tryz.func128,Tryz.ntmps128
 go_wp2
 go_ret;exact⟨yS (HF.out.symm),rfl⟩
theorem QC(op:Int)(h:¬ 0<op)(w:World)(hf:jF w) :
 Calls Tryz.prog 128 #[.string ⟨[100,111,110,101].toArray⟩,.string ⟨[59].toArray⟩,.int .i64 op] w fun e w'=>e=.returned (.string ⟨(zO [100,111,110,101] [59] op).toArray⟩)/\w'=w:=by
 have HW:Hid (jF w):=hf;clear hf;have HF:Hid (zO [100,111,110,101] [59] op=xL [100,111,110,101] [59] 43 0):=by simp[Hid,zO,uQ,qF,xX,yE,xT,qN,h]
 go_enter Tryz.func128,Tryz.ntmps128
 go_wp2
 go_loop [7] (fun iv=>∃i:Nat,i<=43/\iv=.int .i64 i/\Hid (xL [100,111,110,101] [59] (43-i) i=zO [100,111,110,101] [59] op)) (fun iv=>43-(intOf iv).toNat)
 case atStart=>exact⟨0,by omega,rfl,HF.out.symm⟩
 case round =>
  obtain⟨i,hi,rfl,HI⟩:=hrel;by_cases zIB:i<43
  ·have hc0:=HW.out (i*3) (by omega)
   have hc1:=HW.out (i*3+1) (by omega);have hc2:=HW.out (i*3+2) (by omega);obtain⟨a,ha⟩:∃a,xQ.getD (i*3) []=a:=⟨_,rfl⟩;obtain⟨b,hb⟩:∃b,xQ.getD (i*3+1) []=b:=⟨_,rfl⟩;obtain⟨c,hc⟩:∃c,xQ.getD (i*3+2) []=c:=⟨_,rfl⟩;rw[ha]at hc0;rw[hb]at hc1;rw[hc]at hc2;have HA:Hid (xQ.getD (i*3) []=a):=ha;have HB:Hid (xQ.getD (i*3+1) []=b):=hb;have HC:Hid (xQ.getD (i*3+2) []=c):=hc;clear ha hb hc;by_cases e1:a=[100,111,110,101]
   ·have f1:(a==[100,111,110,101])=true:=by simpa using e1
    by_cases e2:b=[59]
    ·have HR:Hid (zO [100,111,110,101] [59] op=c):=by
      have h1:=HI.out;rw[jR zIB (by rw[HA.out];exact e1) (by rw[HB.out];exact e2),HC.out]at h1;exact h1.symm
     have f2:(b==[59])=true:=by simpa using e2
     clear e1 e2 HI HA HB HC
     go_wp2
     go_ret;exact⟨yS HR.out.symm,rfl⟩
    ·have HR:Hid (xL [100,111,110,101] [59] (43-(i+1)) (i+1)=zO [100,111,110,101] [59] op):=by
      have h1:=HI.out;rw[xJ zIB (by rw[HB.out];exact fun h=>e2 h.2)]at h1;exact h1
     have f2:(b==[59])=false:=by simpa using e2
     clear e1 e2 HI HA HB HC
     go_wp2
     go_round
     case rel=>exact⟨i+1,by omega,by go_num,HR.out⟩
     case measure=>simp[intOf];omega
   ·have f1:(a==[100,111,110,101])=false:=by simpa using e1
    have HR:Hid (xL [100,111,110,101] [59] (43-(i+1)) (i+1)=zO [100,111,110,101] [59] op):=by
     have h1:=HI.out;rw[xJ zIB (by rw[HA.out];exact fun h=>e1 h.1)]at h1;exact h1
    clear e1 HI HA HB HC
    go_wp2
    go_round
    case rel=>exact⟨i+1,by omega,by go_num,HR.out⟩
    case measure=>simp[intOf];omega
  ·have HR:Hid (zO [100,111,110,101] [59] op=[]):=by have h1:=HI.out;rw[jS zIB]at h1;exact h1.symm
   clear HI
   go_wp2
   all_goals (go_ret;exact⟨yS HR.out.symm,rfl⟩)
theorem X9(cl:Bs)(op:Int)(h1:¬cl=xX)(h2:¬cl=yE)(h3:¬cl=xT)(h4:¬cl=qN)(w:World)(hf:jF w) :
 Calls Tryz.prog 128 #[.string ⟨[100,111,110,101].toArray⟩,.string ⟨cl.toArray⟩,.int .i64 op] w fun e w'=>e=.returned (.string ⟨(zO [100,111,110,101] cl op).toArray⟩)/\w'=w:=by
 have HW:Hid (jF w):=hf;clear hf;have HF:Hid (zO [100,111,110,101] cl op=xL [100,111,110,101] cl 43 0):=by simp[Hid,zO,h1,h2,h3,h4]
 have b1:(cl==[111,114])=false:=by simpa[xX] using h1
 have b2:(cl==[97,110,100])=false:=by simpa[yE] using h2
 have b3:(cl==[41])=false:=by simpa[xT] using h3
 have b4:(cl==[59])=false:=by simpa[qN] using h4
 clear h1 h2 h3 h4
 go_enter Tryz.func128,Tryz.ntmps128
 go_wp2
 go_loop [7] (fun iv=>∃i:Nat,i<=43/\iv=.int .i64 i/\Hid (xL [100,111,110,101] cl (43-i) i=zO [100,111,110,101] cl op)) (fun iv=>43-(intOf iv).toNat)
 case atStart=>exact⟨0,by omega,rfl,HF.out.symm⟩
 case round =>
  obtain⟨i,hi,rfl,HI⟩:=hrel;by_cases zIB:i<43
  ·have hc0:=HW.out (i*3) (by omega)
   have hc1:=HW.out (i*3+1) (by omega);have hc2:=HW.out (i*3+2) (by omega);obtain⟨a,ha⟩:∃a,xQ.getD (i*3) []=a:=⟨_,rfl⟩;obtain⟨b,hb⟩:∃b,xQ.getD (i*3+1) []=b:=⟨_,rfl⟩;obtain⟨c,hc⟩:∃c,xQ.getD (i*3+2) []=c:=⟨_,rfl⟩;rw[ha]at hc0;rw[hb]at hc1;rw[hc]at hc2;have HA:Hid (xQ.getD (i*3) []=a):=ha;have HB:Hid (xQ.getD (i*3+1) []=b):=hb;have HC:Hid (xQ.getD (i*3+2) []=c):=hc;clear ha hb hc;by_cases e1:a=[100,111,110,101]
   ·have f1:(a==[100,111,110,101])=true:=by simpa using e1
    by_cases e2:b=cl
    ·have HR:Hid (zO [100,111,110,101] cl op=c):=by
      have h1:=HI.out;rw[jR zIB (by rw[HA.out];exact e1) (by rw[HB.out];exact e2),HC.out]at h1;exact h1.symm
     have f2:(b==cl)=true:=by simpa using e2
     clear e1 e2 HI HA HB HC
     go_wp2
     go_ret;exact⟨yS HR.out.symm,rfl⟩
    ·have HR:Hid (xL [100,111,110,101] cl (43-(i+1)) (i+1)=zO [100,111,110,101] cl op):=by
      have h1:=HI.out;rw[xJ zIB (by rw[HB.out];exact fun h=>e2 h.2)]at h1;exact h1
     have f2:(b==cl)=false:=by simpa using e2
     clear e1 e2 HI HA HB HC
     go_wp2
     go_round
     case rel=>exact⟨i+1,by omega,by go_num,HR.out⟩
     case measure=>simp[intOf];omega
   ·have f1:(a==[100,111,110,101])=false:=by simpa using e1
    have HR:Hid (xL [100,111,110,101] cl (43-(i+1)) (i+1)=zO [100,111,110,101] cl op):=by
     have h1:=HI.out;rw[xJ zIB (by rw[HA.out];exact fun h=>e1 h.1)]at h1;exact h1
    clear e1 HI HA HB HC
    go_wp2
    go_round
    case rel=>exact⟨i+1,by omega,by go_num,HR.out⟩
    case measure=>simp[intOf];omega
  ·have HR:Hid (zO [100,111,110,101] cl op=[]):=by have h1:=HI.out;rw[jS zIB]at h1;exact h1.symm
   clear HI
   go_wp2
   all_goals (go_ret;exact⟨yS HR.out.symm,rfl⟩)
theorem Zb(st cl:Bs)(op:Int)(w:World)(hf:jF w) :
 Calls Tryz.prog 128 #[.string ⟨st.toArray⟩,.string ⟨cl.toArray⟩,.int .i64 op] w fun e w'=>e=.returned (.string ⟨(zO st cl op).toArray⟩)/\w'=w:=by
 by_cases h1:st=uQ
 ·subst h1
  by_cases c1:cl=xX
  ·subst c1;exact QB op w hf
  by_cases c2:cl=yE
  ·subst c2;exact X6 op w hf
  by_cases c3:cl=xT
  ·subst c3;by_cases h:op=0
   ·exact ZF op h w hf
   ·exact Y8 op h w hf
  by_cases c4:cl=qN
  ·subst c4;by_cases h:0<op
   ·exact Y9 op h w hf
   ·exact X5 op h w hf
  exact YA cl op c1 c2 c3 c4 w hf
 ·by_cases h2:st=qF
  ·subst h2
   by_cases c1:cl=xX
   ·subst c1;exact Kn op w hf
   by_cases c2:cl=yE
   ·subst c2;exact QD op w hf
   by_cases c3:cl=xT
   ·subst c3;by_cases h:op=0
    ·exact YB op h w hf
    ·exact X7 op h w hf
   by_cases c4:cl=qN
   ·subst c4;by_cases h:0<op
    ·exact X8 op h w hf
    ·exact QC op h w hf
   exact X9 cl op c1 c2 c3 c4 w hf
  ·exact Ci st cl op h1 h2 w hf
end Go.Proofs.YtnbpdffdnphbeaaGreatDoor
