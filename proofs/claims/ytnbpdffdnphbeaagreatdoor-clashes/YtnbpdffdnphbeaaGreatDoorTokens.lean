import Derived.Test.YtnbpdffdnphbeaaGreatDoorLex
import Derived.Deep.AppendLies
set_option maxHeartbeats 1000000
namespace Go.Proofs.YtnbpdffdnphbeaaGreatDoor
open Go.RowKit
def BF(t:Nat × Bs):List Value:=[.string ⟨t.2.toArray⟩,.int .i64 t.1,.string ⟨(zS t.2).toArray⟩]
def rA(ts:List (Nat × Bs)):List Value:=ts.flatMap BF
theorem CM(ts:List (Nat × Bs))(t:Nat × Bs):rA (ts++[t])=rA ts++BF t:=by simp[rA]
theorem zDH:(Tryz.prog.info? 193).map (fun i=>(i.zero,i.size,i.bytes))=some (some (.agg #[.string ⟨#[]⟩,.int .i64 0,.string ⟨#[]⟩]),3,40):=by kernel_rfl
theorem Fc(l:Bs)(p:Nat):(ByteArray.mk l.toArray).extract p l.length=⟨(l.drop p).toArray⟩:=by
 rw[ByteArray.extract_mk,cf (by simp)]
theorem zZ(w:World)(cs:Array Value)(T:TypeId)(l:List Value)(h:cs.toList=l) :
 ∀j u,l[j]? = some u->(w.alloc (.cells cs T)).cell? ((⟨w.heap.size,0,none⟩:Addr).add j)=some u:=by
 subst h;exact World.news_of_block (heap_alloc_new w _)
theorem Qz(l:Bs)(w:World)(hl:l.length<=4000) :
 Calls Tryz.prog 109 #[.string ⟨l.toArray⟩] w fun e w'=>∃v,e=.returned v/\w'.ownsRow w.heap.size 193 3 v (yR l 0).length (rA (yR l 0))/\Below w.heap.size w w':=by
 obtain⟨i0,hi,hz0,hz1,hz2⟩:=dp zDH;obtain⟨B,hB⟩:∃B,B=w.heap.size:=⟨_,rfl⟩;have HB:Hid (B=w.heap.size):=hB;rw[<-hB];clear hB
 go_enter Tryz.func109,Tryz.ntmps109
 go_wp2
 go_loopw [3,4] (fun lv av wr=>∃(p:Nat) (ts:List (Nat × Bs)),p<=l.length/\av=.int .i64 p/\wr.ownsRow B 193 3 lv ts.length (rA ts)/\Below B w wr/\Hid (ts++yR l p=yR l 0)) (fun _ av _=>l.length-(intOf av).toNat)
 case atStart=>exact⟨0,[],tr _,rfl,lk _ _ _ _,tj _ _,rfl⟩
 case round =>
  obtain⟨p,ts,hp,rfl,zI8,zIS,hH⟩:=hrel;by_cases zI6:p<l.length
  ·have hd0:0<(l.drop p).length:=by simp;omega
   have hn1:=nF (l.drop p);have hn2:=K1 hd0;rw[ty]at hn2;obtain⟨n,hn⟩:∃n,uC (l.drop p)=n:=⟨_,rfl⟩;have HN:Hid (uC (l.drop p)=n):=hn;rw[hn]at hn1 hn2;clear hn;obtain⟨t,ht⟩:∃t,(l.drop p).take n=t:=⟨_,rfl⟩;have hx1:(ByteArray.mk l.toArray).extract p (p+n)=⟨t.toArray⟩:=by rw[ByteArray.extract_mk,<-ht,show p+n-p=n by omega]
   have htn:t.length=n:=by rw[<-ht,p9,ty];omega
   have hk0:t.getD 0 0=l.getD p 0:=by rw[<-ht];simp only[List.getD,bv,List.getElem?_drop,pq];rw[tl (by omega)]
   obtain⟨k,hk⟩:∃k,so (l.getD p 0)=k:=⟨_,rfl⟩;have HK:Hid (∀h:0<(ByteArray.mk t.toArray).size,tV (((ByteArray.mk t.toArray)[0]'h).toNat:Int)=k):=zES (by rw[hk0];exact hk);have ht0:0<t.length:=by omega
   have ht1:t.length<=4000:=by omega
   by_cases h3:k=3
   ·subst h3
    have HF:Hid (ts++yR l (p+n)=yR l 0):=by have:=hH.out;rw[QD zI6 hk,HN.out]at this;exact this
    clear hk hk0 hH ht htn
    go_wp2_with (first
     | (go_at_call 172;rw[Fc];refine(VN (l.drop p) _ hd0 (by simp;omega)).mono ?_;rintro e w' ⟨rfl,hw⟩;obtain rfl:=hw.symm;rw[HN.out])
     | (go_at_call 173;refine(kU _ 3 (HK.out _) _).mono ?_;rintro e w' ⟨rfl,hw⟩;obtain rfl:=hw.symm))
    go_roundw
    case rel=>exact⟨p+n,ts,by omega,by go_num,zI8,zIS,HF.out⟩
    case measure=>simp[intOf];omega
   ·have h3':(k != 3)=true:=by simp[h3]
    have HF:Hid ((ts++[(p,t)])++yR l (p+n)=yR l 0):=by
     have:=hH.out;rw[Xl zI6 (by rw[hk];exact h3),HN.out,ht]at this;rw[Hid,mn];exact this
    have zIW:ts.length<=4000:=by
     have h1:=congrArg List.length HF.out;have h2:=kY l 0;simp only[tq]at h1;omega
    clear hk hk0 hH ht htn h3
    go_wp2_with (first
     | (go_at_call 172;rw[Fc];refine(VN (l.drop p) _ hd0 (by simp;omega)).mono ?_;rintro e w' ⟨rfl,hw⟩;obtain rfl:=hw.symm;rw[HN.out])
     | (go_at_call 173;refine(kU _ k (HK.out _) _).mono ?_;rintro e w' ⟨rfl,hw⟩;obtain rfl:=hw.symm)
     | (go_at_call 174;refine(zw t _ ht0 ht1).mono ?_;rintro e w' ⟨rfl,hw⟩;obtain rfl:=hw.symm)
     | (at_builtin;refine wpList_append_own _ rfl _ _ 194 rfl B 193 i0 _ 3 40 Tryz.underlying194 hi hz0 hz1 hz2 rfl (by decide) _ _ _ rfl (zI8.alloc _) ⟨wr.heap.size,0,none⟩ 1 1 (BF (p,t)) rfl rfl ?c1 ?c2 ?c3 ?c4 ?c5 ?_))
    case c1=>exact zZ _ _ _ _ rfl
    case c2=>intro u hu;simp[BF]at hu;rcases hu with rfl|rfl|rfl <;> rfl
    case c3=>unfold maxLen;omega
    case c4=>omega
    case c5=>have h5:=zIS.size;have h6:=HB.out;simp;omega
    intro v' w1 zI9 zI7 _
    have hbel1:Below B w w1:=(zIS.alloc (by have h5:=zIS.size;have h6:=HB.out;omega) _).grown zI7 (by have h5:=zIS.size;have h6:=HB.out;simp;omega) (by
     intro k hk;rcases zI8.2 with ⟨h1,_⟩|⟨g,cap,yW,h1,h2,_⟩
     ·rw[h1]at hk;simp[Value.ownBlock]at hk
     ·rw[h1]at hk;simp[Value.ownBlock]at hk;omega)
    clear zI8 zIS zI7
    go_wp2
    go_roundw
    case rel=>exact⟨p+n,ts++[(p,t)],by omega,by go_num,by rw[CM];simpa using zI9,hbel1,HF.out⟩
    case measure=>simp[intOf];omega
  ·have HF:Hid (ts=yR l 0):=by have:=hH.out;rw[Xm zI6,ce]at this;exact this
   clear hH
   go_wp2
   go_ret
   exact⟨_,rfl,by rw[<-HF.out];exact zI8,zIS⟩
def jJ(w:World):Prop:=∀j,j<129->w.cell? ⟨0,j,none⟩=some (.string ⟨(xP.getD j []).toArray⟩)
theorem Cr(st cl:Bs)(op:Int)(h1:¬st=uV)(h2:¬st=qJ)(w:World)(hf:jJ w) :
 Calls Tryz.prog 128 #[.string ⟨st.toArray⟩,.string ⟨cl.toArray⟩,.int .i64 op] w fun e w'=>e=.returned (.string ⟨(zO st cl op).toArray⟩)/\w'=w:=by
 have HW:Hid (jJ w):=hf;clear hf;have HF:Hid (zO st cl op=xM st cl 43 0):=by unfold Hid zO;simp[h1,h2]
 have b1:(st==[110,97,109,101,100])=false:=by simpa[uV] using h1
 have b2:(st==[100,111,110,101])=false:=by simpa[qJ] using h2
 clear h1 h2
 go_enter Tryz.func128,Tryz.ntmps128
 go_wp2
 go_loop [7] (fun iv=>∃i:Nat,i<=43/\iv=.int .i64 i/\Hid (xM st cl (43-i) i=zO st cl op)) (fun iv=>43-(intOf iv).toNat)
 case atStart=>exact⟨0,by omega,rfl,HF.out.symm⟩
 case round =>
  obtain⟨i,hi,rfl,HI⟩:=hrel;by_cases zI6:i<43
  ·have hc0:=HW.out (i*3) (by omega)
   have hc1:=HW.out (i*3+1) (by omega);have hc2:=HW.out (i*3+2) (by omega);obtain⟨a,ha⟩:∃a,xP.getD (i*3) []=a:=⟨_,rfl⟩;obtain⟨b,hb⟩:∃b,xP.getD (i*3+1) []=b:=⟨_,rfl⟩;obtain⟨c,hc⟩:∃c,xP.getD (i*3+2) []=c:=⟨_,rfl⟩;rw[ha]at hc0;rw[hb]at hc1;rw[hc]at hc2;have HA:Hid (xP.getD (i*3) []=a):=ha;have HB:Hid (xP.getD (i*3+1) []=b):=hb;have HC:Hid (xP.getD (i*3+2) []=c):=hc;clear ha hb hc;by_cases e1:a=st
   ·have f1:(a==st)=true:=by simpa using e1
    by_cases e2:b=cl
    ·have HR:Hid (zO st cl op=c):=by
      have h1:=HI.out;rw[jS zI6 (by rw[HA.out];exact e1) (by rw[HB.out];exact e2),HC.out]at h1;exact h1.symm
     have f2:(b==cl)=true:=by simpa using e2
     clear e1 e2 HI HA HB HC
     go_wp2
     go_ret;exact⟨yS HR.out.symm,rfl⟩
    ·have HR:Hid (xM st cl (43-(i+1)) (i+1)=zO st cl op):=by
      have h1:=HI.out;rw[xJ zI6 (by rw[HB.out];exact fun h=>e2 h.2)]at h1;exact h1
     have f2:(b==cl)=false:=by simpa using e2
     clear e1 e2 HI HA HB HC
     go_wp2
     go_round
     case rel=>exact⟨i+1,by omega,by go_num,HR.out⟩
     case measure=>simp[intOf];omega
   ·have f1:(a==st)=false:=by simpa using e1
    have HR:Hid (xM st cl (43-(i+1)) (i+1)=zO st cl op):=by
     have h1:=HI.out;rw[xJ zI6 (by rw[HA.out];exact fun h=>e1 h.1)]at h1;exact h1
    clear e1 HI HA HB HC
    go_wp2
    go_round
    case rel=>exact⟨i+1,by omega,by go_num,HR.out⟩
    case measure=>simp[intOf];omega
  ·have HR:Hid (zO st cl op=[]):=by have h1:=HI.out;rw[jT zI6]at h1;exact h1.symm
   clear HI
   go_wp2
   all_goals (go_ret;exact⟨yS HR.out.symm,rfl⟩)
theorem QH(op:Int)(w:World)(hf:jJ w) :
 Calls Tryz.prog 128 #[.string ⟨[110,97,109,101,100].toArray⟩,.string ⟨[111,114].toArray⟩,.int .i64 op] w fun e w'=>e=.returned (.string ⟨(zO [110,97,109,101,100] [111,114] op).toArray⟩)/\w'=w:=by
 have HW:Hid (jJ w):=hf;clear hf;have HF:Hid (zO [110,97,109,101,100] [111,114] op=xM [100,111,110,101] [111,114] 43 0):=by simp[Hid,zO,uV,qJ,xW,yE,xS,qQ]
 go_enter Tryz.func128,Tryz.ntmps128
 go_wp2
 go_loop [7] (fun iv=>∃i:Nat,i<=43/\iv=.int .i64 i/\Hid (xM [100,111,110,101] [111,114] (43-i) i=zO [110,97,109,101,100] [111,114] op)) (fun iv=>43-(intOf iv).toNat)
 case atStart=>exact⟨0,by omega,rfl,HF.out.symm⟩
 case round =>
  obtain⟨i,hi,rfl,HI⟩:=hrel;by_cases zI6:i<43
  ·have hc0:=HW.out (i*3) (by omega)
   have hc1:=HW.out (i*3+1) (by omega);have hc2:=HW.out (i*3+2) (by omega);obtain⟨a,ha⟩:∃a,xP.getD (i*3) []=a:=⟨_,rfl⟩;obtain⟨b,hb⟩:∃b,xP.getD (i*3+1) []=b:=⟨_,rfl⟩;obtain⟨c,hc⟩:∃c,xP.getD (i*3+2) []=c:=⟨_,rfl⟩;rw[ha]at hc0;rw[hb]at hc1;rw[hc]at hc2;have HA:Hid (xP.getD (i*3) []=a):=ha;have HB:Hid (xP.getD (i*3+1) []=b):=hb;have HC:Hid (xP.getD (i*3+2) []=c):=hc;clear ha hb hc;by_cases e1:a=[100,111,110,101]
   ·have f1:(a==[100,111,110,101])=true:=by simpa using e1
    by_cases e2:b=[111,114]
    ·have HR:Hid (zO [110,97,109,101,100] [111,114] op=c):=by
      have h1:=HI.out;rw[jS zI6 (by rw[HA.out];exact e1) (by rw[HB.out];exact e2),HC.out]at h1;exact h1.symm
     have f2:(b==[111,114])=true:=by simpa using e2
     clear e1 e2 HI HA HB HC
     go_wp2
     go_ret;exact⟨yS HR.out.symm,rfl⟩
    ·have HR:Hid (xM [100,111,110,101] [111,114] (43-(i+1)) (i+1)=zO [110,97,109,101,100] [111,114] op):=by
      have h1:=HI.out;rw[xJ zI6 (by rw[HB.out];exact fun h=>e2 h.2)]at h1;exact h1
     have f2:(b==[111,114])=false:=by simpa using e2
     clear e1 e2 HI HA HB HC
     go_wp2
     go_round
     case rel=>exact⟨i+1,by omega,by go_num,HR.out⟩
     case measure=>simp[intOf];omega
   ·have f1:(a==[100,111,110,101])=false:=by simpa using e1
    have HR:Hid (xM [100,111,110,101] [111,114] (43-(i+1)) (i+1)=zO [110,97,109,101,100] [111,114] op):=by
     have h1:=HI.out;rw[xJ zI6 (by rw[HA.out];exact fun h=>e1 h.1)]at h1;exact h1
    clear e1 HI HA HB HC
    go_wp2
    go_round
    case rel=>exact⟨i+1,by omega,by go_num,HR.out⟩
    case measure=>simp[intOf];omega
  ·have HR:Hid (zO [110,97,109,101,100] [111,114] op=[]):=by have h1:=HI.out;rw[jT zI6]at h1;exact h1.symm
   clear HI
   go_wp2
   all_goals (go_ret;exact⟨yS HR.out.symm,rfl⟩)
theorem XD(op:Int)(w:World)(hf:jJ w) :
 Calls Tryz.prog 128 #[.string ⟨[110,97,109,101,100].toArray⟩,.string ⟨[97,110,100].toArray⟩,.int .i64 op] w fun e w'=>e=.returned (.string ⟨(zO [110,97,109,101,100] [97,110,100] op).toArray⟩)/\w'=w:=by
 have HW:Hid (jJ w):=hf;clear hf;have HF:Hid (zO [110,97,109,101,100] [97,110,100] op=xM [100,111,110,101] [97,110,100] 43 0):=by simp[Hid,zO,uV,qJ,xW,yE,xS,qQ]
 go_enter Tryz.func128,Tryz.ntmps128
 go_wp2
 go_loop [7] (fun iv=>∃i:Nat,i<=43/\iv=.int .i64 i/\Hid (xM [100,111,110,101] [97,110,100] (43-i) i=zO [110,97,109,101,100] [97,110,100] op)) (fun iv=>43-(intOf iv).toNat)
 case atStart=>exact⟨0,by omega,rfl,HF.out.symm⟩
 case round =>
  obtain⟨i,hi,rfl,HI⟩:=hrel;by_cases zI6:i<43
  ·have hc0:=HW.out (i*3) (by omega)
   have hc1:=HW.out (i*3+1) (by omega);have hc2:=HW.out (i*3+2) (by omega);obtain⟨a,ha⟩:∃a,xP.getD (i*3) []=a:=⟨_,rfl⟩;obtain⟨b,hb⟩:∃b,xP.getD (i*3+1) []=b:=⟨_,rfl⟩;obtain⟨c,hc⟩:∃c,xP.getD (i*3+2) []=c:=⟨_,rfl⟩;rw[ha]at hc0;rw[hb]at hc1;rw[hc]at hc2;have HA:Hid (xP.getD (i*3) []=a):=ha;have HB:Hid (xP.getD (i*3+1) []=b):=hb;have HC:Hid (xP.getD (i*3+2) []=c):=hc;clear ha hb hc;by_cases e1:a=[100,111,110,101]
   ·have f1:(a==[100,111,110,101])=true:=by simpa using e1
    by_cases e2:b=[97,110,100]
    ·have HR:Hid (zO [110,97,109,101,100] [97,110,100] op=c):=by
      have h1:=HI.out;rw[jS zI6 (by rw[HA.out];exact e1) (by rw[HB.out];exact e2),HC.out]at h1;exact h1.symm
     have f2:(b==[97,110,100])=true:=by simpa using e2
     clear e1 e2 HI HA HB HC
     go_wp2
     go_ret;exact⟨yS HR.out.symm,rfl⟩
    ·have HR:Hid (xM [100,111,110,101] [97,110,100] (43-(i+1)) (i+1)=zO [110,97,109,101,100] [97,110,100] op):=by
      have h1:=HI.out;rw[xJ zI6 (by rw[HB.out];exact fun h=>e2 h.2)]at h1;exact h1
     have f2:(b==[97,110,100])=false:=by simpa using e2
     clear e1 e2 HI HA HB HC
     go_wp2
     go_round
     case rel=>exact⟨i+1,by omega,by go_num,HR.out⟩
     case measure=>simp[intOf];omega
   ·have f1:(a==[100,111,110,101])=false:=by simpa using e1
    have HR:Hid (xM [100,111,110,101] [97,110,100] (43-(i+1)) (i+1)=zO [110,97,109,101,100] [97,110,100] op):=by
     have h1:=HI.out;rw[xJ zI6 (by rw[HA.out];exact fun h=>e1 h.1)]at h1;exact h1
    clear e1 HI HA HB HC
    go_wp2
    go_round
    case rel=>exact⟨i+1,by omega,by go_num,HR.out⟩
    case measure=>simp[intOf];omega
  ·have HR:Hid (zO [110,97,109,101,100] [97,110,100] op=[]):=by have h1:=HI.out;rw[jT zI6]at h1;exact h1.symm
   clear HI
   go_wp2
   all_goals (go_ret;exact⟨yS HR.out.symm,rfl⟩)
theorem ZI(op:Int)(h:op=0)(w:World)(hf:jJ w) :
 Calls Tryz.prog 128 #[.string ⟨[110,97,109,101,100].toArray⟩,.string ⟨[41].toArray⟩,.int .i64 op] w fun e w'=>e=.returned (.string ⟨(zO [110,97,109,101,100] [41] op).toArray⟩)/\w'=w:=by
 have HW:Hid (jJ w):=hf;clear hf;have HF:Hid (zO [110,97,109,101,100] [41] op=[]):=by simp[Hid,zO,uV,qJ,xW,yE,xS,qQ,h]
 have h':(op==0)=true:=by simp[h]
 clear h
 go_enter Tryz.func128,Tryz.ntmps128
 go_wp2
 go_ret;exact⟨yS (HF.out.symm),rfl⟩
theorem YC(op:Int)(h:¬op=0)(w:World)(hf:jJ w) :
 Calls Tryz.prog 128 #[.string ⟨[110,97,109,101,100].toArray⟩,.string ⟨[41].toArray⟩,.int .i64 op] w fun e w'=>e=.returned (.string ⟨(zO [110,97,109,101,100] [41] op).toArray⟩)/\w'=w:=by
 have HW:Hid (jJ w):=hf;clear hf;have HF:Hid (zO [110,97,109,101,100] [41] op=xM [100,111,110,101] [41] 43 0):=by simp[Hid,zO,uV,qJ,xW,yE,xS,qQ,h]
 have h':(op==0)=false:=by simp[h]
 clear h
 go_enter Tryz.func128,Tryz.ntmps128
 go_wp2
 go_loop [7] (fun iv=>∃i:Nat,i<=43/\iv=.int .i64 i/\Hid (xM [100,111,110,101] [41] (43-i) i=zO [110,97,109,101,100] [41] op)) (fun iv=>43-(intOf iv).toNat)
 case atStart=>exact⟨0,by omega,rfl,HF.out.symm⟩
 case round =>
  obtain⟨i,hi,rfl,HI⟩:=hrel;by_cases zI6:i<43
  ·have hc0:=HW.out (i*3) (by omega)
   have hc1:=HW.out (i*3+1) (by omega);have hc2:=HW.out (i*3+2) (by omega);obtain⟨a,ha⟩:∃a,xP.getD (i*3) []=a:=⟨_,rfl⟩;obtain⟨b,hb⟩:∃b,xP.getD (i*3+1) []=b:=⟨_,rfl⟩;obtain⟨c,hc⟩:∃c,xP.getD (i*3+2) []=c:=⟨_,rfl⟩;rw[ha]at hc0;rw[hb]at hc1;rw[hc]at hc2;have HA:Hid (xP.getD (i*3) []=a):=ha;have HB:Hid (xP.getD (i*3+1) []=b):=hb;have HC:Hid (xP.getD (i*3+2) []=c):=hc;clear ha hb hc;by_cases e1:a=[100,111,110,101]
   ·have f1:(a==[100,111,110,101])=true:=by simpa using e1
    by_cases e2:b=[41]
    ·have HR:Hid (zO [110,97,109,101,100] [41] op=c):=by
      have h1:=HI.out;rw[jS zI6 (by rw[HA.out];exact e1) (by rw[HB.out];exact e2),HC.out]at h1;exact h1.symm
     have f2:(b==[41])=true:=by simpa using e2
     clear e1 e2 HI HA HB HC
     go_wp2
     go_ret;exact⟨yS HR.out.symm,rfl⟩
    ·have HR:Hid (xM [100,111,110,101] [41] (43-(i+1)) (i+1)=zO [110,97,109,101,100] [41] op):=by
      have h1:=HI.out;rw[xJ zI6 (by rw[HB.out];exact fun h=>e2 h.2)]at h1;exact h1
     have f2:(b==[41])=false:=by simpa using e2
     clear e1 e2 HI HA HB HC
     go_wp2
     go_round
     case rel=>exact⟨i+1,by omega,by go_num,HR.out⟩
     case measure=>simp[intOf];omega
   ·have f1:(a==[100,111,110,101])=false:=by simpa using e1
    have HR:Hid (xM [100,111,110,101] [41] (43-(i+1)) (i+1)=zO [110,97,109,101,100] [41] op):=by
     have h1:=HI.out;rw[xJ zI6 (by rw[HA.out];exact fun h=>e1 h.1)]at h1;exact h1
    clear e1 HI HA HB HC
    go_wp2
    go_round
    case rel=>exact⟨i+1,by omega,by go_num,HR.out⟩
    case measure=>simp[intOf];omega
  ·have HR:Hid (zO [110,97,109,101,100] [41] op=[]):=by have h1:=HI.out;rw[jT zI6]at h1;exact h1.symm
   clear HI
   go_wp2
   all_goals (go_ret;exact⟨yS HR.out.symm,rfl⟩)
theorem YD(op:Int)(h:0<op)(w:World)(hf:jJ w) :
 Calls Tryz.prog 128 #[.string ⟨[110,97,109,101,100].toArray⟩,.string ⟨[59].toArray⟩,.int .i64 op] w fun e w'=>e=.returned (.string ⟨(zO [110,97,109,101,100] [59] op).toArray⟩)/\w'=w:=by
 have HW:Hid (jJ w):=hf;clear hf;have HF:Hid (zO [110,97,109,101,100] [59] op=[]):=by simp[Hid,zO,uV,qJ,xW,yE,xS,qQ,h]
 go_enter Tryz.func128,Tryz.ntmps128
 go_wp2
 go_ret;exact⟨yS (HF.out.symm),rfl⟩
theorem XC(op:Int)(h:¬ 0<op)(w:World)(hf:jJ w) :
 Calls Tryz.prog 128 #[.string ⟨[110,97,109,101,100].toArray⟩,.string ⟨[59].toArray⟩,.int .i64 op] w fun e w'=>e=.returned (.string ⟨(zO [110,97,109,101,100] [59] op).toArray⟩)/\w'=w:=by
 have HW:Hid (jJ w):=hf;clear hf;have HF:Hid (zO [110,97,109,101,100] [59] op=xM [100,111,110,101] [59] 43 0):=by simp[Hid,zO,uV,qJ,xW,yE,xS,qQ,h]
 go_enter Tryz.func128,Tryz.ntmps128
 go_wp2
 go_loop [7] (fun iv=>∃i:Nat,i<=43/\iv=.int .i64 i/\Hid (xM [100,111,110,101] [59] (43-i) i=zO [110,97,109,101,100] [59] op)) (fun iv=>43-(intOf iv).toNat)
 case atStart=>exact⟨0,by omega,rfl,HF.out.symm⟩
 case round =>
  obtain⟨i,hi,rfl,HI⟩:=hrel;by_cases zI6:i<43
  ·have hc0:=HW.out (i*3) (by omega)
   have hc1:=HW.out (i*3+1) (by omega);have hc2:=HW.out (i*3+2) (by omega);obtain⟨a,ha⟩:∃a,xP.getD (i*3) []=a:=⟨_,rfl⟩;obtain⟨b,hb⟩:∃b,xP.getD (i*3+1) []=b:=⟨_,rfl⟩;obtain⟨c,hc⟩:∃c,xP.getD (i*3+2) []=c:=⟨_,rfl⟩;rw[ha]at hc0;rw[hb]at hc1;rw[hc]at hc2;have HA:Hid (xP.getD (i*3) []=a):=ha;have HB:Hid (xP.getD (i*3+1) []=b):=hb;have HC:Hid (xP.getD (i*3+2) []=c):=hc;clear ha hb hc;by_cases e1:a=[100,111,110,101]
   ·have f1:(a==[100,111,110,101])=true:=by simpa using e1
    by_cases e2:b=[59]
    ·have HR:Hid (zO [110,97,109,101,100] [59] op=c):=by
      have h1:=HI.out;rw[jS zI6 (by rw[HA.out];exact e1) (by rw[HB.out];exact e2),HC.out]at h1;exact h1.symm
     have f2:(b==[59])=true:=by simpa using e2
     clear e1 e2 HI HA HB HC
     go_wp2
     go_ret;exact⟨yS HR.out.symm,rfl⟩
    ·have HR:Hid (xM [100,111,110,101] [59] (43-(i+1)) (i+1)=zO [110,97,109,101,100] [59] op):=by
      have h1:=HI.out;rw[xJ zI6 (by rw[HB.out];exact fun h=>e2 h.2)]at h1;exact h1
     have f2:(b==[59])=false:=by simpa using e2
     clear e1 e2 HI HA HB HC
     go_wp2
     go_round
     case rel=>exact⟨i+1,by omega,by go_num,HR.out⟩
     case measure=>simp[intOf];omega
   ·have f1:(a==[100,111,110,101])=false:=by simpa using e1
    have HR:Hid (xM [100,111,110,101] [59] (43-(i+1)) (i+1)=zO [110,97,109,101,100] [59] op):=by
     have h1:=HI.out;rw[xJ zI6 (by rw[HA.out];exact fun h=>e1 h.1)]at h1;exact h1
    clear e1 HI HA HB HC
    go_wp2
    go_round
    case rel=>exact⟨i+1,by omega,by go_num,HR.out⟩
    case measure=>simp[intOf];omega
  ·have HR:Hid (zO [110,97,109,101,100] [59] op=[]):=by have h1:=HI.out;rw[jT zI6]at h1;exact h1.symm
   clear HI
   go_wp2
   all_goals (go_ret;exact⟨yS HR.out.symm,rfl⟩)
theorem YE(cl:Bs)(op:Int)(h1:¬cl=xW)(h2:¬cl=yE)(h3:¬cl=xS)(h4:¬cl=qQ)(w:World)(hf:jJ w) :
 Calls Tryz.prog 128 #[.string ⟨[110,97,109,101,100].toArray⟩,.string ⟨cl.toArray⟩,.int .i64 op] w fun e w'=>e=.returned (.string ⟨(zO [110,97,109,101,100] cl op).toArray⟩)/\w'=w:=by
 have HW:Hid (jJ w):=hf;clear hf;have HF:Hid (zO [110,97,109,101,100] cl op=xM [110,97,109,101,100] cl 43 0):=by simp[Hid,zO,h1,h2,h3,h4]
 have b1:(cl==[111,114])=false:=by simpa[xW] using h1
 have b2:(cl==[97,110,100])=false:=by simpa[yE] using h2
 have b3:(cl==[41])=false:=by simpa[xS] using h3
 have b4:(cl==[59])=false:=by simpa[qQ] using h4
 clear h1 h2 h3 h4
 go_enter Tryz.func128,Tryz.ntmps128
 go_wp2
 go_loop [7] (fun iv=>∃i:Nat,i<=43/\iv=.int .i64 i/\Hid (xM [110,97,109,101,100] cl (43-i) i=zO [110,97,109,101,100] cl op)) (fun iv=>43-(intOf iv).toNat)
 case atStart=>exact⟨0,by omega,rfl,HF.out.symm⟩
 case round =>
  obtain⟨i,hi,rfl,HI⟩:=hrel;by_cases zI6:i<43
  ·have hc0:=HW.out (i*3) (by omega)
   have hc1:=HW.out (i*3+1) (by omega);have hc2:=HW.out (i*3+2) (by omega);obtain⟨a,ha⟩:∃a,xP.getD (i*3) []=a:=⟨_,rfl⟩;obtain⟨b,hb⟩:∃b,xP.getD (i*3+1) []=b:=⟨_,rfl⟩;obtain⟨c,hc⟩:∃c,xP.getD (i*3+2) []=c:=⟨_,rfl⟩;rw[ha]at hc0;rw[hb]at hc1;rw[hc]at hc2;have HA:Hid (xP.getD (i*3) []=a):=ha;have HB:Hid (xP.getD (i*3+1) []=b):=hb;have HC:Hid (xP.getD (i*3+2) []=c):=hc;clear ha hb hc;by_cases e1:a=[110,97,109,101,100]
   ·have f1:(a==[110,97,109,101,100])=true:=by simpa using e1
    by_cases e2:b=cl
    ·have HR:Hid (zO [110,97,109,101,100] cl op=c):=by
      have h1:=HI.out;rw[jS zI6 (by rw[HA.out];exact e1) (by rw[HB.out];exact e2),HC.out]at h1;exact h1.symm
     have f2:(b==cl)=true:=by simpa using e2
     clear e1 e2 HI HA HB HC
     go_wp2
     go_ret;exact⟨yS HR.out.symm,rfl⟩
    ·have HR:Hid (xM [110,97,109,101,100] cl (43-(i+1)) (i+1)=zO [110,97,109,101,100] cl op):=by
      have h1:=HI.out;rw[xJ zI6 (by rw[HB.out];exact fun h=>e2 h.2)]at h1;exact h1
     have f2:(b==cl)=false:=by simpa using e2
     clear e1 e2 HI HA HB HC
     go_wp2
     go_round
     case rel=>exact⟨i+1,by omega,by go_num,HR.out⟩
     case measure=>simp[intOf];omega
   ·have f1:(a==[110,97,109,101,100])=false:=by simpa using e1
    have HR:Hid (xM [110,97,109,101,100] cl (43-(i+1)) (i+1)=zO [110,97,109,101,100] cl op):=by
     have h1:=HI.out;rw[xJ zI6 (by rw[HA.out];exact fun h=>e1 h.1)]at h1;exact h1
    clear e1 HI HA HB HC
    go_wp2
    go_round
    case rel=>exact⟨i+1,by omega,by go_num,HR.out⟩
    case measure=>simp[intOf];omega
  ·have HR:Hid (zO [110,97,109,101,100] cl op=[]):=by have h1:=HI.out;rw[jT zI6]at h1;exact h1.symm
   clear HI
   go_wp2
   all_goals (go_ret;exact⟨yS HR.out.symm,rfl⟩)
theorem Kq(op:Int)(w:World)(hf:jJ w) :
 Calls Tryz.prog 128 #[.string ⟨[100,111,110,101].toArray⟩,.string ⟨[111,114].toArray⟩,.int .i64 op] w fun e w'=>e=.returned (.string ⟨(zO [100,111,110,101] [111,114] op).toArray⟩)/\w'=w:=by
 have HW:Hid (jJ w):=hf;clear hf;have HF:Hid (zO [100,111,110,101] [111,114] op=xM [100,111,110,101] [111,114] 43 0):=by simp[Hid,zO,uV,qJ,xW,yE,xS,qQ]
 go_enter Tryz.func128,Tryz.ntmps128
 go_wp2
 go_loop [7] (fun iv=>∃i:Nat,i<=43/\iv=.int .i64 i/\Hid (xM [100,111,110,101] [111,114] (43-i) i=zO [100,111,110,101] [111,114] op)) (fun iv=>43-(intOf iv).toNat)
 case atStart=>exact⟨0,by omega,rfl,HF.out.symm⟩
 case round =>
  obtain⟨i,hi,rfl,HI⟩:=hrel;by_cases zI6:i<43
  ·have hc0:=HW.out (i*3) (by omega)
   have hc1:=HW.out (i*3+1) (by omega);have hc2:=HW.out (i*3+2) (by omega);obtain⟨a,ha⟩:∃a,xP.getD (i*3) []=a:=⟨_,rfl⟩;obtain⟨b,hb⟩:∃b,xP.getD (i*3+1) []=b:=⟨_,rfl⟩;obtain⟨c,hc⟩:∃c,xP.getD (i*3+2) []=c:=⟨_,rfl⟩;rw[ha]at hc0;rw[hb]at hc1;rw[hc]at hc2;have HA:Hid (xP.getD (i*3) []=a):=ha;have HB:Hid (xP.getD (i*3+1) []=b):=hb;have HC:Hid (xP.getD (i*3+2) []=c):=hc;clear ha hb hc;by_cases e1:a=[100,111,110,101]
   ·have f1:(a==[100,111,110,101])=true:=by simpa using e1
    by_cases e2:b=[111,114]
    ·have HR:Hid (zO [100,111,110,101] [111,114] op=c):=by
      have h1:=HI.out;rw[jS zI6 (by rw[HA.out];exact e1) (by rw[HB.out];exact e2),HC.out]at h1;exact h1.symm
     have f2:(b==[111,114])=true:=by simpa using e2
     clear e1 e2 HI HA HB HC
     go_wp2
     go_ret;exact⟨yS HR.out.symm,rfl⟩
    ·have HR:Hid (xM [100,111,110,101] [111,114] (43-(i+1)) (i+1)=zO [100,111,110,101] [111,114] op):=by
      have h1:=HI.out;rw[xJ zI6 (by rw[HB.out];exact fun h=>e2 h.2)]at h1;exact h1
     have f2:(b==[111,114])=false:=by simpa using e2
     clear e1 e2 HI HA HB HC
     go_wp2
     go_round
     case rel=>exact⟨i+1,by omega,by go_num,HR.out⟩
     case measure=>simp[intOf];omega
   ·have f1:(a==[100,111,110,101])=false:=by simpa using e1
    have HR:Hid (xM [100,111,110,101] [111,114] (43-(i+1)) (i+1)=zO [100,111,110,101] [111,114] op):=by
     have h1:=HI.out;rw[xJ zI6 (by rw[HA.out];exact fun h=>e1 h.1)]at h1;exact h1
    clear e1 HI HA HB HC
    go_wp2
    go_round
    case rel=>exact⟨i+1,by omega,by go_num,HR.out⟩
    case measure=>simp[intOf];omega
  ·have HR:Hid (zO [100,111,110,101] [111,114] op=[]):=by have h1:=HI.out;rw[jT zI6]at h1;exact h1.symm
   clear HI
   go_wp2
   all_goals (go_ret;exact⟨yS HR.out.symm,rfl⟩)
theorem QJ(op:Int)(w:World)(hf:jJ w) :
 Calls Tryz.prog 128 #[.string ⟨[100,111,110,101].toArray⟩,.string ⟨[97,110,100].toArray⟩,.int .i64 op] w fun e w'=>e=.returned (.string ⟨(zO [100,111,110,101] [97,110,100] op).toArray⟩)/\w'=w:=by
 have HW:Hid (jJ w):=hf;clear hf;have HF:Hid (zO [100,111,110,101] [97,110,100] op=xM [100,111,110,101] [97,110,100] 43 0):=by simp[Hid,zO,uV,qJ,xW,yE,xS,qQ]
 go_enter Tryz.func128,Tryz.ntmps128
 go_wp2
 go_loop [7] (fun iv=>∃i:Nat,i<=43/\iv=.int .i64 i/\Hid (xM [100,111,110,101] [97,110,100] (43-i) i=zO [100,111,110,101] [97,110,100] op)) (fun iv=>43-(intOf iv).toNat)
 case atStart=>exact⟨0,by omega,rfl,HF.out.symm⟩
 case round =>
  obtain⟨i,hi,rfl,HI⟩:=hrel;by_cases zI6:i<43
  ·have hc0:=HW.out (i*3) (by omega)
   have hc1:=HW.out (i*3+1) (by omega);have hc2:=HW.out (i*3+2) (by omega);obtain⟨a,ha⟩:∃a,xP.getD (i*3) []=a:=⟨_,rfl⟩;obtain⟨b,hb⟩:∃b,xP.getD (i*3+1) []=b:=⟨_,rfl⟩;obtain⟨c,hc⟩:∃c,xP.getD (i*3+2) []=c:=⟨_,rfl⟩;rw[ha]at hc0;rw[hb]at hc1;rw[hc]at hc2;have HA:Hid (xP.getD (i*3) []=a):=ha;have HB:Hid (xP.getD (i*3+1) []=b):=hb;have HC:Hid (xP.getD (i*3+2) []=c):=hc;clear ha hb hc;by_cases e1:a=[100,111,110,101]
   ·have f1:(a==[100,111,110,101])=true:=by simpa using e1
    by_cases e2:b=[97,110,100]
    ·have HR:Hid (zO [100,111,110,101] [97,110,100] op=c):=by
      have h1:=HI.out;rw[jS zI6 (by rw[HA.out];exact e1) (by rw[HB.out];exact e2),HC.out]at h1;exact h1.symm
     have f2:(b==[97,110,100])=true:=by simpa using e2
     clear e1 e2 HI HA HB HC
     go_wp2
     go_ret;exact⟨yS HR.out.symm,rfl⟩
    ·have HR:Hid (xM [100,111,110,101] [97,110,100] (43-(i+1)) (i+1)=zO [100,111,110,101] [97,110,100] op):=by
      have h1:=HI.out;rw[xJ zI6 (by rw[HB.out];exact fun h=>e2 h.2)]at h1;exact h1
     have f2:(b==[97,110,100])=false:=by simpa using e2
     clear e1 e2 HI HA HB HC
     go_wp2
     go_round
     case rel=>exact⟨i+1,by omega,by go_num,HR.out⟩
     case measure=>simp[intOf];omega
   ·have f1:(a==[100,111,110,101])=false:=by simpa using e1
    have HR:Hid (xM [100,111,110,101] [97,110,100] (43-(i+1)) (i+1)=zO [100,111,110,101] [97,110,100] op):=by
     have h1:=HI.out;rw[xJ zI6 (by rw[HA.out];exact fun h=>e1 h.1)]at h1;exact h1
    clear e1 HI HA HB HC
    go_wp2
    go_round
    case rel=>exact⟨i+1,by omega,by go_num,HR.out⟩
    case measure=>simp[intOf];omega
  ·have HR:Hid (zO [100,111,110,101] [97,110,100] op=[]):=by have h1:=HI.out;rw[jT zI6]at h1;exact h1.symm
   clear HI
   go_wp2
   all_goals (go_ret;exact⟨yS HR.out.symm,rfl⟩)
theorem YF(op:Int)(h:op=0)(w:World)(hf:jJ w) :
 Calls Tryz.prog 128 #[.string ⟨[100,111,110,101].toArray⟩,.string ⟨[41].toArray⟩,.int .i64 op] w fun e w'=>e=.returned (.string ⟨(zO [100,111,110,101] [41] op).toArray⟩)/\w'=w:=by
 have HW:Hid (jJ w):=hf;clear hf;have HF:Hid (zO [100,111,110,101] [41] op=[]):=by simp[Hid,zO,uV,qJ,xW,yE,xS,qQ,h]
 have h':(op==0)=true:=by simp[h]
 clear h
 go_enter Tryz.func128,Tryz.ntmps128
 go_wp2
 go_ret;exact⟨yS (HF.out.symm),rfl⟩
theorem XE(op:Int)(h:¬op=0)(w:World)(hf:jJ w) :
 Calls Tryz.prog 128 #[.string ⟨[100,111,110,101].toArray⟩,.string ⟨[41].toArray⟩,.int .i64 op] w fun e w'=>e=.returned (.string ⟨(zO [100,111,110,101] [41] op).toArray⟩)/\w'=w:=by
 have HW:Hid (jJ w):=hf;clear hf;have HF:Hid (zO [100,111,110,101] [41] op=xM [100,111,110,101] [41] 43 0):=by simp[Hid,zO,uV,qJ,xW,yE,xS,qQ,h]
 have h':(op==0)=false:=by simp[h]
 clear h
 go_enter Tryz.func128,Tryz.ntmps128
 go_wp2
 go_loop [7] (fun iv=>∃i:Nat,i<=43/\iv=.int .i64 i/\Hid (xM [100,111,110,101] [41] (43-i) i=zO [100,111,110,101] [41] op)) (fun iv=>43-(intOf iv).toNat)
 case atStart=>exact⟨0,by omega,rfl,HF.out.symm⟩
 case round =>
  obtain⟨i,hi,rfl,HI⟩:=hrel;by_cases zI6:i<43
  ·have hc0:=HW.out (i*3) (by omega)
   have hc1:=HW.out (i*3+1) (by omega);have hc2:=HW.out (i*3+2) (by omega);obtain⟨a,ha⟩:∃a,xP.getD (i*3) []=a:=⟨_,rfl⟩;obtain⟨b,hb⟩:∃b,xP.getD (i*3+1) []=b:=⟨_,rfl⟩;obtain⟨c,hc⟩:∃c,xP.getD (i*3+2) []=c:=⟨_,rfl⟩;rw[ha]at hc0;rw[hb]at hc1;rw[hc]at hc2;have HA:Hid (xP.getD (i*3) []=a):=ha;have HB:Hid (xP.getD (i*3+1) []=b):=hb;have HC:Hid (xP.getD (i*3+2) []=c):=hc;clear ha hb hc;by_cases e1:a=[100,111,110,101]
   ·have f1:(a==[100,111,110,101])=true:=by simpa using e1
    by_cases e2:b=[41]
    ·have HR:Hid (zO [100,111,110,101] [41] op=c):=by
      have h1:=HI.out;rw[jS zI6 (by rw[HA.out];exact e1) (by rw[HB.out];exact e2),HC.out]at h1;exact h1.symm
     have f2:(b==[41])=true:=by simpa using e2
     clear e1 e2 HI HA HB HC
     go_wp2
     go_ret;exact⟨yS HR.out.symm,rfl⟩
    ·have HR:Hid (xM [100,111,110,101] [41] (43-(i+1)) (i+1)=zO [100,111,110,101] [41] op):=by
      have h1:=HI.out;rw[xJ zI6 (by rw[HB.out];exact fun h=>e2 h.2)]at h1;exact h1
     have f2:(b==[41])=false:=by simpa using e2
     clear e1 e2 HI HA HB HC
     go_wp2
     go_round
     case rel=>exact⟨i+1,by omega,by go_num,HR.out⟩
     case measure=>simp[intOf];omega
   ·have f1:(a==[100,111,110,101])=false:=by simpa using e1
    have HR:Hid (xM [100,111,110,101] [41] (43-(i+1)) (i+1)=zO [100,111,110,101] [41] op):=by
     have h1:=HI.out;rw[xJ zI6 (by rw[HA.out];exact fun h=>e1 h.1)]at h1;exact h1
    clear e1 HI HA HB HC
    go_wp2
    go_round
    case rel=>exact⟨i+1,by omega,by go_num,HR.out⟩
    case measure=>simp[intOf];omega
  ·have HR:Hid (zO [100,111,110,101] [41] op=[]):=by have h1:=HI.out;rw[jT zI6]at h1;exact h1.symm
   clear HI
   go_wp2
   all_goals (go_ret;exact⟨yS HR.out.symm,rfl⟩)
theorem XF(op:Int)(h:0<op)(w:World)(hf:jJ w) :
 Calls Tryz.prog 128 #[.string ⟨[100,111,110,101].toArray⟩,.string ⟨[59].toArray⟩,.int .i64 op] w fun e w'=>e=.returned (.string ⟨(zO [100,111,110,101] [59] op).toArray⟩)/\w'=w:=by
 have HW:Hid (jJ w):=hf;clear hf;have HF:Hid (zO [100,111,110,101] [59] op=[]):=by simp[Hid,zO,uV,qJ,xW,yE,xS,qQ,h]
 go_enter Tryz.func128,Tryz.ntmps128
 go_wp2
 go_ret;exact⟨yS (HF.out.symm),rfl⟩
theorem QI(op:Int)(h:¬ 0<op)(w:World)(hf:jJ w) :
 Calls Tryz.prog 128 #[.string ⟨[100,111,110,101].toArray⟩,.string ⟨[59].toArray⟩,.int .i64 op] w fun e w'=>e=.returned (.string ⟨(zO [100,111,110,101] [59] op).toArray⟩)/\w'=w:=by
 have HW:Hid (jJ w):=hf;clear hf;have HF:Hid (zO [100,111,110,101] [59] op=xM [100,111,110,101] [59] 43 0):=by simp[Hid,zO,uV,qJ,xW,yE,xS,qQ,h]
 go_enter Tryz.func128,Tryz.ntmps128
 go_wp2
 go_loop [7] (fun iv=>∃i:Nat,i<=43/\iv=.int .i64 i/\Hid (xM [100,111,110,101] [59] (43-i) i=zO [100,111,110,101] [59] op)) (fun iv=>43-(intOf iv).toNat)
 case atStart=>exact⟨0,by omega,rfl,HF.out.symm⟩
 case round =>
  obtain⟨i,hi,rfl,HI⟩:=hrel;by_cases zI6:i<43
  ·have hc0:=HW.out (i*3) (by omega)
   have hc1:=HW.out (i*3+1) (by omega);have hc2:=HW.out (i*3+2) (by omega);obtain⟨a,ha⟩:∃a,xP.getD (i*3) []=a:=⟨_,rfl⟩;obtain⟨b,hb⟩:∃b,xP.getD (i*3+1) []=b:=⟨_,rfl⟩;obtain⟨c,hc⟩:∃c,xP.getD (i*3+2) []=c:=⟨_,rfl⟩;rw[ha]at hc0;rw[hb]at hc1;rw[hc]at hc2;have HA:Hid (xP.getD (i*3) []=a):=ha;have HB:Hid (xP.getD (i*3+1) []=b):=hb;have HC:Hid (xP.getD (i*3+2) []=c):=hc;clear ha hb hc;by_cases e1:a=[100,111,110,101]
   ·have f1:(a==[100,111,110,101])=true:=by simpa using e1
    by_cases e2:b=[59]
    ·have HR:Hid (zO [100,111,110,101] [59] op=c):=by
      have h1:=HI.out;rw[jS zI6 (by rw[HA.out];exact e1) (by rw[HB.out];exact e2),HC.out]at h1;exact h1.symm
     have f2:(b==[59])=true:=by simpa using e2
     clear e1 e2 HI HA HB HC
     go_wp2
     go_ret;exact⟨yS HR.out.symm,rfl⟩
    ·have HR:Hid (xM [100,111,110,101] [59] (43-(i+1)) (i+1)=zO [100,111,110,101] [59] op):=by
      have h1:=HI.out;rw[xJ zI6 (by rw[HB.out];exact fun h=>e2 h.2)]at h1;exact h1
     have f2:(b==[59])=false:=by simpa using e2
     clear e1 e2 HI HA HB HC
     go_wp2
     go_round
     case rel=>exact⟨i+1,by omega,by go_num,HR.out⟩
     case measure=>simp[intOf];omega
   ·have f1:(a==[100,111,110,101])=false:=by simpa using e1
    have HR:Hid (xM [100,111,110,101] [59] (43-(i+1)) (i+1)=zO [100,111,110,101] [59] op):=by
     have h1:=HI.out;rw[xJ zI6 (by rw[HA.out];exact fun h=>e1 h.1)]at h1;exact h1
    clear e1 HI HA HB HC
    go_wp2
    go_round
    case rel=>exact⟨i+1,by omega,by go_num,HR.out⟩
    case measure=>simp[intOf];omega
  ·have HR:Hid (zO [100,111,110,101] [59] op=[]):=by have h1:=HI.out;rw[jT zI6]at h1;exact h1.symm
   clear HI
   go_wp2
   all_goals (go_ret;exact⟨yS HR.out.symm,rfl⟩)
theorem XG(cl:Bs)(op:Int)(h1:¬cl=xW)(h2:¬cl=yE)(h3:¬cl=xS)(h4:¬cl=qQ)(w:World)(hf:jJ w) :
 Calls Tryz.prog 128 #[.string ⟨[100,111,110,101].toArray⟩,.string ⟨cl.toArray⟩,.int .i64 op] w fun e w'=>e=.returned (.string ⟨(zO [100,111,110,101] cl op).toArray⟩)/\w'=w:=by
 have HW:Hid (jJ w):=hf;clear hf;have HF:Hid (zO [100,111,110,101] cl op=xM [100,111,110,101] cl 43 0):=by simp[Hid,zO,h1,h2,h3,h4]
 have b1:(cl==[111,114])=false:=by simpa[xW] using h1
 have b2:(cl==[97,110,100])=false:=by simpa[yE] using h2
 have b3:(cl==[41])=false:=by simpa[xS] using h3
 have b4:(cl==[59])=false:=by simpa[qQ] using h4
 clear h1 h2 h3 h4
 go_enter Tryz.func128,Tryz.ntmps128
 go_wp2
 go_loop [7] (fun iv=>∃i:Nat,i<=43/\iv=.int .i64 i/\Hid (xM [100,111,110,101] cl (43-i) i=zO [100,111,110,101] cl op)) (fun iv=>43-(intOf iv).toNat)
 case atStart=>exact⟨0,by omega,rfl,HF.out.symm⟩
 case round =>
  obtain⟨i,hi,rfl,HI⟩:=hrel;by_cases zI6:i<43
  ·have hc0:=HW.out (i*3) (by omega)
   have hc1:=HW.out (i*3+1) (by omega);have hc2:=HW.out (i*3+2) (by omega);obtain⟨a,ha⟩:∃a,xP.getD (i*3) []=a:=⟨_,rfl⟩;obtain⟨b,hb⟩:∃b,xP.getD (i*3+1) []=b:=⟨_,rfl⟩;obtain⟨c,hc⟩:∃c,xP.getD (i*3+2) []=c:=⟨_,rfl⟩;rw[ha]at hc0;rw[hb]at hc1;rw[hc]at hc2;have HA:Hid (xP.getD (i*3) []=a):=ha;have HB:Hid (xP.getD (i*3+1) []=b):=hb;have HC:Hid (xP.getD (i*3+2) []=c):=hc;clear ha hb hc;by_cases e1:a=[100,111,110,101]
   ·have f1:(a==[100,111,110,101])=true:=by simpa using e1
    by_cases e2:b=cl
    ·have HR:Hid (zO [100,111,110,101] cl op=c):=by
      have h1:=HI.out;rw[jS zI6 (by rw[HA.out];exact e1) (by rw[HB.out];exact e2),HC.out]at h1;exact h1.symm
     have f2:(b==cl)=true:=by simpa using e2
     clear e1 e2 HI HA HB HC
     go_wp2
     go_ret;exact⟨yS HR.out.symm,rfl⟩
    ·have HR:Hid (xM [100,111,110,101] cl (43-(i+1)) (i+1)=zO [100,111,110,101] cl op):=by
      have h1:=HI.out;rw[xJ zI6 (by rw[HB.out];exact fun h=>e2 h.2)]at h1;exact h1
     have f2:(b==cl)=false:=by simpa using e2
     clear e1 e2 HI HA HB HC
     go_wp2
     go_round
     case rel=>exact⟨i+1,by omega,by go_num,HR.out⟩
     case measure=>simp[intOf];omega
   ·have f1:(a==[100,111,110,101])=false:=by simpa using e1
    have HR:Hid (xM [100,111,110,101] cl (43-(i+1)) (i+1)=zO [100,111,110,101] cl op):=by
     have h1:=HI.out;rw[xJ zI6 (by rw[HA.out];exact fun h=>e1 h.1)]at h1;exact h1
    clear e1 HI HA HB HC
    go_wp2
    go_round
    case rel=>exact⟨i+1,by omega,by go_num,HR.out⟩
    case measure=>simp[intOf];omega
  ·have HR:Hid (zO [100,111,110,101] cl op=[]):=by have h1:=HI.out;rw[jT zI6]at h1;exact h1.symm
   clear HI
   go_wp2
   all_goals (go_ret;exact⟨yS HR.out.symm,rfl⟩)
theorem Za(st cl:Bs)(op:Int)(w:World)(hf:jJ w) :
 Calls Tryz.prog 128 #[.string ⟨st.toArray⟩,.string ⟨cl.toArray⟩,.int .i64 op] w fun e w'=>e=.returned (.string ⟨(zO st cl op).toArray⟩)/\w'=w:=by
 by_cases h1:st=uV
 ·subst h1
  by_cases c1:cl=xW
  ·subst c1;exact QH op w hf
  by_cases c2:cl=yE
  ·subst c2;exact XD op w hf
  by_cases c3:cl=xS
  ·subst c3;by_cases h:op=0
   ·exact ZI op h w hf
   ·exact YC op h w hf
  by_cases c4:cl=qQ
  ·subst c4;by_cases h:0<op
   ·exact YD op h w hf
   ·exact XC op h w hf
  exact YE cl op c1 c2 c3 c4 w hf
 ·by_cases h2:st=qJ
  ·subst h2
   by_cases c1:cl=xW
   ·subst c1;exact Kq op w hf
   by_cases c2:cl=yE
   ·subst c2;exact QJ op w hf
   by_cases c3:cl=xS
   ·subst c3;by_cases h:op=0
    ·exact YF op h w hf
    ·exact XE op h w hf
   by_cases c4:cl=qQ
   ·subst c4;by_cases h:0<op
    ·exact XF op h w hf
    ·exact QI op h w hf
   exact XG cl op c1 c2 c3 c4 w hf
  ·exact Cr st cl op h1 h2 w hf
end Go.Proofs.YtnbpdffdnphbeaaGreatDoor
