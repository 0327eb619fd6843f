import Derived.Test.YtnbpdffdnphbeabGreatDoorCkLines
set_option maxHeartbeats 2000000
namespace Go.Proofs.YtnbpdffdnphbeabGreatDoor
open Go.RowKit
variable{ls:List LX}{a:Option Addr}{w:World}
def GV(f:FuncId)(args:Array Value)(w:World)(v:Value):Prop:=∀w',Below w.heap.size w w'->Calls Tryz.prog f args w' fun e w''=>e=.returned v/\Below w'.heap.size w' w''
theorem GV.at{f:FuncId}{args:Array Value}{v:Value}(h:GV f args w v){w':World}(hb:Below w.heap.size w w'):GV f args w' v:=fun w'' h2=>h w'' (hb.trans (h2.mono hb.size))
theorem cR(h:kT w a ls)(c:Nat)(k:Int)(nm:Bs):GV 153 #[.slice a ls.length c,.int .i64 k,.string ⟨nm.toArray⟩] w (.bool (vP (fs ls) k nm)) :=
 fun w' hb=>BJ w' a c ls k nm (h.below hb (j1 _))
theorem aH(h:kT w a ls)(c:Nat)(k:Int)(nm:Bs)(i:Nat)(hi:i<ls.length):GV 153 #[.slice a i c,.int .i64 k,.string ⟨nm.toArray⟩] w (.bool (vP ((fs ls).take i) k nm)):=by
 have:=cR (h.take i) c k nm;rw[lu,Nat.min_eq_left (by omega),show fs (ls.take i)=(fs ls).take i from List.map_take ..]at this;exact this
theorem X3(h:kT w a ls)(c:Nat)(nm:Bs):GV 154 #[.slice a ls.length c,.string ⟨nm.toArray⟩] w (.bool (kO (fs ls) nm)) :=
 fun w' hb=>Zu w' a c ls nm (h.below hb (j1 _))
theorem ZI(h:kT w a ls)(c:Nat)(nm:Bs):GV 157 #[.slice a ls.length c,.string ⟨nm.toArray⟩] w (.int .i64 (vT (fs ls) nm)) :=
 fun w' hb=>Vl w' a c ls nm (h.below hb (j1 _))
theorem QO(w:World)(a:Option Addr)(n c:Nat)(nm:Bs)(p q:Bool)(h1:GV 153 #[.slice a n c,.int .i64 1,.string ⟨nm.toArray⟩] w (.bool p))(h2:GV 154 #[.slice a n c,.string ⟨nm.toArray⟩] w (.bool q)) :
 Calls Tryz.prog 155 #[.slice a n c,.string ⟨nm.toArray⟩] w fun e w'=>e=.returned (.bool (p || q))/\Below w.heap.size w w':=by
 have H1:=zA h1;have H2:=zA h2;clear h1 h2;cases p
 ·go_enter Tryz.func155,Tryz.ntmps155
  go_wp2_with fail
  refine(H1.out _ (t9 _ _)).mono ?_;rintro e w1 ⟨rfl,hb1⟩;have HB1:=zA hb1;clear hb1;go_wp2_with fail
  refine(H2.out _ HB1.out).mono ?_;rintro e w2 ⟨rfl,hb2⟩;have HB2:Hid (Below w.heap.size w w2):=HB1.out.trans (hb2.mono HB1.out.size);clear hb2;go_wp2_with fail
  go_ret
  exact⟨rfl,HB2.out⟩
 ·go_enter Tryz.func155,Tryz.ntmps155
  go_wp2_with fail
  refine(H1.out _ (t9 _ _)).mono ?_;rintro e w1 ⟨rfl,hb1⟩;have HB1:=zA hb1;clear hb1;go_wp2_with fail
  go_ret
  exact⟨rfl,HB1.out⟩
theorem QP(h:kT w a ls)(c:Nat)(nm:Bs):GV 155 #[.slice a ls.length c,.string ⟨nm.toArray⟩] w (.bool (Yw (fs ls) nm)) :=
 fun w' hb=>QO w' a ls.length c nm _ _ ((cR h c 1 nm).at hb) ((X3 h c nm).at hb)
theorem vM{w1:World}{o:Obj}(h:Below (w.alloc o).heap.size (w.alloc o) w1):Below w.heap.size w w1:=(da (j1 _) o).trans (h.mono (p6 (zQ _ _)))
theorem mZ{w1:World}{cs:Array Value}{T:TypeId}{fz:Nat × Nat}(h:Below (w.alloc (.cells cs T fz)).heap.size (w.alloc (.cells cs T fz)) w1)(j:Nat):w1.cell? ⟨w.heap.size,j,none⟩=cs[j]? := by
 have h1:w1.heap[w.heap.size]? = some (.cells cs T fz):=by rw[h.block _ (zQ _ _)];exact zH _ _
 simp only[World.cell?,h1];rfl
theorem Yk(w:World)(a:Option Addr)(c:Nat)(ls:List LX)(x:zM)(h:kT w a ls) :
 Calls Tryz.prog 156 #[.slice a ls.length c,qO x] w fun e w'=>e=.returned (.bool (xT (fs ls) x))/\Below w.heap.size w w':=by
 obtain⟨kd,le,ri,nm,mk,ot,nu⟩:=x;have HC:=zA (X3 h c nm);have HF:=zA (cR h c 2 nm);have HN:=zA (cR h c 1 nm);have HO:=zA (cR h c 1 ot);have zEO:=h.few;clear h;unfold qO;by_cases k5:kd=5
 ·have HR:Hid (xT (fs ls) ⟨kd,le,ri,nm,mk,ot,nu⟩=kO (fs ls) nm):=by unfold Hid xT;rw[tg k5]
  have b5:(kd==5)=true:=by simpa using k5
  clear k5 HF HN HO
  go_enter Tryz.func156,Tryz.ntmps156
  go_wp2_with fail
  refine(HC.out _ (da (j1 _) _)).mono ?_;rintro e w1 ⟨rfl,hb1⟩;have HB1:Hid (Below w.heap.size w w1):=vM hb1;clear hb1;go_wp2_with fail
  go_ret
  exact⟨zF HR.out.symm,HB1.out⟩
 have b5:(kd==5)=false:=by simpa using k5
 by_cases k6:kd=6
 ·have HR:Hid (xT (fs ls) ⟨kd,le,ri,nm,mk,ot,nu⟩=vP (fs ls) 2 nm):=by unfold Hid xT;rw[t7 k5,tg k6]
  have b6:(kd==6)=true:=by simpa using k6
  clear k5 k6 HC HN HO
  go_enter Tryz.func156,Tryz.ntmps156
  go_wp2_with fail
  refine(HF.out _ (da (j1 _) _)).mono ?_;rintro e w1 ⟨rfl,hb1⟩;have HB1:Hid (Below w.heap.size w w1):=vM hb1;clear hb1;go_wp2_with fail
  go_ret
  exact⟨zF HR.out.symm,HB1.out⟩
 have b6:(kd==6)=false:=by simpa using k6
 by_cases k7:kd=7
 ·have HR:Hid (xT (fs ls) ⟨kd,le,ri,nm,mk,ot,nu⟩=((decide (ot=[]) || vP (fs ls) 1 ot)&&vP (fs ls) 1 nm)):=by unfold Hid xT;rw[t7 k5,t7 k6,tg k7]
  have b7:(kd==7)=true:=by simpa using k7
  clear k5 k6 HC HF;generalize vP (fs ls) 1 ot=p at *;generalize vP (fs ls) 1 nm=q at *;by_cases ko:ot=[]
  ·have HR2:Hid (xT (fs ls) ⟨kd,le,ri,nm,mk,ot,nu⟩=q):=by unfold Hid;rw[HR.out,tl ko];rfl
   have bo:(ot==[])=true:=by simpa using ko
   clear HR ko k7
   go_enter Tryz.func156,Tryz.ntmps156
   go_wp2_with fail
   refine(HN.out _ (da (j1 _) _)).mono ?_;rintro e w1 ⟨rfl,hb1⟩;have HB1:Hid (Below w.heap.size w w1):=vM hb1;clear hb1;go_wp2_with fail
   go_ret
   exact⟨zF HR2.out.symm,HB1.out⟩
  ·have HR2:Hid (xT (fs ls) ⟨kd,le,ri,nm,mk,ot,nu⟩=(p&&q)):=by unfold Hid;rw[HR.out,tm ko];rfl
   have bo:(ot==[])=false:=by simpa using ko
   clear HR ko k7;cases p
   ·go_enter Tryz.func156,Tryz.ntmps156
    go_wp2_with fail
    refine(HO.out _ (da (j1 _) _)).mono ?_;rintro e w1 ⟨rfl,hb1⟩;have HB1:Hid (Below w.heap.size w w1):=vM hb1;clear hb1;go_wp2_with fail
    go_ret
    exact⟨zF HR2.out.symm,HB1.out⟩
   ·go_enter Tryz.func156,Tryz.ntmps156
    go_wp2_with fail
    refine(HO.out _ (da (j1 _) _)).mono ?_;rintro e w1 ⟨rfl,hb1⟩;have HB1:Hid (Below w.heap.size w w1):=vM hb1;have q1:=mZ hb1;clear hb1;go_wp2_with fail
    refine(HN.out _ HB1.out).mono ?_;rintro e w2 ⟨rfl,hb2⟩;have HB2:Hid (Below w.heap.size w w2):=HB1.out.trans (hb2.mono HB1.out.size);clear hb2;go_wp2_with fail
    go_ret
    exact⟨zF HR2.out.symm,HB2.out⟩
 ·have HR:Hid (xT (fs ls) ⟨kd,le,ri,nm,mk,ot,nu⟩=true):=by unfold Hid xT;rw[t7 k5,t7 k6,t7 k7]
  have b7:(kd==7)=false:=by simpa using k7
  clear k5 k6 k7 HC HF HN HO
  go_enter Tryz.func156,Tryz.ntmps156
  go_wp2_with fail
  go_ret
  exact⟨zF HR.out.symm,da (j1 _) _⟩
theorem Yl(h:kT w a ls)(c:Nat)(x:zM):GV 156 #[.slice a ls.length c,qO x] w (.bool (xT (fs ls) x)) :=
 fun w' hb=>Yk w' a c ls x (h.below hb (j1 _))
theorem rZ(w:World)(a:Option Addr)(c:Nat)(ls:List LX)(i:Nat)(hi:i<ls.length)(hc:ls.length<=c)(h:kT w a ls) :
 Calls Tryz.prog 113 #[.slice a ls.length c,.int .i64 i] w fun e w'=>e=.returned (.int .i64 (fY (fs ls) i))/\Below w.heap.size w w':=by
 have zEO:=h.few;have HR:Hid (fY (fs ls) i=if vP ((fs ls).take i) 1 (tE ls i).1.name || (vP ((fs ls).take i) 2 (tE ls i).1.name || kO (fs ls) (tE ls i).1.name) then 4 else 0):=by unfold Hid fY;rw[kQ]
 have H1:=zA (aH h c 1 (tE ls i).1.name i hi);have H2:=zA (aH h c 2 (tE ls i).1.name i hi);have H3:=zA (X3 h c (tE ls i).1.name);obtain⟨gl,sa,sn,sc,na,nn,nc,rfl,hgl,⟨c0,c1,c2,c3,c4,c5,c6,c7,c8,c9,c10⟩,_,_⟩:=h.line hi;clear h c0 c2 c3 c4 c5 c6 c7 c8 c9 c10;generalize (tE ls i).1.name=nm at *;generalize vP ((fs ls).take i) 1 nm=p at *;generalize vP ((fs ls).take i) 2 nm=q at *;generalize kO (fs ls) nm=r at *;cases p
 ·cases q
  ·go_enter Tryz.func113,Tryz.ntmps113
   go_wp2_with fail
   refine(H1.out _ (t9 _ _)).mono ?_;rintro e w1 ⟨rfl,hb1⟩;have HB1:=zA hb1;clear hb1;go_wp2_with fail
   refine(H2.out _ HB1.out).mono ?_;rintro e w2 ⟨rfl,hb2⟩;have HB2:Hid (Below w.heap.size w w2):=HB1.out.trans (hb2.mono HB1.out.size);clear hb2;go_wp2_with fail
   refine(H3.out _ HB2.out).mono ?_;rintro e w3 ⟨rfl,hb3⟩;have HB3:Hid (Below w.heap.size w w3):=HB2.out.trans (hb3.mono HB2.out.size);clear hb3;cases r
   ·go_wp2_with fail
    go_ret
    exact⟨yN HR.out.symm,HB3.out⟩
   ·go_wp2_with fail
    go_ret
    exact⟨yN HR.out.symm,HB3.out⟩
  ·go_enter Tryz.func113,Tryz.ntmps113
   go_wp2_with fail
   refine(H1.out _ (t9 _ _)).mono ?_;rintro e w1 ⟨rfl,hb1⟩;have HB1:=zA hb1;clear hb1;go_wp2_with fail
   refine(H2.out _ HB1.out).mono ?_;rintro e w2 ⟨rfl,hb2⟩;have HB2:Hid (Below w.heap.size w w2):=HB1.out.trans (hb2.mono HB1.out.size);clear hb2;go_wp2_with fail
   go_ret
   exact⟨yN HR.out.symm,HB2.out⟩
 ·go_enter Tryz.func113,Tryz.ntmps113
  go_wp2_with fail
  refine(H1.out _ (t9 _ _)).mono ?_;rintro e w1 ⟨rfl,hb1⟩;have HB1:=zA hb1;clear hb1;go_wp2_with fail
  go_ret
  exact⟨yN HR.out.symm,HB1.out⟩
def uW(nm:Bs):List Bs->Nat->Int
 | [],_ => -1
 | x::r,i=>if x=nm then (i:Int) else uW nm r (i+1)
def zJ(zE6:List Bs)(nm:Bs):Int:=uW nm zE6 0
def vD:List zE->List Bs->List Bs
 | [],acc=>acc
 | x::r,acc=>vD r (if x.kind=3/\zJ acc x.conc<0 then acc++[x.conc] else acc)
def zN(ls:List zE):List Bs:=vD ls []
def uO:List zE->List Bs->List Bs
 | [],acc=>acc
 | x::r,acc=>uO r (if x.kind=3 then acc++[x.name] else acc)
def xP(ls:List zE):List Bs:=uO ls []
theorem gI(nm:Bs)(l:List Bs):∀i:Nat,-1<=uW nm l i/\uW nm l i<(i:Int)+l.length:=by
 induction l with
 | nil=>intro i;simp[uW];omega
 | cons x r ih=>intro i;rw[uW];split
                ·simp;omega
                ·have:=ih (i+1);simp only[ty];omega
theorem oQ(nm:Bs)(l:List Bs)(i:Nat)(h:i<l.length):uW nm (l.drop i) i=if l.getD i []=nm then (i:Int) else uW nm (l.drop (i+1)) (i+1):=by
 rw[pe h,uW];simp[List.getD,h]
theorem QW(ls:List zE)(i:Nat)(acc:List Bs)(h:i<ls.length):vD (ls.drop i) acc=vD (ls.drop (i+1)) (if (lA ls i).kind=3/\zJ acc (lA ls i).conc<0 then acc++[(lA ls i).conc] else acc):=by
 rw[pe h,vD];simp[lA,List.getD,h]
theorem KK(ls:List zE)(i:Nat)(acc:List Bs)(h:i<ls.length):uO (ls.drop i) acc=uO (ls.drop (i+1)) (if (lA ls i).kind=3 then acc++[(lA ls i).name] else acc):=by
 rw[pe h,uO];simp[lA,List.getD,h]
def xV(l:List Bs):List Value:=l.map fun s=>Value.string ⟨s.toArray⟩
structure aV(w:World)(a:Option Addr)(zE6:List Bs):Prop where
 blk:0<zE6.length->∃g,a=some ⟨g,0,none⟩/\∀i,i<zE6.length->w.cell? ⟨g,i,none⟩=some (.string ⟨(zE6.getD i []).toArray⟩)
 few:zE6.length<=10000
theorem wP(zE6:List Bs)(i:Nat)(h:i<zE6.length):(xV zE6)[i]? = some (.string ⟨(zE6.getD i []).toArray⟩):=by
 simp[xV,List.getD,h]
theorem VX{B:Nat}{v:Value}{zE6:List Bs}(h:w.ownsRow B 9 1 v zE6.length (xV zE6))(hf:zE6.length<=10000):∃a c,v=.slice a zE6.length c/\aV w a zE6:=by
 rcases h.2 with ⟨h1,h2⟩|⟨g,cap,yJ,h1,_,h3,_,_,_,h7⟩
 ·exact⟨none,0,by rw[h1,h2],⟨fun h0=>by omega,hf⟩⟩
 ·refine⟨some ⟨g,0,none⟩,cap,h1,⟨fun _=>⟨g,rfl,fun i hi=>xF h3 (n:=zE6.length*1) h7 (wP zE6 i hi)⟩,hf⟩⟩
theorem ZG(w:World)(a:Option Addr)(c:Nat)(zE6:List Bs)(nm:Bs)(h:aV w a zE6) :
 Calls Tryz.prog 116 #[.slice a zE6.length c,.string ⟨nm.toArray⟩] w fun e w'=>e=.returned (.int .i64 (zJ zE6 nm))/\w'=w:=by
 have HS:=zA h;have zEO:=h.few;clear h
 go_enter Tryz.func116,Tryz.ntmps116
 go_wp2_with fail
 go_loop [9] (fun iv=>∃(i:Nat),i<=zE6.length/\iv=.int .i64 i/\Hid (uW nm (zE6.drop i) i=zJ zE6 nm)) (fun iv=>zE6.length-(intOf iv).toNat)
 case atStart=>exact⟨0,tq _,rfl,zA rfl⟩
 case round =>
  obtain⟨i,hi,rfl,HE⟩:=hrel;by_cases zE9:i<zE6.length
  ·obtain⟨g,rfl,zEP⟩:=HS.out.blk (by omega)
   have hc:=zEP i zE9;have hE:=HE.out;rw[oQ nm zE6 i zE9]at hE;have HE2:=zA hE;clear HE hE zEP;generalize zE6.getD i []=s at *;by_cases k1:s=nm
   ·have HE3:Hid (zJ zE6 nm=i):=by have:=HE2.out;rw[tg k1]at this;exact this.symm
    have b1:(s==nm)=true:=by simpa using k1
    clear HE2 k1;go_wp2_with fail
    go_ret
    exact⟨yN HE3.out.symm,rfl⟩
   ·have HE3:Hid (uW nm (zE6.drop (i+1)) (i+1)=zJ zE6 nm):=by have:=HE2.out;rw[t7 k1]at this;exact this
    have b1:(s==nm)=false:=by simpa using k1
    clear HE2 k1;go_wp2_with fail
    go_round
    case rel=>exact⟨i+1,by omega,by go_num,HE3⟩
    case measure=>simp[intOf];omega
  ·have HE3:Hid (zJ zE6 nm = -1):=by have:=HE.out;rw[p8 (by omega)]at this;exact this.symm
   clear HE;go_wp2_with fail
   go_ret
   exact⟨yN HE3.out.symm,rfl⟩
theorem nF:(Tryz.prog.info? 9).map (fun i=>(i.zero,i.size,i.bytes))=some (some (.string ⟨#[]⟩),1,16):=by kernel_rfl
theorem Yx(l:List Bs)(s:Bs):xV (l++[s])=xV l++[.string ⟨s.toArray⟩]:=by simp[xV]
theorem oA(w:World)(a:Option Addr)(c:Nat)(ls:List LX)(h:kT w a ls) :
 Calls Tryz.prog 80 #[.slice a ls.length c] w fun e w'=>∃v,e=.returned v/\w'.ownsRow w.heap.size 9 1 v (zN (fs ls)).length (xV (zN (fs ls)))/\(zN (fs ls)).length<=ls.length/\Below w.heap.size w w':=by
 obtain⟨i0,hi0,hz0,hz1,hz2⟩:=info_parts nF;have HL:=zA h;have zEO:=h.few;obtain⟨B,hB⟩:∃B,B=w.heap.size:=⟨_,rfl⟩;have HB0:=zA hB;clear h hB
 go_enter Tryz.func80,Tryz.ntmps80
 go_wp2_with fail
 go_loopw [3,9] (fun ov iv wr=>∃(i:Nat) (acc:List Bs),i<=ls.length/\acc.length<=i/\iv=.int .i64 i/\Hid (wr.ownsRow B 9 1 ov acc.length (xV acc))/\Hid (Below B w wr)/\Hid (vD ((fs ls).drop i) acc=zN (fs ls))) (fun _ iv _=>ls.length-(intOf iv).toNat)
 case atStart=>exact⟨0,[],tq _,j1 _,rfl,zA ⟨rfl,.inr ⟨w.heap.size,0,#[],rfl,by rw[HB0.out];exact j1 _,zH _ _,j1 _,tq _,rfl,rfl⟩⟩,zA (da (by rw[HB0.out];exact j1 _) _),zA rfl⟩
 case round =>
  obtain⟨i,acc,hi,hacc,rfl,HO,HB,HE⟩:=hrel;by_cases zE9:i<ls.length
  ·obtain⟨gl,sa,sn,sc,na,nn,nc,rfl,hgl,⟨c0,c1,c2,c3,c4,c5,c6,c7,c8,c9,c10⟩,_,_⟩:=(HL.out.below HB.out (by rw[HB0.out];exact j1 _)).line zE9
   have hE:=HE.out;rw[QW _ i _ (by simpa using zE9),kQ]at hE;have HE2:=zA hE;have zEF:B<=wr.heap.size:=by have:=HB.out.size;have h2:=HB0.out;omega
   obtain⟨oa,oc,rfl,hstr⟩:=VX HO.out (by omega);have HF:=zA (fun w' (hb:Below wr.heap.size wr w') nm=>ZG w' oa oc acc nm ⟨fun h0=>let ⟨g,e,p⟩:=hstr.blk h0;⟨g,e,fun j hj=>by rw[hb.cell (p:=⟨g,j,none⟩) (by rcases pf g wr.heap.size with h1|h1;exact h1;have:=p j hj;rw[World.cell?,pb (by simpa using h1)]at this;cases this)];exact p j hj⟩,hstr.few⟩);clear HE hE hstr;generalize (tE ls i).1=x at *;obtain⟨kd,n1,lo,hi',cc,S,N,ro,te,de,lw⟩:=x;simp only at c0 c1 c2 c3 c4 c5 c6 c7 c8 c9 c10;by_cases k1:kd=3
   ·have b1:(kd==3)=true:=by simpa using k1
    by_cases k2:zJ acc cc<0
    ·have HE3:Hid (vD ((fs ls).drop (i+1)) (acc++[cc])=zN (fs ls)):=by have:=HE2.out;rw[tg ⟨k1,k2⟩]at this;exact this
     clear HE2 k1;go_wp2_with fail
     refine(HF.out _ (da (j1 _) _) cc).mono ?_;rintro e w1 ⟨rfl,hw⟩;obtain rfl:=hw.symm
     go_wp2_with (at_builtin;refine wpList_append_own _ rfl _ _ 70 rfl B 9 i0 _ 1 16 Tryz.underlying70 hi0 hz0 hz1 hz2 rfl (by decide) _ _ _ rfl ((HO.out.alloc _).alloc _) ⟨wr.heap.size+1,0,none⟩ 1 1 [.string ⟨cc.toArray⟩] rfl rfl ?c1 ?c2 ?c3 ?c4 ?c5 ?_)
     case c1=>exact World.news_of_block (heap_alloc2_new wr _ _)
     case c2=>intro u hu;simp at hu;subst hu;rfl
     case c3=>unfold maxLen;omega
     case c4=>omega
     case c5=>simp;omega
     intro v' w2 zEK zEC _;have HB2:Hid (Below B w w2):=((HB.out.alloc zEF _).alloc (tr zEF (p6 (zQ _ _))) _).grown zEC (by simp;omega) (zU HO.out);have HO2:Hid (w2.ownsRow B 9 1 v' (acc++[cc]).length (xV (acc++[cc]))):=by unfold Hid;rw[Yx];simpa using zEK
     clear zEC zEK;go_wp2_with fail
     go_roundw
     case rel=>exact⟨i+1,acc++[cc],by omega,by simp;omega,by go_num,HO2,HB2,HE3⟩
     case measure=>simp[intOf];omega
    ·have HE3:Hid (vD ((fs ls).drop (i+1)) acc=zN (fs ls)):=by have:=HE2.out;rw[t7 (fun h=>k2 h.2)]at this;exact this
     have k3:decide (zJ acc cc<0)=false:=tm k2;clear HE2 k1;go_wp2_with fail
     refine(HF.out _ (da (j1 _) _) cc).mono ?_;rintro e w1 ⟨rfl,hw⟩;obtain rfl:=hw.symm;go_wp2_with fail
     go_roundw
     case rel=>exact⟨i+1,acc,by omega,by omega,by go_num,zA (HO.out.alloc _),zA (HB.out.alloc zEF _),HE3⟩
     case measure=>simp[intOf];omega
   ·have HE3:Hid (vD ((fs ls).drop (i+1)) acc=zN (fs ls)):=by have:=HE2.out;rw[t7 (fun h=>k1 h.1)]at this;exact this
    have b1:(kd==3)=false:=by simpa using k1
    clear HE2 k1;go_wp2_with fail
    go_roundw
    case rel=>exact⟨i+1,acc,by omega,by omega,by go_num,zA (HO.out.alloc _),zA (HB.out.alloc zEF _),HE3⟩
    case measure=>simp[intOf];omega
  ·have HE3:Hid (acc=zN (fs ls)):=by have:=HE.out;rw[p8 (by simp;omega)]at this;exact this
   clear HE;go_wp2_with fail
   go_ret
   exact⟨_,rfl,by rw[<-HE3.out,<-HB0.out];exact HO.out,by rw[<-HE3.out];omega,by rw[<-HB0.out];exact HB.out⟩
theorem Xi(w:World)(a:Option Addr)(c:Nat)(ls:List LX)(h:kT w a ls) :
 Calls Tryz.prog 81 #[.slice a ls.length c] w fun e w'=>∃v,e=.returned v/\w'.ownsRow w.heap.size 9 1 v (xP (fs ls)).length (xV (xP (fs ls)))/\(xP (fs ls)).length<=ls.length/\Below w.heap.size w w':=by
 obtain⟨i0,hi0,hz0,hz1,hz2⟩:=info_parts nF;have HL:=zA h;have zEO:=h.few;obtain⟨B,hB⟩:∃B,B=w.heap.size:=⟨_,rfl⟩;have HB0:=zA hB;clear h hB
 go_enter Tryz.func81,Tryz.ntmps81
 go_wp2_with fail
 go_loopw [3,9] (fun ov iv wr=>∃(i:Nat) (acc:List Bs),i<=ls.length/\acc.length<=i/\iv=.int .i64 i/\Hid (wr.ownsRow B 9 1 ov acc.length (xV acc))/\Hid (Below B w wr)/\Hid (uO ((fs ls).drop i) acc=xP (fs ls))) (fun _ iv _=>ls.length-(intOf iv).toNat)
 case atStart=>exact⟨0,[],tq _,j1 _,rfl,zA ⟨rfl,.inr ⟨w.heap.size,0,#[],rfl,by rw[HB0.out];exact j1 _,zH _ _,j1 _,tq _,rfl,rfl⟩⟩,zA (da (by rw[HB0.out];exact j1 _) _),zA rfl⟩
 case round =>
  obtain⟨i,acc,hi,hacc,rfl,HO,HB,HE⟩:=hrel;by_cases zE9:i<ls.length
  ·obtain⟨gl,sa,sn,sc,na,nn,nc,rfl,hgl,⟨c0,c1,c2,c3,c4,c5,c6,c7,c8,c9,c10⟩,_,_⟩:=(HL.out.below HB.out (by rw[HB0.out];exact j1 _)).line zE9
   have hE:=HE.out;rw[KK _ i _ (by simpa using zE9),kQ]at hE;have HE2:=zA hE;have zEF:B<=wr.heap.size:=by have:=HB.out.size;have h2:=HB0.out;omega
   clear HE hE;generalize (tE ls i).1=x at *;obtain⟨kd,n1,lo,hi',cc,S,N,ro,te,de,lw⟩:=x;simp only at c0 c1 c2 c3 c4 c5 c6 c7 c8 c9 c10;by_cases k1:kd=3
   ·have b1:(kd==3)=true:=by simpa using k1
    have HE3:Hid (uO ((fs ls).drop (i+1)) (acc++[n1])=xP (fs ls)):=by have:=HE2.out;rw[tg k1]at this;exact this
    clear HE2 k1
    go_wp2_with (at_builtin;refine wpList_append_own _ rfl _ _ 70 rfl B 9 i0 _ 1 16 Tryz.underlying70 hi0 hz0 hz1 hz2 rfl (by decide) _ _ _ rfl ((HO.out.alloc _).alloc _) ⟨wr.heap.size+1,0,none⟩ 1 1 [.string ⟨n1.toArray⟩] rfl rfl ?c1 ?c2 ?c3 ?c4 ?c5 ?_)
    case c1=>exact World.news_of_block (heap_alloc2_new wr _ _)
    case c2=>intro u hu;simp at hu;subst hu;rfl
    case c3=>unfold maxLen;omega
    case c4=>omega
    case c5=>simp;omega
    intro v' w2 zEK zEC _;have HB2:Hid (Below B w w2):=((HB.out.alloc zEF _).alloc (tr zEF (p6 (zQ _ _))) _).grown zEC (by simp;omega) (zU HO.out);have HO2:Hid (w2.ownsRow B 9 1 v' (acc++[n1]).length (xV (acc++[n1]))):=by unfold Hid;rw[Yx];simpa using zEK
    clear zEC zEK;go_wp2_with fail
    go_roundw
    case rel=>exact⟨i+1,acc++[n1],by omega,by simp;omega,by go_num,HO2,HB2,HE3⟩
    case measure=>simp[intOf];omega
   ·have HE3:Hid (uO ((fs ls).drop (i+1)) acc=xP (fs ls)):=by have:=HE2.out;rw[t7 k1]at this;exact this
    have b1:(kd==3)=false:=by simpa using k1
    clear HE2 k1;go_wp2_with fail
    go_roundw
    case rel=>exact⟨i+1,acc,by omega,by omega,by go_num,zA (HO.out.alloc _),zA (HB.out.alloc zEF _),HE3⟩
    case measure=>simp[intOf];omega
  ·have HE3:Hid (acc=xP (fs ls)):=by have:=HE.out;rw[p8 (by simp;omega)]at this;exact this
   clear HE;go_wp2_with fail
   go_ret
   exact⟨_,rfl,by rw[<-HE3.out,<-HB0.out];exact HO.out,by rw[<-HE3.out];omega,by rw[<-HB0.out];exact HB.out⟩
end Go.Proofs.YtnbpdffdnphbeabGreatDoor
