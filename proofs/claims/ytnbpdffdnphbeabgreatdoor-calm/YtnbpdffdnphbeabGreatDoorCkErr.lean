import Derived.Test.YtnbpdffdnphbeabGreatDoorCkLines
set_option maxHeartbeats 2000000
namespace Go.Proofs.YtnbpdffdnphbeabGreatDoor
open Go.RowKit
variable{ls:List LX}{a:Option Addr}{w:World}
def zB3(f:FuncId)(args:Array Value)(w:World)(v:Value):Prop:=∀w',Below w.heap.size w w'->Calls Tryz.prog f args w' fun e w''=>e=.returned v/\Below w'.heap.size w' w''
theorem zB3.at{f:FuncId}{args:Array Value}{v:Value}(h:zB3 f args w v){w':World}(hb:Below w.heap.size w w'):zB3 f args w' v:=fun w'' h2=>h w'' (hb.trans (h2.mono hb.size))
theorem fS(h:jU w a ls)(c:Nat)(k:Int)(nm:Bs):zB3 153 #[.slice a ls.length c,.int .i64 k,.string ⟨nm.toArray⟩] w (.bool (uR (fs ls) k nm)) :=
 fun w' hb=>FY w' a c ls k nm (h.below hb (j1 _))
theorem Ze(h:jU w a ls)(c:Nat)(k:Int)(nm:Bs)(i:Nat)(hi:i<ls.length):zB3 153 #[.slice a i c,.int .i64 k,.string ⟨nm.toArray⟩] w (.bool (uR ((fs ls).take i) k nm)):=by
 have:=fS (h.take i) c k nm;rw[cg,Nat.min_eq_left (by omega),show fs (ls.take i)=(fs ls).take i from List.map_take ..]at this;exact this
theorem JI(h:jU w a ls)(c:Nat)(nm:Bs):zB3 154 #[.slice a ls.length c,.string ⟨nm.toArray⟩] w (.bool (mB (fs ls) nm)) :=
 fun w' hb=>Xi w' a c ls nm (h.below hb (j1 _))
theorem Xz(h:jU w a ls)(c:Nat)(nm:Bs):zB3 157 #[.slice a ls.length c,.string ⟨nm.toArray⟩] w (.int .i64 (uK (fs ls) nm)) :=
 fun w' hb=>BV w' a c ls nm (h.below hb (j1 _))
theorem Vw(w:World)(a:Option Addr)(n c:Nat)(nm:Bs)(p q:Bool)(h1:zB3 153 #[.slice a n c,.int .i64 1,.string ⟨nm.toArray⟩] w (.bool p))(h2:zB3 154 #[.slice a n c,.string ⟨nm.toArray⟩] w (.bool q)) :
 Calls Tryz.prog 155 #[.slice a n c,.string ⟨nm.toArray⟩] w fun e w'=>e=.returned (.bool (p || q))/\Below w.heap.size w w':=by
 have H1:=zA h1;have H2:=zA h2;clear h1 h2;cases p
 ·go_enter Tryz.func155,Tryz.ntmps155
  go_wp2_with fail
  refine(H1.out _ (tg _ _)).mono ?_;rintro e w1 ⟨rfl,hb1⟩;have HB1:=zA hb1;clear hb1;go_wp2_with fail
  refine(H2.out _ HB1.out).mono ?_;rintro e w2 ⟨rfl,hb2⟩;have HB2:Hid (Below w.heap.size w w2):=HB1.out.trans (hb2.mono HB1.out.size);clear hb2;go_wp2_with fail
  go_ret
  exact⟨rfl,HB2.out⟩
 ·go_enter Tryz.func155,Tryz.ntmps155
  go_wp2_with fail
  refine(H1.out _ (tg _ _)).mono ?_;rintro e w1 ⟨rfl,hb1⟩;have HB1:=zA hb1;clear hb1;go_wp2_with fail
  go_ret
  exact⟨rfl,HB1.out⟩
theorem Vx(h:jU w a ls)(c:Nat)(nm:Bs):zB3 155 #[.slice a ls.length c,.string ⟨nm.toArray⟩] w (.bool (Qs (fs ls) nm)) :=
 fun w' hb=>Vw w' a ls.length c nm _ _ ((fS h c 1 nm).at hb) ((JI h c nm).at hb)
theorem vY{w1:World}{o:Obj}(h:Below (w.alloc o).heap.size (w.alloc o) w1):Below w.heap.size w w1:=(fj (j1 _) o).trans (h.mono (ph (zY _ _)))
theorem bM{w1:World}{cs:Array Value}{T:TypeId}{fz:Nat × Nat}(h:Below (w.alloc (.cells cs T fz)).heap.size (w.alloc (.cells cs T fz)) w1)(j:Nat):w1.cell? ⟨w.heap.size,j,none⟩=cs[j]? := by
 have h1:w1.heap[w.heap.size]? = some (.cells cs T fz):=by rw[h.block _ (zY _ _)];exact zG _ _
 simp only[World.cell?,h1];rfl
theorem Qd(w:World)(a:Option Addr)(c:Nat)(ls:List LX)(x:zT)(h:jU w a ls) :
 Calls Tryz.prog 156 #[.slice a ls.length c,kM x] w fun e w'=>e=.returned (.bool (vE (fs ls) x))/\Below w.heap.size w w':=by
 obtain⟨kd,le,ri,nm,mk,ot,nu⟩:=x;have HC:=zA (JI h c nm);have HF:=zA (fS h c 2 nm);have HN:=zA (fS h c 1 nm);have HO:=zA (fS h c 1 ot);have zKI:=h.few;clear h;unfold kM;by_cases k5:kd=5
 ·have HR:Hid (vE (fs ls) ⟨kd,le,ri,nm,mk,ot,nu⟩=mB (fs ls) nm):=by unfold Hid vE;rw[tm k5]
  have b5:(kd==5)=true:=by simpa using k5
  clear k5 HF HN HO
  go_enter Tryz.func156,Tryz.ntmps156
  go_wp2_with fail
  refine(HC.out _ (fj (j1 _) _)).mono ?_;rintro e w1 ⟨rfl,hb1⟩;have HB1:Hid (Below w.heap.size w w1):=vY hb1;clear hb1;go_wp2_with fail
  go_ret
  exact⟨zF HR.out.symm,HB1.out⟩
 have b5:(kd==5)=false:=by simpa using k5
 by_cases k6:kd=6
 ·have HR:Hid (vE (fs ls) ⟨kd,le,ri,nm,mk,ot,nu⟩=uR (fs ls) 2 nm):=by unfold Hid vE;rw[tb k5,tm k6]
  have b6:(kd==6)=true:=by simpa using k6
  clear k5 k6 HC HN HO
  go_enter Tryz.func156,Tryz.ntmps156
  go_wp2_with fail
  refine(HF.out _ (fj (j1 _) _)).mono ?_;rintro e w1 ⟨rfl,hb1⟩;have HB1:Hid (Below w.heap.size w w1):=vY hb1;clear hb1;go_wp2_with fail
  go_ret
  exact⟨zF HR.out.symm,HB1.out⟩
 have b6:(kd==6)=false:=by simpa using k6
 by_cases k7:kd=7
 ·have HR:Hid (vE (fs ls) ⟨kd,le,ri,nm,mk,ot,nu⟩=((decide (ot=[]) || uR (fs ls) 1 ot)&&uR (fs ls) 1 nm)):=by unfold Hid vE;rw[tb k5,tb k6,tm k7]
  have b7:(kd==7)=true:=by simpa using k7
  clear k5 k6 HC HF;generalize uR (fs ls) 1 ot=p at *;generalize uR (fs ls) 1 nm=q at *;by_cases ko:ot=[]
  ·have HR2:Hid (vE (fs ls) ⟨kd,le,ri,nm,mk,ot,nu⟩=q):=by unfold Hid;rw[HR.out,tu ko];rfl
   have bo:(ot==[])=true:=by simpa using ko
   clear HR ko k7
   go_enter Tryz.func156,Tryz.ntmps156
   go_wp2_with fail
   refine(HN.out _ (fj (j1 _) _)).mono ?_;rintro e w1 ⟨rfl,hb1⟩;have HB1:Hid (Below w.heap.size w w1):=vY hb1;clear hb1;go_wp2_with fail
   go_ret
   exact⟨zF HR2.out.symm,HB1.out⟩
  ·have HR2:Hid (vE (fs ls) ⟨kd,le,ri,nm,mk,ot,nu⟩=(p&&q)):=by unfold Hid;rw[HR.out,tq ko];rfl
   have bo:(ot==[])=false:=by simpa using ko
   clear HR ko k7;cases p
   ·go_enter Tryz.func156,Tryz.ntmps156
    go_wp2_with fail
    refine(HO.out _ (fj (j1 _) _)).mono ?_;rintro e w1 ⟨rfl,hb1⟩;have HB1:Hid (Below w.heap.size w w1):=vY hb1;clear hb1;go_wp2_with fail
    go_ret
    exact⟨zF HR2.out.symm,HB1.out⟩
   ·go_enter Tryz.func156,Tryz.ntmps156
    go_wp2_with fail
    refine(HO.out _ (fj (j1 _) _)).mono ?_;rintro e w1 ⟨rfl,hb1⟩;have HB1:Hid (Below w.heap.size w w1):=vY hb1;have q1:=bM hb1;clear hb1;go_wp2_with fail
    refine(HN.out _ HB1.out).mono ?_;rintro e w2 ⟨rfl,hb2⟩;have HB2:Hid (Below w.heap.size w w2):=HB1.out.trans (hb2.mono HB1.out.size);clear hb2;go_wp2_with fail
    go_ret
    exact⟨zF HR2.out.symm,HB2.out⟩
 ·have HR:Hid (vE (fs ls) ⟨kd,le,ri,nm,mk,ot,nu⟩=true):=by unfold Hid vE;rw[tb k5,tb k6,tb k7]
  have b7:(kd==7)=false:=by simpa using k7
  clear k5 k6 k7 HC HF HN HO
  go_enter Tryz.func156,Tryz.ntmps156
  go_wp2_with fail
  go_ret
  exact⟨zF HR.out.symm,fj (j1 _) _⟩
theorem Qe(h:jU w a ls)(c:Nat)(x:zT):zB3 156 #[.slice a ls.length c,kM x] w (.bool (vE (fs ls) x)) :=
 fun w' hb=>Qd w' a c ls x (h.below hb (j1 _))
theorem iI(w:World)(a:Option Addr)(c:Nat)(ls:List LX)(i:Nat)(hi:i<ls.length)(hc:ls.length<=c)(h:jU w a ls) :
 Calls Tryz.prog 113 #[.slice a ls.length c,.int .i64 i] w fun e w'=>e=.returned (.int .i64 (oV (fs ls) i))/\Below w.heap.size w w':=by
 have zKI:=h.few;have HR:Hid (oV (fs ls) i=if uR ((fs ls).take i) 1 (pG ls i).1.name || (uR ((fs ls).take i) 2 (pG ls i).1.name || mB (fs ls) (pG ls i).1.name) then 4 else 0):=by unfold Hid oV;rw[jR]
 have H1:=zA (Ze h c 1 (pG ls i).1.name i hi);have H2:=zA (Ze h c 2 (pG ls i).1.name i hi);have H3:=zA (JI h c (pG ls i).1.name);obtain⟨gl,sa,sn,sc,na,nn,nc,rfl,hgl,⟨c0,c1,c2,c3,c4,c5,c6,c7,c8,c9,c10⟩,_,_⟩:=h.line hi;clear h c0 c2 c3 c4 c5 c6 c7 c8 c9 c10;generalize (pG ls i).1.name=nm at *;generalize uR ((fs ls).take i) 1 nm=p at *;generalize uR ((fs ls).take i) 2 nm=q at *;generalize mB (fs ls) nm=r at *;cases p
 ·cases q
  ·go_enter Tryz.func113,Tryz.ntmps113
   go_wp2_with fail
   refine(H1.out _ (tg _ _)).mono ?_;rintro e w1 ⟨rfl,hb1⟩;have HB1:=zA hb1;clear hb1;go_wp2_with fail
   refine(H2.out _ HB1.out).mono ?_;rintro e w2 ⟨rfl,hb2⟩;have HB2:Hid (Below w.heap.size w w2):=HB1.out.trans (hb2.mono HB1.out.size);clear hb2;go_wp2_with fail
   refine(H3.out _ HB2.out).mono ?_;rintro e w3 ⟨rfl,hb3⟩;have HB3:Hid (Below w.heap.size w w3):=HB2.out.trans (hb3.mono HB2.out.size);clear hb3;cases r
   ·go_wp2_with fail
    go_ret
    exact⟨yQ HR.out.symm,HB3.out⟩
   ·go_wp2_with fail
    go_ret
    exact⟨yQ HR.out.symm,HB3.out⟩
  ·go_enter Tryz.func113,Tryz.ntmps113
   go_wp2_with fail
   refine(H1.out _ (tg _ _)).mono ?_;rintro e w1 ⟨rfl,hb1⟩;have HB1:=zA hb1;clear hb1;go_wp2_with fail
   refine(H2.out _ HB1.out).mono ?_;rintro e w2 ⟨rfl,hb2⟩;have HB2:Hid (Below w.heap.size w w2):=HB1.out.trans (hb2.mono HB1.out.size);clear hb2;go_wp2_with fail
   go_ret
   exact⟨yQ HR.out.symm,HB2.out⟩
 ·go_enter Tryz.func113,Tryz.ntmps113
  go_wp2_with fail
  refine(H1.out _ (tg _ _)).mono ?_;rintro e w1 ⟨rfl,hb1⟩;have HB1:=zA hb1;clear hb1;go_wp2_with fail
  go_ret
  exact⟨yQ HR.out.symm,HB1.out⟩
def qI(nm:Bs):List Bs->Nat->Int
 | [],_ => -1
 | x::r,i=>if x=nm then (i:Int) else qI nm r (i+1)
def zI(zK2:List Bs)(nm:Bs):Int:=qI nm zK2 0
def uM:List zE->List Bs->List Bs
 | [],acc=>acc
 | x::r,acc=>uM r (if x.kind=3/\zI acc x.conc<0 then acc++[x.conc] else acc)
def zO(ls:List zE):List Bs:=uM ls []
def kZ:List zE->List Bs->List Bs
 | [],acc=>acc
 | x::r,acc=>kZ r (if x.kind=3 then acc++[x.name] else acc)
def xW(ls:List zE):List Bs:=kZ ls []
theorem oZ(nm:Bs)(l:List Bs):∀i:Nat,-1<=qI nm l i/\qI nm l i<(i:Int)+l.length:=by
 induction l with
 | nil=>intro i;simp[qI];omega
 | cons x r ih=>intro i;rw[qI];split
                ·simp;omega
                ·have:=ih (i+1);simp only[pd];omega
theorem aT(nm:Bs)(l:List Bs)(i:Nat)(h:i<l.length):qI nm (l.drop i) i=if l.getD i []=nm then (i:Int) else qI nm (l.drop (i+1)) (i+1):=by
 rw[pm h,qI];simp[List.getD,h]
theorem V5(ls:List zE)(i:Nat)(acc:List Bs)(h:i<ls.length):uM (ls.drop i) acc=uM (ls.drop (i+1)) (if (lA ls i).kind=3/\zI acc (lA ls i).conc<0 then acc++[(lA ls i).conc] else acc):=by
 rw[pm h,uM];simp[lA,List.getD,h]
theorem B4(ls:List zE)(i:Nat)(acc:List Bs)(h:i<ls.length):kZ (ls.drop i) acc=kZ (ls.drop (i+1)) (if (lA ls i).kind=3 then acc++[(lA ls i).name] else acc):=by
 rw[pm h,kZ];simp[lA,List.getD,h]
def vC(l:List Bs):List Value:=l.map fun s=>Value.string ⟨s.toArray⟩
structure zIL(w:World)(a:Option Addr)(zK2:List Bs):Prop where
 blk:0<zK2.length->∃g,a=some ⟨g,0,none⟩/\∀i,i<zK2.length->w.cell? ⟨g,i,none⟩=some (.string ⟨(zK2.getD i []).toArray⟩)
 few:zK2.length<=10000
theorem YB(zK2:List Bs)(i:Nat)(h:i<zK2.length):(vC zK2)[i]? = some (.string ⟨(zK2.getD i []).toArray⟩):=by
 simp[vC,List.getD,h]
theorem CP{B:Nat}{v:Value}{zK2:List Bs}(h:w.ownsRow B 9 1 v zK2.length (vC zK2))(hf:zK2.length<=10000):∃a c,v=.slice a zK2.length c/\zIL w a zK2:=by
 rcases h.2 with ⟨h1,h2⟩|⟨g,cap,yM,h1,_,h3,_,_,_,h7⟩
 ·exact⟨none,0,by rw[h1,h2],⟨fun h0=>by omega,hf⟩⟩
 ·refine⟨some ⟨g,0,none⟩,cap,h1,⟨fun _=>⟨g,rfl,fun i hi=>xM h3 (n:=zK2.length*1) h7 (YB zK2 i hi)⟩,hf⟩⟩
theorem Xx(w:World)(a:Option Addr)(c:Nat)(zK2:List Bs)(nm:Bs)(h:zIL w a zK2) :
 Calls Tryz.prog 116 #[.slice a zK2.length c,.string ⟨nm.toArray⟩] w fun e w'=>e=.returned (.int .i64 (zI zK2 nm))/\w'=w:=by
 have HS:=zA h;have zKI:=h.few;clear h
 go_enter Tryz.func116,Tryz.ntmps116
 go_wp2_with fail
 go_loop [9] (fun iv=>∃(i:Nat),i<=zK2.length/\iv=.int .i64 i/\Hid (qI nm (zK2.drop i) i=zI zK2 nm)) (fun iv=>zK2.length-(intOf iv).toNat)
 case atStart=>exact⟨0,ty _,rfl,zA rfl⟩
 case round =>
  obtain⟨i,hi,rfl,HE⟩:=hrel;by_cases zK4:i<zK2.length
  ·obtain⟨g,rfl,zKU⟩:=HS.out.blk (by omega)
   have hc:=zKU i zK4;have hE:=HE.out;rw[aT nm zK2 i zK4]at hE;have HE2:=zA hE;clear HE hE zKU;generalize zK2.getD i []=s at *;by_cases k1:s=nm
   ·have HE3:Hid (zI zK2 nm=i):=by have:=HE2.out;rw[tm k1]at this;exact this.symm
    have b1:(s==nm)=true:=by simpa using k1
    clear HE2 k1;go_wp2_with fail
    go_ret
    exact⟨yQ HE3.out.symm,rfl⟩
   ·have HE3:Hid (qI nm (zK2.drop (i+1)) (i+1)=zI zK2 nm):=by have:=HE2.out;rw[tb k1]at this;exact this
    have b1:(s==nm)=false:=by simpa using k1
    clear HE2 k1;go_wp2_with fail
    go_round
    case rel=>exact⟨i+1,by omega,by go_num,HE3⟩
    case measure=>simp[intOf];omega
  ·have HE3:Hid (zI zK2 nm = -1):=by have:=HE.out;rw[pf (by omega)]at this;exact this.symm
   clear HE;go_wp2_with fail
   go_ret
   exact⟨yQ HE3.out.symm,rfl⟩
theorem sD:(Tryz.prog.info? 9).map (fun i=>(i.zero,i.size,i.bytes))=some (some (.string ⟨#[]⟩),1,16):=by kernel_rfl
theorem Qt(l:List Bs)(s:Bs):vC (l++[s])=vC l++[.string ⟨s.toArray⟩]:=by simp[vC]
theorem sV(w:World)(a:Option Addr)(c:Nat)(ls:List LX)(h:jU w a ls) :
 Calls Tryz.prog 80 #[.slice a ls.length c] w fun e w'=>∃v,e=.returned v/\w'.ownsRow w.heap.size 9 1 v (zO (fs ls)).length (vC (zO (fs ls)))/\(zO (fs ls)).length<=ls.length/\Below w.heap.size w w':=by
 obtain⟨i0,hi0,hz0,hz1,hz2⟩:=info_parts sD;have HL:=zA h;have zKI:=h.few;obtain⟨B,hB⟩:∃B,B=w.heap.size:=⟨_,rfl⟩;have HB0:=zA hB;clear h hB
 go_enter Tryz.func80,Tryz.ntmps80
 go_wp2_with fail
 go_loopw [3,9] (fun ov iv wr=>∃(i:Nat) (acc:List Bs),i<=ls.length/\acc.length<=i/\iv=.int .i64 i/\Hid (wr.ownsRow B 9 1 ov acc.length (vC acc))/\Hid (Below B w wr)/\Hid (uM ((fs ls).drop i) acc=zO (fs ls))) (fun _ iv _=>ls.length-(intOf iv).toNat)
 case atStart=>exact⟨0,[],ty _,j1 _,rfl,zA ⟨rfl,.inr ⟨w.heap.size,0,#[],rfl,by rw[HB0.out];exact j1 _,zG _ _,j1 _,ty _,rfl,rfl⟩⟩,zA (fj (by rw[HB0.out];exact j1 _) _),zA rfl⟩
 case round =>
  obtain⟨i,acc,hi,hacc,rfl,HO,HB,HE⟩:=hrel;by_cases zK4:i<ls.length
  ·obtain⟨gl,sa,sn,sc,na,nn,nc,rfl,hgl,⟨c0,c1,c2,c3,c4,c5,c6,c7,c8,c9,c10⟩,_,_⟩:=(HL.out.below HB.out (by rw[HB0.out];exact j1 _)).line zK4
   have hE:=HE.out;rw[V5 _ i _ (by simpa using zK4),jR]at hE;have HE2:=zA hE;have zKD:B<=wr.heap.size:=by have:=HB.out.size;have h2:=HB0.out;omega
   obtain⟨oa,oc,rfl,hstr⟩:=CP HO.out (by omega);have HF:=zA (fun w' (hb:Below wr.heap.size wr w') nm=>Xx w' oa oc acc nm ⟨fun h0=>let ⟨g,e,p⟩:=hstr.blk h0;⟨g,e,fun j hj=>by rw[hb.cell (p:=⟨g,j,none⟩) (by rcases mc g wr.heap.size with h1|h1;exact h1;have:=p j hj;rw[World.cell?,ma (by simpa using h1)]at this;cases this)];exact p j hj⟩,hstr.few⟩);clear HE hE hstr;generalize (pG ls i).1=x at *;obtain⟨kd,n1,lo,hi',cc,S,N,ro,te,de,lw⟩:=x;simp only at c0 c1 c2 c3 c4 c5 c6 c7 c8 c9 c10;by_cases k1:kd=3
   ·have b1:(kd==3)=true:=by simpa using k1
    by_cases k2:zI acc cc<0
    ·have HE3:Hid (uM ((fs ls).drop (i+1)) (acc++[cc])=zO (fs ls)):=by have:=HE2.out;rw[tm ⟨k1,k2⟩]at this;exact this
     clear HE2 k1;go_wp2_with fail
     refine(HF.out _ (fj (j1 _) _) cc).mono ?_;rintro e w1 ⟨rfl,hw⟩;obtain rfl:=hw.symm
     go_wp2_with (at_builtin;refine wpList_append_own _ rfl _ _ 70 rfl B 9 i0 _ 1 16 Tryz.underlying70 hi0 hz0 hz1 hz2 rfl (by decide) _ _ _ rfl ((HO.out.alloc _).alloc _) ⟨wr.heap.size+1,0,none⟩ 1 1 [.string ⟨cc.toArray⟩] rfl rfl ?c1 ?c2 ?c3 ?c4 ?c5 ?_)
     case c1=>exact World.news_of_block (heap_alloc2_new wr _ _)
     case c2=>intro u hu;simp at hu;subst hu;rfl
     case c3=>unfold maxLen;omega
     case c4=>omega
     case c5=>simp;omega
     intro v' w2 zKE zK7 _;have HB2:Hid (Below B w w2):=((HB.out.alloc zKD _).alloc (p7 zKD (ph (zY _ _))) _).grown zK7 (by simp;omega) (zV HO.out);have HO2:Hid (w2.ownsRow B 9 1 v' (acc++[cc]).length (vC (acc++[cc]))):=by unfold Hid;rw[Qt];simpa using zKE
     clear zK7 zKE;go_wp2_with fail
     go_roundw
     case rel=>exact⟨i+1,acc++[cc],by omega,by simp;omega,by go_num,HO2,HB2,HE3⟩
     case measure=>simp[intOf];omega
    ·have HE3:Hid (uM ((fs ls).drop (i+1)) acc=zO (fs ls)):=by have:=HE2.out;rw[tb (fun h=>k2 h.2)]at this;exact this
     have k3:decide (zI acc cc<0)=false:=tq k2;clear HE2 k1;go_wp2_with fail
     refine(HF.out _ (fj (j1 _) _) cc).mono ?_;rintro e w1 ⟨rfl,hw⟩;obtain rfl:=hw.symm;go_wp2_with fail
     go_roundw
     case rel=>exact⟨i+1,acc,by omega,by omega,by go_num,zA (HO.out.alloc _),zA (HB.out.alloc zKD _),HE3⟩
     case measure=>simp[intOf];omega
   ·have HE3:Hid (uM ((fs ls).drop (i+1)) acc=zO (fs ls)):=by have:=HE2.out;rw[tb (fun h=>k1 h.1)]at this;exact this
    have b1:(kd==3)=false:=by simpa using k1
    clear HE2 k1;go_wp2_with fail
    go_roundw
    case rel=>exact⟨i+1,acc,by omega,by omega,by go_num,zA (HO.out.alloc _),zA (HB.out.alloc zKD _),HE3⟩
    case measure=>simp[intOf];omega
  ·have HE3:Hid (acc=zO (fs ls)):=by have:=HE.out;rw[pf (by simp;omega)]at this;exact this
   clear HE;go_wp2_with fail
   go_ret
   exact⟨_,rfl,by rw[<-HE3.out,<-HB0.out];exact HO.out,by rw[<-HE3.out];omega,by rw[<-HB0.out];exact HB.out⟩
theorem Jy(w:World)(a:Option Addr)(c:Nat)(ls:List LX)(h:jU w a ls) :
 Calls Tryz.prog 81 #[.slice a ls.length c] w fun e w'=>∃v,e=.returned v/\w'.ownsRow w.heap.size 9 1 v (xW (fs ls)).length (vC (xW (fs ls)))/\(xW (fs ls)).length<=ls.length/\Below w.heap.size w w':=by
 obtain⟨i0,hi0,hz0,hz1,hz2⟩:=info_parts sD;have HL:=zA h;have zKI:=h.few;obtain⟨B,hB⟩:∃B,B=w.heap.size:=⟨_,rfl⟩;have HB0:=zA hB;clear h hB
 go_enter Tryz.func81,Tryz.ntmps81
 go_wp2_with fail
 go_loopw [3,9] (fun ov iv wr=>∃(i:Nat) (acc:List Bs),i<=ls.length/\acc.length<=i/\iv=.int .i64 i/\Hid (wr.ownsRow B 9 1 ov acc.length (vC acc))/\Hid (Below B w wr)/\Hid (kZ ((fs ls).drop i) acc=xW (fs ls))) (fun _ iv _=>ls.length-(intOf iv).toNat)
 case atStart=>exact⟨0,[],ty _,j1 _,rfl,zA ⟨rfl,.inr ⟨w.heap.size,0,#[],rfl,by rw[HB0.out];exact j1 _,zG _ _,j1 _,ty _,rfl,rfl⟩⟩,zA (fj (by rw[HB0.out];exact j1 _) _),zA rfl⟩
 case round =>
  obtain⟨i,acc,hi,hacc,rfl,HO,HB,HE⟩:=hrel;by_cases zK4:i<ls.length
  ·obtain⟨gl,sa,sn,sc,na,nn,nc,rfl,hgl,⟨c0,c1,c2,c3,c4,c5,c6,c7,c8,c9,c10⟩,_,_⟩:=(HL.out.below HB.out (by rw[HB0.out];exact j1 _)).line zK4
   have hE:=HE.out;rw[B4 _ i _ (by simpa using zK4),jR]at hE;have HE2:=zA hE;have zKD:B<=wr.heap.size:=by have:=HB.out.size;have h2:=HB0.out;omega
   clear HE hE;generalize (pG ls i).1=x at *;obtain⟨kd,n1,lo,hi',cc,S,N,ro,te,de,lw⟩:=x;simp only at c0 c1 c2 c3 c4 c5 c6 c7 c8 c9 c10;by_cases k1:kd=3
   ·have b1:(kd==3)=true:=by simpa using k1
    have HE3:Hid (kZ ((fs ls).drop (i+1)) (acc++[n1])=xW (fs ls)):=by have:=HE2.out;rw[tm k1]at this;exact this
    clear HE2 k1
    go_wp2_with (at_builtin;refine wpList_append_own _ rfl _ _ 70 rfl B 9 i0 _ 1 16 Tryz.underlying70 hi0 hz0 hz1 hz2 rfl (by decide) _ _ _ rfl ((HO.out.alloc _).alloc _) ⟨wr.heap.size+1,0,none⟩ 1 1 [.string ⟨n1.toArray⟩] rfl rfl ?c1 ?c2 ?c3 ?c4 ?c5 ?_)
    case c1=>exact World.news_of_block (heap_alloc2_new wr _ _)
    case c2=>intro u hu;simp at hu;subst hu;rfl
    case c3=>unfold maxLen;omega
    case c4=>omega
    case c5=>simp;omega
    intro v' w2 zKE zK7 _;have HB2:Hid (Below B w w2):=((HB.out.alloc zKD _).alloc (p7 zKD (ph (zY _ _))) _).grown zK7 (by simp;omega) (zV HO.out);have HO2:Hid (w2.ownsRow B 9 1 v' (acc++[n1]).length (vC (acc++[n1]))):=by unfold Hid;rw[Qt];simpa using zKE
    clear zK7 zKE;go_wp2_with fail
    go_roundw
    case rel=>exact⟨i+1,acc++[n1],by omega,by simp;omega,by go_num,HO2,HB2,HE3⟩
    case measure=>simp[intOf];omega
   ·have HE3:Hid (kZ ((fs ls).drop (i+1)) acc=xW (fs ls)):=by have:=HE2.out;rw[tb k1]at this;exact this
    have b1:(kd==3)=false:=by simpa using k1
    clear HE2 k1;go_wp2_with fail
    go_roundw
    case rel=>exact⟨i+1,acc,by omega,by omega,by go_num,zA (HO.out.alloc _),zA (HB.out.alloc zKD _),HE3⟩
    case measure=>simp[intOf];omega
  ·have HE3:Hid (acc=xW (fs ls)):=by have:=HE.out;rw[pf (by simp;omega)]at this;exact this
   clear HE;go_wp2_with fail
   go_ret
   exact⟨_,rfl,by rw[<-HE3.out,<-HB0.out];exact HO.out,by rw[<-HE3.out];omega,by rw[<-HB0.out];exact HB.out⟩
end Go.Proofs.YtnbpdffdnphbeabGreatDoor
