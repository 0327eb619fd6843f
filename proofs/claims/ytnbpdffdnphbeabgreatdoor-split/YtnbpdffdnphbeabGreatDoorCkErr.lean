import Derived.Test.YtnbpdffdnphbeabGreatDoorCkLines
set_option maxHeartbeats 2000000
namespace Go.Proofs.YtnbpdffdnphbeabGreatDoor
open Go.RowKit
variable{ls:List LX}{a:Option Addr}{w:World}
def zBZ(f:FuncId)(args:Array Value)(w:World)(v:Value):Prop:=∀w',Below w.heap.size w w'->Calls Tryz.prog f args w' fun e w''=>e=.returned v/\Below w'.heap.size w' w''
theorem zBZ.at{f:FuncId}{args:Array Value}{v:Value}(h:zBZ f args w v){w':World}(hb:Below w.heap.size w w'):zBZ f args w' v:=fun w'' h2=>h w'' (hb.trans (h2.mono hb.size))
theorem gF(h:jS w a ls)(c:Nat)(k:Int)(nm:Bs):zBZ 153 #[.slice a ls.length c,.int .i64 k,.string ⟨nm.toArray⟩] w (.bool (uR (fs ls) k nm)) :=
 fun w' hb=>Gy w' a c ls k nm (h.below hb (j1 _))
theorem Zo(h:jS w a ls)(c:Nat)(k:Int)(nm:Bs)(i:Nat)(hi:i<ls.length):zBZ 153 #[.slice a i c,.int .i64 k,.string ⟨nm.toArray⟩] w (.bool (uR ((fs ls).take i) k nm)):=by
 have:=gF (h.take i) c k nm;rw[cd,Nat.min_eq_left (by omega),show fs (ls.take i)=(fs ls).take i from List.map_take ..]at this;exact this
theorem JO(h:jS w a ls)(c:Nat)(nm:Bs):zBZ 154 #[.slice a ls.length c,.string ⟨nm.toArray⟩] w (.bool (tP (fs ls) nm)) :=
 fun w' hb=>Xs w' a c ls nm (h.below hb (j1 _))
theorem X9(h:jS w a ls)(c:Nat)(nm:Bs):zBZ 157 #[.slice a ls.length c,.string ⟨nm.toArray⟩] w (.int .i64 (uK (fs ls) nm)) :=
 fun w' hb=>Cm w' a c ls nm (h.below hb (j1 _))
theorem V3(w:World)(a:Option Addr)(n c:Nat)(nm:Bs)(p q:Bool)(h1:zBZ 153 #[.slice a n c,.int .i64 1,.string ⟨nm.toArray⟩] w (.bool p))(h2:zBZ 154 #[.slice a n c,.string ⟨nm.toArray⟩] w (.bool q)) :
 Calls Tryz.prog 155 #[.slice a n c,.string ⟨nm.toArray⟩] w fun e w'=>e=.returned (.bool (p || q))/\Below w.heap.size w w':=by
 have H1:=zA h1;have H2:=zA h2;clear h1 h2;cases p
 ·go_enter Tryz.func155,Tryz.ntmps155
  go_wp2_with fail
  refine(H1.out _ (tg _ _)).mono ?_;rintro e w1 ⟨rfl,hb1⟩;have HB1:=zA hb1;clear hb1;go_wp2_with fail
  refine(H2.out _ HB1.out).mono ?_;rintro e w2 ⟨rfl,hb2⟩;have HB2:Hid (Below w.heap.size w w2):=HB1.out.trans (hb2.mono HB1.out.size);clear hb2;go_wp2_with fail
  go_ret
  exact⟨rfl,HB2.out⟩
 ·go_enter Tryz.func155,Tryz.ntmps155
  go_wp2_with fail
  refine(H1.out _ (tg _ _)).mono ?_;rintro e w1 ⟨rfl,hb1⟩;have HB1:=zA hb1;clear hb1;go_wp2_with fail
  go_ret
  exact⟨rfl,HB1.out⟩
theorem V4(h:jS w a ls)(c:Nat)(nm:Bs):zBZ 155 #[.slice a ls.length c,.string ⟨nm.toArray⟩] w (.bool (Q6 (fs ls) nm)) :=
 fun w' hb=>V3 w' a ls.length c nm _ _ ((gF h c 1 nm).at hb) ((JO h c nm).at hb)
theorem vZ{w1:World}{o:Obj}(h:Below (w.alloc o).heap.size (w.alloc o) w1):Below w.heap.size w w1:=(gb (j1 _) o).trans (h.mono (ph (zV _ _)))
theorem bS{w1:World}{cs:Array Value}{T:TypeId}{fz:Nat × Nat}(h:Below (w.alloc (.cells cs T fz)).heap.size (w.alloc (.cells cs T fz)) w1)(j:Nat):w1.cell? ⟨w.heap.size,j,none⟩=cs[j]? := by
 have h1:w1.heap[w.heap.size]? = some (.cells cs T fz):=by rw[h.block _ (zV _ _)];exact zG _ _
 simp only[World.cell?,h1];rfl
theorem Qn(w:World)(a:Option Addr)(c:Nat)(ls:List LX)(x:zT)(h:jS w a ls) :
 Calls Tryz.prog 156 #[.slice a ls.length c,kO x] w fun e w'=>e=.returned (.bool (vF (fs ls) x))/\Below w.heap.size w w':=by
 obtain⟨kd,le,ri,nm,mk,ot,nu⟩:=x;have HC:=zA (JO h c nm);have HF:=zA (gF h c 2 nm);have HN:=zA (gF h c 1 nm);have HO:=zA (gF h c 1 ot);have zLE:=h.few;clear h;unfold kO;by_cases k5:kd=5
 ·have HR:Hid (vF (fs ls) ⟨kd,le,ri,nm,mk,ot,nu⟩=tP (fs ls) nm):=by unfold Hid vF;rw[tl k5]
  have b5:(kd==5)=true:=by simpa using k5
  clear k5 HF HN HO
  go_enter Tryz.func156,Tryz.ntmps156
  go_wp2_with fail
  refine(HC.out _ (gb (j1 _) _)).mono ?_;rintro e w1 ⟨rfl,hb1⟩;have HB1:Hid (Below w.heap.size w w1):=vZ hb1;clear hb1;go_wp2_with fail
  go_ret
  exact⟨zF HR.out.symm,HB1.out⟩
 have b5:(kd==5)=false:=by simpa using k5
 by_cases k6:kd=6
 ·have HR:Hid (vF (fs ls) ⟨kd,le,ri,nm,mk,ot,nu⟩=uR (fs ls) 2 nm):=by unfold Hid vF;rw[tb k5,tl k6]
  have b6:(kd==6)=true:=by simpa using k6
  clear k5 k6 HC HN HO
  go_enter Tryz.func156,Tryz.ntmps156
  go_wp2_with fail
  refine(HF.out _ (gb (j1 _) _)).mono ?_;rintro e w1 ⟨rfl,hb1⟩;have HB1:Hid (Below w.heap.size w w1):=vZ hb1;clear hb1;go_wp2_with fail
  go_ret
  exact⟨zF HR.out.symm,HB1.out⟩
 have b6:(kd==6)=false:=by simpa using k6
 by_cases k7:kd=7
 ·have HR:Hid (vF (fs ls) ⟨kd,le,ri,nm,mk,ot,nu⟩=((decide (ot=[]) || uR (fs ls) 1 ot)&&uR (fs ls) 1 nm)):=by unfold Hid vF;rw[tb k5,tb k6,tl k7]
  have b7:(kd==7)=true:=by simpa using k7
  clear k5 k6 HC HF;generalize uR (fs ls) 1 ot=p at *;generalize uR (fs ls) 1 nm=q at *;by_cases ko:ot=[]
  ·have HR2:Hid (vF (fs ls) ⟨kd,le,ri,nm,mk,ot,nu⟩=q):=by unfold Hid;rw[HR.out,tu ko];rfl
   have bo:(ot==[])=true:=by simpa using ko
   clear HR ko k7
   go_enter Tryz.func156,Tryz.ntmps156
   go_wp2_with fail
   refine(HN.out _ (gb (j1 _) _)).mono ?_;rintro e w1 ⟨rfl,hb1⟩;have HB1:Hid (Below w.heap.size w w1):=vZ hb1;clear hb1;go_wp2_with fail
   go_ret
   exact⟨zF HR2.out.symm,HB1.out⟩
  ·have HR2:Hid (vF (fs ls) ⟨kd,le,ri,nm,mk,ot,nu⟩=(p&&q)):=by unfold Hid;rw[HR.out,ty ko];rfl
   have bo:(ot==[])=false:=by simpa using ko
   clear HR ko k7;cases p
   ·go_enter Tryz.func156,Tryz.ntmps156
    go_wp2_with fail
    refine(HO.out _ (gb (j1 _) _)).mono ?_;rintro e w1 ⟨rfl,hb1⟩;have HB1:Hid (Below w.heap.size w w1):=vZ hb1;clear hb1;go_wp2_with fail
    go_ret
    exact⟨zF HR2.out.symm,HB1.out⟩
   ·go_enter Tryz.func156,Tryz.ntmps156
    go_wp2_with fail
    refine(HO.out _ (gb (j1 _) _)).mono ?_;rintro e w1 ⟨rfl,hb1⟩;have HB1:Hid (Below w.heap.size w w1):=vZ hb1;have q1:=bS hb1;clear hb1;go_wp2_with fail
    refine(HN.out _ HB1.out).mono ?_;rintro e w2 ⟨rfl,hb2⟩;have HB2:Hid (Below w.heap.size w w2):=HB1.out.trans (hb2.mono HB1.out.size);clear hb2;go_wp2_with fail
    go_ret
    exact⟨zF HR2.out.symm,HB2.out⟩
 ·have HR:Hid (vF (fs ls) ⟨kd,le,ri,nm,mk,ot,nu⟩=true):=by unfold Hid vF;rw[tb k5,tb k6,tb k7]
  have b7:(kd==7)=false:=by simpa using k7
  clear k5 k6 k7 HC HF HN HO
  go_enter Tryz.func156,Tryz.ntmps156
  go_wp2_with fail
  go_ret
  exact⟨zF HR.out.symm,gb (j1 _) _⟩
theorem Qo(h:jS w a ls)(c:Nat)(x:zT):zBZ 156 #[.slice a ls.length c,kO x] w (.bool (vF (fs ls) x)) :=
 fun w' hb=>Qn w' a c ls x (h.below hb (j1 _))
theorem iU(w:World)(a:Option Addr)(c:Nat)(ls:List LX)(i:Nat)(hi:i<ls.length)(hc:ls.length<=c)(h:jS w a ls) :
 Calls Tryz.prog 113 #[.slice a ls.length c,.int .i64 i] w fun e w'=>e=.returned (.int .i64 (fY (fs ls) i))/\Below w.heap.size w w':=by
 have zLE:=h.few;have HR:Hid (fY (fs ls) i=if uR ((fs ls).take i) 1 (pG ls i).1.name || (uR ((fs ls).take i) 2 (pG ls i).1.name || tP (fs ls) (pG ls i).1.name) then 4 else 0):=by unfold Hid fY;rw[jO]
 have H1:=zA (Zo h c 1 (pG ls i).1.name i hi);have H2:=zA (Zo h c 2 (pG ls i).1.name i hi);have H3:=zA (JO h c (pG ls i).1.name);obtain⟨gl,sa,sn,sc,na,nn,nc,rfl,hgl,⟨c0,c1,c2,c3,c4,c5,c6,c7,c8,c9,c10⟩,_,_⟩:=h.line hi;clear h c0 c2 c3 c4 c5 c6 c7 c8 c9 c10;generalize (pG ls i).1.name=nm at *;generalize uR ((fs ls).take i) 1 nm=p at *;generalize uR ((fs ls).take i) 2 nm=q at *;generalize tP (fs ls) nm=r at *;cases p
 ·cases q
  ·go_enter Tryz.func113,Tryz.ntmps113
   go_wp2_with fail
   refine(H1.out _ (tg _ _)).mono ?_;rintro e w1 ⟨rfl,hb1⟩;have HB1:=zA hb1;clear hb1;go_wp2_with fail
   refine(H2.out _ HB1.out).mono ?_;rintro e w2 ⟨rfl,hb2⟩;have HB2:Hid (Below w.heap.size w w2):=HB1.out.trans (hb2.mono HB1.out.size);clear hb2;go_wp2_with fail
   refine(H3.out _ HB2.out).mono ?_;rintro e w3 ⟨rfl,hb3⟩;have HB3:Hid (Below w.heap.size w w3):=HB2.out.trans (hb3.mono HB2.out.size);clear hb3;cases r
   ·go_wp2_with fail
    go_ret
    exact⟨yP HR.out.symm,HB3.out⟩
   ·go_wp2_with fail
    go_ret
    exact⟨yP HR.out.symm,HB3.out⟩
  ·go_enter Tryz.func113,Tryz.ntmps113
   go_wp2_with fail
   refine(H1.out _ (tg _ _)).mono ?_;rintro e w1 ⟨rfl,hb1⟩;have HB1:=zA hb1;clear hb1;go_wp2_with fail
   refine(H2.out _ HB1.out).mono ?_;rintro e w2 ⟨rfl,hb2⟩;have HB2:Hid (Below w.heap.size w w2):=HB1.out.trans (hb2.mono HB1.out.size);clear hb2;go_wp2_with fail
   go_ret
   exact⟨yP HR.out.symm,HB2.out⟩
 ·go_enter Tryz.func113,Tryz.ntmps113
  go_wp2_with fail
  refine(H1.out _ (tg _ _)).mono ?_;rintro e w1 ⟨rfl,hb1⟩;have HB1:=zA hb1;clear hb1;go_wp2_with fail
  go_ret
  exact⟨yP HR.out.symm,HB1.out⟩
def qK(nm:Bs):List Bs->Nat->Int
 | [],_ => -1
 | x::r,i=>if x=nm then (i:Int) else qK nm r (i+1)
def zH(zKX:List Bs)(nm:Bs):Int:=qK nm zKX 0
def uM:List zE->List Bs->List Bs
 | [],acc=>acc
 | x::r,acc=>uM r (if x.kind=3/\zH acc x.conc<0 then acc++[x.conc] else acc)
def zO(ls:List zE):List Bs:=uM ls []
def kY:List zE->List Bs->List Bs
 | [],acc=>acc
 | x::r,acc=>kY r (if x.kind=3 then acc++[x.name] else acc)
def vD(ls:List zE):List Bs:=kY ls []
theorem oY(nm:Bs)(l:List Bs):∀i:Nat,-1<=qK nm l i/\qK nm l i<(i:Int)+l.length:=by
 induction l with
 | nil=>intro i;simp[qK];omega
 | cons x r ih=>intro i;rw[qK];split
                ·simp;omega
                ·have:=ih (i+1);simp only[pf];omega
theorem aZ(nm:Bs)(l:List Bs)(i:Nat)(h:i<l.length):qK nm (l.drop i) i=if l.getD i []=nm then (i:Int) else qK nm (l.drop (i+1)) (i+1):=by
 rw[po h,qK];simp[List.getD,h]
theorem VC(ls:List zE)(i:Nat)(acc:List Bs)(h:i<ls.length):uM (ls.drop i) acc=uM (ls.drop (i+1)) (if (lA ls i).kind=3/\zH acc (lA ls i).conc<0 then acc++[(lA ls i).conc] else acc):=by
 rw[po h,uM];simp[lA,List.getD,h]
theorem BM(ls:List zE)(i:Nat)(acc:List Bs)(h:i<ls.length):kY (ls.drop i) acc=kY (ls.drop (i+1)) (if (lA ls i).kind=3 then acc++[(lA ls i).name] else acc):=by
 rw[po h,kY];simp[lA,List.getD,h]
def vE(l:List Bs):List Value:=l.map fun s=>Value.string ⟨s.toArray⟩
structure zJE(w:World)(a:Option Addr)(zKX:List Bs):Prop where
 blk:0<zKX.length->∃g,a=some ⟨g,0,none⟩/\∀i,i<zKX.length->w.cell? ⟨g,i,none⟩=some (.string ⟨(zKX.getD i []).toArray⟩)
 few:zKX.length<=10000
theorem YJ(zKX:List Bs)(i:Nat)(h:i<zKX.length):(vE zKX)[i]? = some (.string ⟨(zKX.getD i []).toArray⟩):=by
 simp[vE,List.getD,h]
theorem Di{B:Nat}{v:Value}{zKX:List Bs}(h:w.ownsRow B 9 1 v zKX.length (vE zKX))(hf:zKX.length<=10000):∃a c,v=.slice a zKX.length c/\zJE w a zKX:=by
 rcases h.2 with ⟨h1,h2⟩|⟨g,cap,yK,h1,_,h3,_,_,_,h7⟩
 ·exact⟨none,0,by rw[h1,h2],⟨fun h0=>by omega,hf⟩⟩
 ·refine⟨some ⟨g,0,none⟩,cap,h1,⟨fun _=>⟨g,rfl,fun i hi=>xO h3 (n:=zKX.length*1) h7 (YJ zKX i hi)⟩,hf⟩⟩
theorem X7(w:World)(a:Option Addr)(c:Nat)(zKX:List Bs)(nm:Bs)(h:zJE w a zKX) :
 Calls Tryz.prog 116 #[.slice a zKX.length c,.string ⟨nm.toArray⟩] w fun e w'=>e=.returned (.int .i64 (zH zKX nm))/\w'=w:=by
 have HS:=zA h;have zLE:=h.few;clear h
 go_enter Tryz.func116,Tryz.ntmps116
 go_wp2_with fail
 go_loop [9] (fun iv=>∃(i:Nat),i<=zKX.length/\iv=.int .i64 i/\Hid (qK nm (zKX.drop i) i=zH zKX nm)) (fun iv=>zKX.length-(intOf iv).toNat)
 case atStart=>exact⟨0,p7 _,rfl,zA rfl⟩
 case round =>
  obtain⟨i,hi,rfl,HE⟩:=hrel;by_cases zKZ:i<zKX.length
  ·obtain⟨g,rfl,zLN⟩:=HS.out.blk (by omega)
   have hc:=zLN i zKZ;have hE:=HE.out;rw[aZ nm zKX i zKZ]at hE;have HE2:=zA hE;clear HE hE zLN;generalize zKX.getD i []=s at *;by_cases k1:s=nm
   ·have HE3:Hid (zH zKX nm=i):=by have:=HE2.out;rw[tl k1]at this;exact this.symm
    have b1:(s==nm)=true:=by simpa using k1
    clear HE2 k1;go_wp2_with fail
    go_ret
    exact⟨yP HE3.out.symm,rfl⟩
   ·have HE3:Hid (qK nm (zKX.drop (i+1)) (i+1)=zH zKX nm):=by have:=HE2.out;rw[tb k1]at this;exact this
    have b1:(s==nm)=false:=by simpa using k1
    clear HE2 k1;go_wp2_with fail
    go_round
    case rel=>exact⟨i+1,by omega,by go_num,HE3⟩
    case measure=>simp[intOf];omega
  ·have HE3:Hid (zH zKX nm = -1):=by have:=HE.out;rw[pm (by omega)]at this;exact this.symm
   clear HE;go_wp2_with fail
   go_ret
   exact⟨yP HE3.out.symm,rfl⟩
theorem sI:(Tryz.prog.info? 9).map (fun i=>(i.zero,i.size,i.bytes))=some (some (.string ⟨#[]⟩),1,16):=by kernel_rfl
theorem Q7(l:List Bs)(s:Bs):vE (l++[s])=vE l++[.string ⟨s.toArray⟩]:=by simp[vE]
theorem aE(w:World)(a:Option Addr)(c:Nat)(ls:List LX)(h:jS w a ls) :
 Calls Tryz.prog 80 #[.slice a ls.length c] w fun e w'=>∃v,e=.returned v/\w'.ownsRow w.heap.size 9 1 v (zO (fs ls)).length (vE (zO (fs ls)))/\(zO (fs ls)).length<=ls.length/\Below w.heap.size w w':=by
 obtain⟨i0,hi0,hz0,hz1,hz2⟩:=info_parts sI;have HL:=zA h;have zLE:=h.few;obtain⟨B,hB⟩:∃B,B=w.heap.size:=⟨_,rfl⟩;have HB0:=zA hB;clear h hB
 go_enter Tryz.func80,Tryz.ntmps80
 go_wp2_with fail
 go_loopw [3,9] (fun ov iv wr=>∃(i:Nat) (acc:List Bs),i<=ls.length/\acc.length<=i/\iv=.int .i64 i/\Hid (wr.ownsRow B 9 1 ov acc.length (vE acc))/\Hid (Below B w wr)/\Hid (uM ((fs ls).drop i) acc=zO (fs ls))) (fun _ iv _=>ls.length-(intOf iv).toNat)
 case atStart=>exact⟨0,[],p7 _,j1 _,rfl,zA ⟨rfl,.inr ⟨w.heap.size,0,#[],rfl,by rw[HB0.out];exact j1 _,zG _ _,j1 _,p7 _,rfl,rfl⟩⟩,zA (gb (by rw[HB0.out];exact j1 _) _),zA rfl⟩
 case round =>
  obtain⟨i,acc,hi,hacc,rfl,HO,HB,HE⟩:=hrel;by_cases zKZ:i<ls.length
  ·obtain⟨gl,sa,sn,sc,na,nn,nc,rfl,hgl,⟨c0,c1,c2,c3,c4,c5,c6,c7,c8,c9,c10⟩,_,_⟩:=(HL.out.below HB.out (by rw[HB0.out];exact j1 _)).line zKZ
   have hE:=HE.out;rw[VC _ i _ (by simpa using zKZ),jO]at hE;have HE2:=zA hE;have zL8:B<=wr.heap.size:=by have:=HB.out.size;have h2:=HB0.out;omega
   obtain⟨oa,oc,rfl,hstr⟩:=Di HO.out (by omega);have HF:=zA (fun w' (hb:Below wr.heap.size wr w') nm=>X7 w' oa oc acc nm ⟨fun h0=>let ⟨g,e,p⟩:=hstr.blk h0;⟨g,e,fun j hj=>by rw[hb.cell (p:=⟨g,j,none⟩) (by rcases md g wr.heap.size with h1|h1;exact h1;have:=p j hj;rw[World.cell?,mc (by simpa using h1)]at this;cases this)];exact p j hj⟩,hstr.few⟩);clear HE hE hstr;generalize (pG ls i).1=x at *;obtain⟨kd,n1,lo,hi',cc,S,N,ro,te,de,lw⟩:=x;simp only at c0 c1 c2 c3 c4 c5 c6 c7 c8 c9 c10;by_cases k1:kd=3
   ·have b1:(kd==3)=true:=by simpa using k1
    by_cases k2:zH acc cc<0
    ·have HE3:Hid (uM ((fs ls).drop (i+1)) (acc++[cc])=zO (fs ls)):=by have:=HE2.out;rw[tl ⟨k1,k2⟩]at this;exact this
     clear HE2 k1;go_wp2_with fail
     refine(HF.out _ (gb (j1 _) _) cc).mono ?_;rintro e w1 ⟨rfl,hw⟩;obtain rfl:=hw.symm
     go_wp2_with (at_builtin;refine wpList_append_own _ rfl _ _ 70 rfl B 9 i0 _ 1 16 Tryz.underlying70 hi0 hz0 hz1 hz2 rfl (by decide) _ _ _ rfl ((HO.out.alloc _).alloc _) ⟨wr.heap.size+1,0,none⟩ 1 1 [.string ⟨cc.toArray⟩] rfl rfl ?c1 ?c2 ?c3 ?c4 ?c5 ?_)
     case c1=>exact World.news_of_block (heap_alloc2_new wr _ _)
     case c2=>intro u hu;simp at hu;subst hu;rfl
     case c3=>unfold maxLen;omega
     case c4=>omega
     case c5=>simp;omega
     intro v' w2 zL5 zL2 _;have HB2:Hid (Below B w w2):=((HB.out.alloc zL8 _).alloc (p8 zL8 (ph (zV _ _))) _).grown zL2 (by simp;omega) (zU HO.out);have HO2:Hid (w2.ownsRow B 9 1 v' (acc++[cc]).length (vE (acc++[cc]))):=by unfold Hid;rw[Q7];simpa using zL5
     clear zL2 zL5;go_wp2_with fail
     go_roundw
     case rel=>exact⟨i+1,acc++[cc],by omega,by simp;omega,by go_num,HO2,HB2,HE3⟩
     case measure=>simp[intOf];omega
    ·have HE3:Hid (uM ((fs ls).drop (i+1)) acc=zO (fs ls)):=by have:=HE2.out;rw[tb (fun h=>k2 h.2)]at this;exact this
     have k3:decide (zH acc cc<0)=false:=ty k2;clear HE2 k1;go_wp2_with fail
     refine(HF.out _ (gb (j1 _) _) cc).mono ?_;rintro e w1 ⟨rfl,hw⟩;obtain rfl:=hw.symm;go_wp2_with fail
     go_roundw
     case rel=>exact⟨i+1,acc,by omega,by omega,by go_num,zA (HO.out.alloc _),zA (HB.out.alloc zL8 _),HE3⟩
     case measure=>simp[intOf];omega
   ·have HE3:Hid (uM ((fs ls).drop (i+1)) acc=zO (fs ls)):=by have:=HE2.out;rw[tb (fun h=>k1 h.1)]at this;exact this
    have b1:(kd==3)=false:=by simpa using k1
    clear HE2 k1;go_wp2_with fail
    go_roundw
    case rel=>exact⟨i+1,acc,by omega,by omega,by go_num,zA (HO.out.alloc _),zA (HB.out.alloc zL8 _),HE3⟩
    case measure=>simp[intOf];omega
  ·have HE3:Hid (acc=zO (fs ls)):=by have:=HE.out;rw[pm (by simp;omega)]at this;exact this
   clear HE;go_wp2_with fail
   go_ret
   exact⟨_,rfl,by rw[<-HE3.out,<-HB0.out];exact HO.out,by rw[<-HE3.out];omega,by rw[<-HB0.out];exact HB.out⟩
theorem J6(w:World)(a:Option Addr)(c:Nat)(ls:List LX)(h:jS w a ls) :
 Calls Tryz.prog 81 #[.slice a ls.length c] w fun e w'=>∃v,e=.returned v/\w'.ownsRow w.heap.size 9 1 v (vD (fs ls)).length (vE (vD (fs ls)))/\(vD (fs ls)).length<=ls.length/\Below w.heap.size w w':=by
 obtain⟨i0,hi0,hz0,hz1,hz2⟩:=info_parts sI;have HL:=zA h;have zLE:=h.few;obtain⟨B,hB⟩:∃B,B=w.heap.size:=⟨_,rfl⟩;have HB0:=zA hB;clear h hB
 go_enter Tryz.func81,Tryz.ntmps81
 go_wp2_with fail
 go_loopw [3,9] (fun ov iv wr=>∃(i:Nat) (acc:List Bs),i<=ls.length/\acc.length<=i/\iv=.int .i64 i/\Hid (wr.ownsRow B 9 1 ov acc.length (vE acc))/\Hid (Below B w wr)/\Hid (kY ((fs ls).drop i) acc=vD (fs ls))) (fun _ iv _=>ls.length-(intOf iv).toNat)
 case atStart=>exact⟨0,[],p7 _,j1 _,rfl,zA ⟨rfl,.inr ⟨w.heap.size,0,#[],rfl,by rw[HB0.out];exact j1 _,zG _ _,j1 _,p7 _,rfl,rfl⟩⟩,zA (gb (by rw[HB0.out];exact j1 _) _),zA rfl⟩
 case round =>
  obtain⟨i,acc,hi,hacc,rfl,HO,HB,HE⟩:=hrel;by_cases zKZ:i<ls.length
  ·obtain⟨gl,sa,sn,sc,na,nn,nc,rfl,hgl,⟨c0,c1,c2,c3,c4,c5,c6,c7,c8,c9,c10⟩,_,_⟩:=(HL.out.below HB.out (by rw[HB0.out];exact j1 _)).line zKZ
   have hE:=HE.out;rw[BM _ i _ (by simpa using zKZ),jO]at hE;have HE2:=zA hE;have zL8:B<=wr.heap.size:=by have:=HB.out.size;have h2:=HB0.out;omega
   clear HE hE;generalize (pG ls i).1=x at *;obtain⟨kd,n1,lo,hi',cc,S,N,ro,te,de,lw⟩:=x;simp only at c0 c1 c2 c3 c4 c5 c6 c7 c8 c9 c10;by_cases k1:kd=3
   ·have b1:(kd==3)=true:=by simpa using k1
    have HE3:Hid (kY ((fs ls).drop (i+1)) (acc++[n1])=vD (fs ls)):=by have:=HE2.out;rw[tl k1]at this;exact this
    clear HE2 k1
    go_wp2_with (at_builtin;refine wpList_append_own _ rfl _ _ 70 rfl B 9 i0 _ 1 16 Tryz.underlying70 hi0 hz0 hz1 hz2 rfl (by decide) _ _ _ rfl ((HO.out.alloc _).alloc _) ⟨wr.heap.size+1,0,none⟩ 1 1 [.string ⟨n1.toArray⟩] rfl rfl ?c1 ?c2 ?c3 ?c4 ?c5 ?_)
    case c1=>exact World.news_of_block (heap_alloc2_new wr _ _)
    case c2=>intro u hu;simp at hu;subst hu;rfl
    case c3=>unfold maxLen;omega
    case c4=>omega
    case c5=>simp;omega
    intro v' w2 zL5 zL2 _;have HB2:Hid (Below B w w2):=((HB.out.alloc zL8 _).alloc (p8 zL8 (ph (zV _ _))) _).grown zL2 (by simp;omega) (zU HO.out);have HO2:Hid (w2.ownsRow B 9 1 v' (acc++[n1]).length (vE (acc++[n1]))):=by unfold Hid;rw[Q7];simpa using zL5
    clear zL2 zL5;go_wp2_with fail
    go_roundw
    case rel=>exact⟨i+1,acc++[n1],by omega,by simp;omega,by go_num,HO2,HB2,HE3⟩
    case measure=>simp[intOf];omega
   ·have HE3:Hid (kY ((fs ls).drop (i+1)) acc=vD (fs ls)):=by have:=HE2.out;rw[tb k1]at this;exact this
    have b1:(kd==3)=false:=by simpa using k1
    clear HE2 k1;go_wp2_with fail
    go_roundw
    case rel=>exact⟨i+1,acc,by omega,by omega,by go_num,zA (HO.out.alloc _),zA (HB.out.alloc zL8 _),HE3⟩
    case measure=>simp[intOf];omega
  ·have HE3:Hid (acc=vD (fs ls)):=by have:=HE.out;rw[pm (by simp;omega)]at this;exact this
   clear HE;go_wp2_with fail
   go_ret
   exact⟨_,rfl,by rw[<-HE3.out,<-HB0.out];exact HO.out,by rw[<-HE3.out];omega,by rw[<-HB0.out];exact HB.out⟩
end Go.Proofs.YtnbpdffdnphbeabGreatDoor
