import Derived.Test.YtnbpdffdnphbeaaGreatDoorCkLines
set_option maxHeartbeats 2000000
namespace Go.Proofs.YtnbpdffdnphbeaaGreatDoor
open Go.RowKit
variable{ls:List LX}{a:Option Addr}{w:World}(nm:Bs)(l:List Bs)
def zBG(f:FuncId)(args:Array Value)(w:World)(v:Value):Prop:=∀w',Below w.heap.size w w'->Calls Tryz.prog f args w' fun e w''=>e=.returned v/\Below w'.heap.size w' w''
theorem zBG.at{f:FuncId}{args:Array Value}{v:Value}(h:zBG f args w v){w':World}(hb:Below w.heap.size w w'):zBG f args w' v:=fun w'' h2=>h w'' (hb.trans (h2.mono hb.size))
theorem nJ(h:pG w a ls)(c:Nat)(k:Int)(nm:Bs):zBG 219 #[.slice a ls.length c,.int .i64 k,.string ⟨nm.toArray⟩] w (.bool (vR (fs ls) k nm)) :=
 fun w' hb=>GM w' a c ls k nm (h.below hb (t9 _))
theorem ZO(h:pG w a ls)(c:Nat)(k:Int)(nm:Bs)(i:Nat)(hi:i<ls.length):zBG 219 #[.slice a i c,.int .i64 k,.string ⟨nm.toArray⟩] w (.bool (vR ((fs ls).take i) k nm)):=by
 have:=nJ (h.take i) c k nm;rw[p9,da (by omega),show fs (ls.take i)=(fs ls).take i from List.map_take ..]at this;exact this
theorem K5(h:pG w a ls)(c:Nat)(nm:Bs):zBG 220 #[.slice a ls.length c,.string ⟨nm.toArray⟩] w (.bool (jZ (fs ls) nm)) :=
 fun w' hb=>XU w' a c ls nm (h.below hb (t9 _))
theorem Qi(h:pG w a ls)(c:Nat)(nm:Bs):zBG 223 #[.slice a ls.length c,.string ⟨nm.toArray⟩] w (.int .i64 (qO (fs ls) nm)) :=
 fun w' hb=>CT w' a c ls nm (h.below hb (t9 _))
theorem VX(w:World)(a:Option Addr)(n c:Nat)(nm:Bs)(p q:Bool)(h1:zBG 219 #[.slice a n c,.int .i64 1,.string ⟨nm.toArray⟩] w (.bool p))(h2:zBG 220 #[.slice a n c,.string ⟨nm.toArray⟩] w (.bool q)) :
 Calls Tryz.prog 221 #[.slice a n c,.string ⟨nm.toArray⟩] w fun e w'=>e=.returned (.bool (p || q))/\Below w.heap.size w w':=by
 have H1:=zA h1;have H2:=zA h2;clear h1 h2;cases p
 ·go_enter Tryz.func221,Tryz.ntmps221
  go_wp2_with fail
  refine(H1.out _ (tj _ _)).mono ?_;rintro e w1 ⟨rfl,hb1⟩;have HB1:=zA hb1;clear hb1;go_wp2_with fail
  refine(H2.out _ HB1.out).mono ?_;rintro e w2 ⟨rfl,hb2⟩;have HB2:Hid (Below w.heap.size w w2):=HB1.out.trans (hb2.mono HB1.out.size);clear hb2;go_wp2_with fail
  go_ret
  exact⟨rfl,HB2.out⟩
 ·go_enter Tryz.func221,Tryz.ntmps221
  go_wp2_with fail
  refine(H1.out _ (tj _ _)).mono ?_;rintro e w1 ⟨rfl,hb1⟩;have HB1:=zA hb1;clear hb1;go_wp2_with fail
  go_ret
  exact⟨rfl,HB1.out⟩
theorem VY(h:pG w a ls)(c:Nat)(nm:Bs):zBG 221 #[.slice a ls.length c,.string ⟨nm.toArray⟩] w (.bool (Xr (fs ls) nm)) :=
 fun w' hb=>VX w' a ls.length c nm _ _ ((nJ h c 1 nm).at hb) ((K5 h c nm).at hb)
theorem uP{w1:World}{o:Obj}(h:Below (w.alloc o).heap.size (w.alloc o) w1):Below w.heap.size w w1:=(ge (t9 _) o).trans (h.mono (p8 (yL _ _)))
theorem dL{w1:World}{cs:Array Value}{T:TypeId}{fz:Nat × Nat}(h:Below (w.alloc (.cells cs T fz)).heap.size (w.alloc (.cells cs T fz)) w1)(j:Nat):w1.cell? ⟨w.heap.size,j,none⟩=cs[j]? := by
 have h1:w1.heap[w.heap.size]? = some (.cells cs T fz):=by rw[h.block _ (yL _ _)];exact zM _ _
 simp only[World.cell?,h1];rfl
theorem QM(w:World)(a:Option Addr)(c:Nat)(ls:List LX)(x:zX)(h:pG w a ls) :
 Calls Tryz.prog 222 #[.slice a ls.length c,jQ x] w fun e w'=>e=.returned (.bool (vC (fs ls) x))/\Below w.heap.size w w':=by
 obtain⟨kd,le,ri,nm,mk,ot,nu⟩:=x;have HC:=zA (K5 h c nm);have HF:=zA (nJ h c 2 nm);have HN:=zA (nJ h c 1 nm);have HO:=zA (nJ h c 1 ot);have zII:=h.few;clear h;unfold jQ;by_cases k5:kd=5
 ·have HR:Hid (vC (fs ls) ⟨kd,le,ri,nm,mk,ot,nu⟩=jZ (fs ls) nm):=by unfold Hid vC;rw[tl k5]
  have b5:(kd==5)=true:=by simpa using k5
  clear k5 HF HN HO
  go_enter Tryz.func222,Tryz.ntmps222
  go_wp2_with fail
  refine(HC.out _ (ge (t9 _) _)).mono ?_;rintro e w1 ⟨rfl,hb1⟩;have HB1:Hid (Below w.heap.size w w1):=uP hb1;clear hb1;go_wp2_with fail
  go_ret
  exact⟨zE HR.out.symm,HB1.out⟩
 have b5:(kd==5)=false:=by simpa using k5
 by_cases k6:kd=6
 ·have HR:Hid (vC (fs ls) ⟨kd,le,ri,nm,mk,ot,nu⟩=vR (fs ls) 2 nm):=by unfold Hid vC;rw[tg k5,tl k6]
  have b6:(kd==6)=true:=by simpa using k6
  clear k5 k6 HC HN HO
  go_enter Tryz.func222,Tryz.ntmps222
  go_wp2_with fail
  refine(HF.out _ (ge (t9 _) _)).mono ?_;rintro e w1 ⟨rfl,hb1⟩;have HB1:Hid (Below w.heap.size w w1):=uP hb1;clear hb1;go_wp2_with fail
  go_ret
  exact⟨zE HR.out.symm,HB1.out⟩
 have b6:(kd==6)=false:=by simpa using k6
 by_cases k7:kd=7
 ·have HR:Hid (vC (fs ls) ⟨kd,le,ri,nm,mk,ot,nu⟩=((decide (ot=[]) || vR (fs ls) 1 ot)&&vR (fs ls) 1 nm)):=by unfold Hid vC;rw[tg k5,tg k6,tl k7]
  have b7:(kd==7)=true:=by simpa using k7
  clear k5 k6 HC HF;generalize vR (fs ls) 1 ot=p at *;generalize vR (fs ls) 1 nm=q at *;by_cases ko:ot=[]
  ·have HR2:Hid (vC (fs ls) ⟨kd,le,ri,nm,mk,ot,nu⟩=q):=by unfold Hid;rw[HR.out,tm ko];rfl
   have bo:(ot==[])=true:=by simpa using ko
   clear HR ko k7
   go_enter Tryz.func222,Tryz.ntmps222
   go_wp2_with fail
   refine(HN.out _ (ge (t9 _) _)).mono ?_;rintro e w1 ⟨rfl,hb1⟩;have HB1:Hid (Below w.heap.size w w1):=uP hb1;clear hb1;go_wp2_with fail
   go_ret
   exact⟨zE HR2.out.symm,HB1.out⟩
  ·have HR2:Hid (vC (fs ls) ⟨kd,le,ri,nm,mk,ot,nu⟩=(p&&q)):=by unfold Hid;rw[HR.out,th ko];rfl
   have bo:(ot==[])=false:=by simpa using ko
   clear HR ko k7;cases p
   ·go_enter Tryz.func222,Tryz.ntmps222
    go_wp2_with fail
    refine(HO.out _ (ge (t9 _) _)).mono ?_;rintro e w1 ⟨rfl,hb1⟩;have HB1:Hid (Below w.heap.size w w1):=uP hb1;clear hb1;go_wp2_with fail
    go_ret
    exact⟨zE HR2.out.symm,HB1.out⟩
   ·go_enter Tryz.func222,Tryz.ntmps222
    go_wp2_with fail
    refine(HO.out _ (ge (t9 _) _)).mono ?_;rintro e w1 ⟨rfl,hb1⟩;have HB1:Hid (Below w.heap.size w w1):=uP hb1;have q1:=dL hb1;clear hb1;go_wp2_with fail
    refine(HN.out _ HB1.out).mono ?_;rintro e w2 ⟨rfl,hb2⟩;have HB2:Hid (Below w.heap.size w w2):=HB1.out.trans (hb2.mono HB1.out.size);clear hb2;go_wp2_with fail
    go_ret
    exact⟨zE HR2.out.symm,HB2.out⟩
 ·have HR:Hid (vC (fs ls) ⟨kd,le,ri,nm,mk,ot,nu⟩=true):=by unfold Hid vC;rw[tg k5,tg k6,tg k7]
  have b7:(kd==7)=false:=by simpa using k7
  clear k5 k6 k7 HC HF HN HO
  go_enter Tryz.func222,Tryz.ntmps222
  go_wp2_with fail
  go_ret
  exact⟨zE HR.out.symm,ge (t9 _) _⟩
theorem QN(h:pG w a ls)(c:Nat)(x:zX):zBG 222 #[.slice a ls.length c,jQ x] w (.bool (vC (fs ls) x)) :=
 fun w' hb=>QM w' a c ls x (h.below hb (t9 _))
theorem Zp(w:World)(a:Option Addr)(c:Nat)(ls:List LX)(i:Nat)(hi:i<ls.length)(hc:ls.length<=c)(h:pG w a ls) :
 Calls Tryz.prog 163 #[.slice a ls.length c,.int .i64 i] w fun e w'=>e=.returned (.int .i64 (lW (fs ls) i))/\Below w.heap.size w w':=by
 have zII:=h.few;have HR:Hid (lW (fs ls) i=if vR ((fs ls).take i) 1 (mZ ls i).1.name || (vR ((fs ls).take i) 2 (mZ ls i).1.name || jZ (fs ls) (mZ ls i).1.name) then 4 else 0):=by unfold Hid lW;rw[pC]
 have H1:=zA (ZO h c 1 (mZ ls i).1.name i hi);have H2:=zA (ZO h c 2 (mZ ls i).1.name i hi);have H3:=zA (K5 h c (mZ ls i).1.name);obtain⟨gl,sa,sn,sc,na,nn,nc,rfl,hgl,⟨c0,c1,c2,c3,c4,c5,c6,c7,c8,c9,c10⟩,_,_⟩:=h.line hi;clear h c0 c2 c3 c4 c5 c6 c7 c8 c9 c10;generalize (mZ ls i).1.name=nm at *;generalize vR ((fs ls).take i) 1 nm=p at *;generalize vR ((fs ls).take i) 2 nm=q at *;generalize jZ (fs ls) nm=r at *;cases p
 ·cases q
  ·go_enter Tryz.func163,Tryz.ntmps163
   go_wp2_with fail
   refine(H1.out _ (tj _ _)).mono ?_;rintro e w1 ⟨rfl,hb1⟩;have HB1:=zA hb1;clear hb1;go_wp2_with fail
   refine(H2.out _ HB1.out).mono ?_;rintro e w2 ⟨rfl,hb2⟩;have HB2:Hid (Below w.heap.size w w2):=HB1.out.trans (hb2.mono HB1.out.size);clear hb2;go_wp2_with fail
   refine(H3.out _ HB2.out).mono ?_;rintro e w3 ⟨rfl,hb3⟩;have HB3:Hid (Below w.heap.size w w3):=HB2.out.trans (hb3.mono HB2.out.size);clear hb3;cases r
   ·go_wp2_with fail
    go_ret
    exact⟨zY HR.out.symm,HB3.out⟩
   ·go_wp2_with fail
    go_ret
    exact⟨zY HR.out.symm,HB3.out⟩
  ·go_enter Tryz.func163,Tryz.ntmps163
   go_wp2_with fail
   refine(H1.out _ (tj _ _)).mono ?_;rintro e w1 ⟨rfl,hb1⟩;have HB1:=zA hb1;clear hb1;go_wp2_with fail
   refine(H2.out _ HB1.out).mono ?_;rintro e w2 ⟨rfl,hb2⟩;have HB2:Hid (Below w.heap.size w w2):=HB1.out.trans (hb2.mono HB1.out.size);clear hb2;go_wp2_with fail
   go_ret
   exact⟨zY HR.out.symm,HB2.out⟩
 ·go_enter Tryz.func163,Tryz.ntmps163
  go_wp2_with fail
  refine(H1.out _ (tj _ _)).mono ?_;rintro e w1 ⟨rfl,hb1⟩;have HB1:=zA hb1;clear hb1;go_wp2_with fail
  go_ret
  exact⟨zY HR.out.symm,HB1.out⟩
def uB(nm:Bs):List Bs->Nat->Int
 | [],_ => -1
 | x::r,i=>if x=nm then (i:Int) else uB nm r (i+1)
def zH(names:List Bs)(nm:Bs):Int:=uB nm names 0
def uW:List zF->List Bs->List Bs
 | [],acc=>acc
 | x::r,acc=>uW r (if x.kind=3/\zH acc x.conc<0 then acc++[x.conc] else acc)
def zT(ls:List zF):List Bs:=uW ls []
def jG:List zF->List Bs->List Bs
 | [],acc=>acc
 | x::r,acc=>jG r (if x.kind=3 then acc++[x.name] else acc)
def xH(ls:List zF):List Bs:=jG ls []
theorem Y0:∀i:Nat,-1<=uB nm l i/\uB nm l i<(i:Int)+l.length:=by
 induction l with
 | nil=>intro i;simp[uB];omega
 | cons x r ih=>intro i;rw[uB];split
                ·simp;omega
                ·have:=ih (i+1);simp only[p7];omega
theorem oL(i:Nat)(h:i<l.length):uB nm (l.drop i) i=if l.getD i []=nm then (i:Int) else uB nm (l.drop (i+1)) (i+1):=by
 rw[pb h,uB];simp[List.getD,h]
theorem Uk(ls:List zF)(i:Nat)(acc:List Bs)(h:i<ls.length):uW (ls.drop i) acc=uW (ls.drop (i+1)) (if (lA ls i).kind=3/\zH acc (lA ls i).conc<0 then acc++[(lA ls i).conc] else acc):=by
 rw[pb h,uW];simp[lA,List.getD,h]
theorem C7(ls:List zF)(i:Nat)(acc:List Bs)(h:i<ls.length):jG (ls.drop i) acc=jG (ls.drop (i+1)) (if (lA ls i).kind=3 then acc++[(lA ls i).name] else acc):=by
 rw[pb h,jG];simp[lA,List.getD,h]
def mG(l:List Bs):List Value:=l.map fun s=>Value.string ⟨s.toArray⟩
structure oS(w:World)(a:Option Addr)(names:List Bs):Prop where
 blk:0<names.length->∃g,a=some ⟨g,0,none⟩/\∀i,i<names.length->w.cell? ⟨g,i,none⟩=some (.string ⟨(names.getD i []).toArray⟩)
 few:names.length<=10000
theorem Vn(names:List Bs)(i:Nat)(h:i<names.length):(mG names)[i]? = some (.string ⟨(names.getD i []).toArray⟩):=by
 simp[mG,List.getD,h]
theorem oB{B:Nat}{v:Value}{names:List Bs}(h:w.ownsRow B 9 1 v names.length (mG names))(hf:names.length<=10000):∃a c,v=.slice a names.length c/\oS w a names:=by
 rcases h.2 with ⟨h1,h2⟩|⟨g,cap,yW,h1,_,h3,_,_,_,h7⟩
 ·exact⟨none,0,by rw[h1,h2],⟨fun h0=>by omega,hf⟩⟩
 ·refine⟨some ⟨g,0,none⟩,cap,h1,⟨fun _=>⟨g,rfl,fun i hi=>xB h3 (n:=names.length*1) h7 (Vn names i hi)⟩,hf⟩⟩
theorem Qh(w:World)(a:Option Addr)(c:Nat)(names:List Bs)(nm:Bs)(h:oS w a names) :
 Calls Tryz.prog 167 #[.slice a names.length c,.string ⟨nm.toArray⟩] w fun e w'=>e=.returned (.int .i64 (zH names nm))/\w'=w:=by
 have HS:=zA h;have zII:=h.few;clear h
 go_enter Tryz.func167,Tryz.ntmps167
 go_wp2_with fail
 go_loop [9] (fun iv=>∃(i:Nat),i<=names.length/\iv=.int .i64 i/\Hid (uB nm (names.drop i) i=zH names nm)) (fun iv=>names.length-(intOf iv).toNat)
 case atStart=>exact⟨0,tr _,rfl,zA rfl⟩
 case round =>
  obtain⟨i,hi,rfl,HE⟩:=hrel;by_cases zI6:i<names.length
  ·obtain⟨g,rfl,hcs⟩:=HS.out.blk (by omega)
   have hc:=hcs i zI6;have hE:=HE.out;rw[oL nm names i zI6]at hE;have HE2:=zA hE;clear HE hE hcs;generalize names.getD i []=s at *;by_cases k1:s=nm
   ·have HE3:Hid (zH names nm=i):=by have:=HE2.out;rw[tl k1]at this;exact this.symm
    have b1:(s==nm)=true:=by simpa using k1
    clear HE2 k1;go_wp2_with fail
    go_ret
    exact⟨zY HE3.out.symm,rfl⟩
   ·have HE3:Hid (uB nm (names.drop (i+1)) (i+1)=zH names nm):=by have:=HE2.out;rw[tg k1]at this;exact this
    have b1:(s==nm)=false:=by simpa using k1
    clear HE2 k1;go_wp2_with fail
    go_round
    case rel=>exact⟨i+1,by omega,by go_num,HE3⟩
    case measure=>simp[intOf];omega
  ·have HE3:Hid (zH names nm = -1):=by have:=HE.out;rw[tu (by omega)]at this;exact this.symm
   clear HE;go_wp2_with fail
   go_ret
   exact⟨zY HE3.out.symm,rfl⟩
theorem Zr:(Tryz.prog.info? 9).map (fun i=>(i.zero,i.size,i.bytes))=some (some (.string ⟨#[]⟩),1,16):=by kernel_rfl
theorem dR(s:Bs):mG (l++[s])=mG l++[.string ⟨s.toArray⟩]:=by simp[mG]
theorem eH(w:World)(a:Option Addr)(c:Nat)(ls:List LX)(h:pG w a ls) :
 Calls Tryz.prog 166 #[.slice a ls.length c] w fun e w'=>∃v,e=.returned v/\w'.ownsRow w.heap.size 9 1 v (zT (fs ls)).length (mG (zT (fs ls)))/\(zT (fs ls)).length<=ls.length/\Below w.heap.size w w':=by
 obtain⟨i0,hi0,hz0,hz1,hz2⟩:=dp Zr;have HL:=zA h;have zII:=h.few;obtain⟨B,hB⟩:∃B,B=w.heap.size:=⟨_,rfl⟩;have HB0:=zA hB;clear h hB
 go_enter Tryz.func166,Tryz.ntmps166
 go_wp2_with fail
 go_loopw [3,9] (fun ov iv wr=>∃(i:Nat) (acc:List Bs),i<=ls.length/\acc.length<=i/\iv=.int .i64 i/\Hid (wr.ownsRow B 9 1 ov acc.length (mG acc))/\Hid (Below B w wr)/\Hid (uW ((fs ls).drop i) acc=zT (fs ls))) (fun _ iv _=>ls.length-(intOf iv).toNat)
 case atStart=>exact⟨0,[],tr _,t9 _,rfl,zA ⟨rfl,.inr ⟨w.heap.size,0,#[],rfl,by rw[HB0.out];exact t9 _,zM _ _,t9 _,tr _,rfl,rfl⟩⟩,zA (ge (by rw[HB0.out];exact t9 _) _),zA rfl⟩
 case round =>
  obtain⟨i,acc,hi,hacc,rfl,HO,HB,HE⟩:=hrel;by_cases zI6:i<ls.length
  ·obtain⟨gl,sa,sn,sc,na,nn,nc,rfl,hgl,⟨c0,c1,c2,c3,c4,c5,c6,c7,c8,c9,c10⟩,_,_⟩:=(HL.out.below HB.out (by rw[HB0.out];exact t9 _)).line zI6
   have hE:=HE.out;rw[Uk _ i _ (by simpa using zI6),pC]at hE;have HE2:=zA hE;have zIJ:B<=wr.heap.size:=by have:=HB.out.size;have h2:=HB0.out;omega
   obtain⟨oa,oc,rfl,hstr⟩:=oB HO.out (by omega);have HF:=zA (fun w' (hb:Below wr.heap.size wr w') nm=>Qh w' oa oc acc nm ⟨fun h0=>let ⟨g,e,p⟩:=hstr.blk h0;⟨g,e,fun j hj=>by rw[hb.cell (p:=⟨g,j,none⟩) (by rcases po g wr.heap.size with h1|h1;exact h1;have:=p j hj;rw[World.cell?,pj (by simpa using h1)]at this;cases this)];exact p j hj⟩,hstr.few⟩);clear HE hE hstr;generalize (mZ ls i).1=x at *;obtain⟨kd,n1,lo,hi',cc,S,N,ro,te,de,lw⟩:=x;simp only at c0 c1 c2 c3 c4 c5 c6 c7 c8 c9 c10;by_cases k1:kd=3
   ·have b1:(kd==3)=true:=by simpa using k1
    by_cases k2:zH acc cc<0
    ·have HE3:Hid (uW ((fs ls).drop (i+1)) (acc++[cc])=zT (fs ls)):=by have:=HE2.out;rw[tl ⟨k1,k2⟩]at this;exact this
     clear HE2 k1;go_wp2_with fail
     refine(HF.out _ (ge (t9 _) _) cc).mono ?_;rintro e w1 ⟨rfl,hw⟩;obtain rfl:=hw.symm
     go_wp2_with (at_builtin;refine wpList_append_own _ rfl _ _ 37 rfl B 9 i0 _ 1 16 Tryz.underlying37 hi0 hz0 hz1 hz2 rfl (by decide) _ _ _ rfl ((HO.out.alloc _).alloc _) ⟨wr.heap.size+1,0,none⟩ 1 1 [.string ⟨cc.toArray⟩] rfl rfl ?c1 ?c2 ?c3 ?c4 ?c5 ?_)
     case c1=>exact World.news_of_block (heap_alloc2_new wr _ _)
     case c2=>intro u hu;simp at hu;subst hu;rfl
     case c3=>unfold maxLen;omega
     case c4=>omega
     case c5=>simp;omega
     intro v' w2 zI9 zI7 _;have HB2:Hid (Below B w w2):=((HB.out.alloc zIJ _).alloc (tx zIJ (p8 (yL _ _))) _).grown zI7 (by simp;omega) (zN HO.out);have HO2:Hid (w2.ownsRow B 9 1 v' (acc++[cc]).length (mG (acc++[cc]))):=by unfold Hid;rw[dR];simpa using zI9
     clear zI7 zI9;go_wp2_with fail
     go_roundw
     case rel=>exact⟨i+1,acc++[cc],by omega,by simp;omega,by go_num,HO2,HB2,HE3⟩
     case measure=>simp[intOf];omega
    ·have HE3:Hid (uW ((fs ls).drop (i+1)) acc=zT (fs ls)):=by have:=HE2.out;rw[tg (fun h=>k2 h.2)]at this;exact this
     have k3:decide (zH acc cc<0)=false:=th k2;clear HE2 k1;go_wp2_with fail
     refine(HF.out _ (ge (t9 _) _) cc).mono ?_;rintro e w1 ⟨rfl,hw⟩;obtain rfl:=hw.symm;go_wp2_with fail
     go_roundw
     case rel=>exact⟨i+1,acc,by omega,by omega,by go_num,zA (HO.out.alloc _),zA (HB.out.alloc zIJ _),HE3⟩
     case measure=>simp[intOf];omega
   ·have HE3:Hid (uW ((fs ls).drop (i+1)) acc=zT (fs ls)):=by have:=HE2.out;rw[tg (fun h=>k1 h.1)]at this;exact this
    have b1:(kd==3)=false:=by simpa using k1
    clear HE2 k1;go_wp2_with fail
    go_roundw
    case rel=>exact⟨i+1,acc,by omega,by omega,by go_num,zA (HO.out.alloc _),zA (HB.out.alloc zIJ _),HE3⟩
    case measure=>simp[intOf];omega
  ·have HE3:Hid (acc=zT (fs ls)):=by have:=HE.out;rw[tu (by simp;omega)]at this;exact this
   clear HE;go_wp2_with fail
   go_ret
   exact⟨_,rfl,by rw[<-HE3.out,<-HB0.out];exact HO.out,by rw[<-HE3.out];omega,by rw[<-HB0.out];exact HB.out⟩
theorem Ke(w:World)(a:Option Addr)(c:Nat)(ls:List LX)(h:pG w a ls) :
 Calls Tryz.prog 171 #[.slice a ls.length c] w fun e w'=>∃v,e=.returned v/\w'.ownsRow w.heap.size 9 1 v (xH (fs ls)).length (mG (xH (fs ls)))/\(xH (fs ls)).length<=ls.length/\Below w.heap.size w w':=by
 obtain⟨i0,hi0,hz0,hz1,hz2⟩:=dp Zr;have HL:=zA h;have zII:=h.few;obtain⟨B,hB⟩:∃B,B=w.heap.size:=⟨_,rfl⟩;have HB0:=zA hB;clear h hB
 go_enter Tryz.func171,Tryz.ntmps171
 go_wp2_with fail
 go_loopw [3,9] (fun ov iv wr=>∃(i:Nat) (acc:List Bs),i<=ls.length/\acc.length<=i/\iv=.int .i64 i/\Hid (wr.ownsRow B 9 1 ov acc.length (mG acc))/\Hid (Below B w wr)/\Hid (jG ((fs ls).drop i) acc=xH (fs ls))) (fun _ iv _=>ls.length-(intOf iv).toNat)
 case atStart=>exact⟨0,[],tr _,t9 _,rfl,zA ⟨rfl,.inr ⟨w.heap.size,0,#[],rfl,by rw[HB0.out];exact t9 _,zM _ _,t9 _,tr _,rfl,rfl⟩⟩,zA (ge (by rw[HB0.out];exact t9 _) _),zA rfl⟩
 case round =>
  obtain⟨i,acc,hi,hacc,rfl,HO,HB,HE⟩:=hrel;by_cases zI6:i<ls.length
  ·obtain⟨gl,sa,sn,sc,na,nn,nc,rfl,hgl,⟨c0,c1,c2,c3,c4,c5,c6,c7,c8,c9,c10⟩,_,_⟩:=(HL.out.below HB.out (by rw[HB0.out];exact t9 _)).line zI6
   have hE:=HE.out;rw[C7 _ i _ (by simpa using zI6),pC]at hE;have HE2:=zA hE;have zIJ:B<=wr.heap.size:=by have:=HB.out.size;have h2:=HB0.out;omega
   clear HE hE;generalize (mZ ls i).1=x at *;obtain⟨kd,n1,lo,hi',cc,S,N,ro,te,de,lw⟩:=x;simp only at c0 c1 c2 c3 c4 c5 c6 c7 c8 c9 c10;by_cases k1:kd=3
   ·have b1:(kd==3)=true:=by simpa using k1
    have HE3:Hid (jG ((fs ls).drop (i+1)) (acc++[n1])=xH (fs ls)):=by have:=HE2.out;rw[tl k1]at this;exact this
    clear HE2 k1
    go_wp2_with (at_builtin;refine wpList_append_own _ rfl _ _ 37 rfl B 9 i0 _ 1 16 Tryz.underlying37 hi0 hz0 hz1 hz2 rfl (by decide) _ _ _ rfl ((HO.out.alloc _).alloc _) ⟨wr.heap.size+1,0,none⟩ 1 1 [.string ⟨n1.toArray⟩] rfl rfl ?c1 ?c2 ?c3 ?c4 ?c5 ?_)
    case c1=>exact World.news_of_block (heap_alloc2_new wr _ _)
    case c2=>intro u hu;simp at hu;subst hu;rfl
    case c3=>unfold maxLen;omega
    case c4=>omega
    case c5=>simp;omega
    intro v' w2 zI9 zI7 _;have HB2:Hid (Below B w w2):=((HB.out.alloc zIJ _).alloc (tx zIJ (p8 (yL _ _))) _).grown zI7 (by simp;omega) (zN HO.out);have HO2:Hid (w2.ownsRow B 9 1 v' (acc++[n1]).length (mG (acc++[n1]))):=by unfold Hid;rw[dR];simpa using zI9
    clear zI7 zI9;go_wp2_with fail
    go_roundw
    case rel=>exact⟨i+1,acc++[n1],by omega,by simp;omega,by go_num,HO2,HB2,HE3⟩
    case measure=>simp[intOf];omega
   ·have HE3:Hid (jG ((fs ls).drop (i+1)) acc=xH (fs ls)):=by have:=HE2.out;rw[tg k1]at this;exact this
    have b1:(kd==3)=false:=by simpa using k1
    clear HE2 k1;go_wp2_with fail
    go_roundw
    case rel=>exact⟨i+1,acc,by omega,by omega,by go_num,zA (HO.out.alloc _),zA (HB.out.alloc zIJ _),HE3⟩
    case measure=>simp[intOf];omega
  ·have HE3:Hid (acc=xH (fs ls)):=by have:=HE.out;rw[tu (by simp;omega)]at this;exact this
   clear HE;go_wp2_with fail
   go_ret
   exact⟨_,rfl,by rw[<-HE3.out,<-HB0.out];exact HO.out,by rw[<-HE3.out];omega,by rw[<-HB0.out];exact HB.out⟩
end Go.Proofs.YtnbpdffdnphbeaaGreatDoor
