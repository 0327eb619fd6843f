import Derived.Test.YtnbpdffdnphbeabGreatDoorCkLines
set_option maxHeartbeats 2000000
namespace Go.Proofs.YtnbpdffdnphbeabGreatDoor
open Go.RowKit
variable{ls:List LX}{a:Option Addr}{w:World}
def zCW(f:FuncId)(args:Array Value)(w:World)(v:Value):Prop:=∀w',Below w.heap.size w w'->Calls Tryz.prog f args w' fun e w''=>e=.returned v/\Below w'.heap.size w' w''
theorem zCW.at{f:FuncId}{args:Array Value}{v:Value}(h:zCW f args w v){w':World}(hb:Below w.heap.size w w'):zCW f args w' v:=fun w'' h2=>h w'' (hb.trans (h2.mono hb.size))
theorem gK(h:tC w a ls)(c:Nat)(k:Int)(nm:Bs):zCW 153 #[.slice a ls.length c,.int .i64 k,.string ⟨nm.toArray⟩] w (.bool (vQ (fs ls) k nm)) :=
 fun w' hb=>ze w' a c ls k nm (h.below hb (j1 _))
theorem ZG(h:tC w a ls)(c:Nat)(k:Int)(nm:Bs)(i:Nat)(hi:i<ls.length):zCW 153 #[.slice a i c,.int .i64 k,.string ⟨nm.toArray⟩] w (.bool (vQ ((fs ls).take i) k nm)):=by
 have:=gK (h.take i) c k nm;rw[cp,Nat.min_eq_left (by omega),show fs (ls.take i)=(fs ls).take i from List.map_take ..]at this;exact this
theorem Ko(h:tC w a ls)(c:Nat)(nm:Bs):zCW 154 #[.slice a ls.length c,.string ⟨nm.toArray⟩] w (.bool (jE (fs ls) nm)) :=
 fun w' hb=>XD w' a c ls nm (h.below hb (j1 _))
theorem XW(h:tC w a ls)(c:Nat)(nm:Bs):zCW 157 #[.slice a ls.length c,.string ⟨nm.toArray⟩] w (.int .i64 (xV (fs ls) nm)) :=
 fun w' hb=>C7 w' a c ls nm (h.below hb (j1 _))
theorem VR(w:World)(a:Option Addr)(n c:Nat)(nm:Bs)(p q:Bool)(h1:zCW 153 #[.slice a n c,.int .i64 1,.string ⟨nm.toArray⟩] w (.bool p))(h2:zCW 154 #[.slice a n c,.string ⟨nm.toArray⟩] w (.bool q)) :
 Calls Tryz.prog 155 #[.slice a n c,.string ⟨nm.toArray⟩] w fun e w'=>e=.returned (.bool (p || q))/\Below w.heap.size w w':=by
 have H1:=zA h1;have H2:=zA h2;clear h1 h2;cases p
 ·go_enter Tryz.func155,Tryz.ntmps155
  go_wp2_with fail
  refine(H1.out _ (tg _ _)).mono ?_;rintro e w1 ⟨rfl,hb1⟩;have HB1:=zA hb1;clear hb1;go_wp2_with fail
  refine(H2.out _ HB1.out).mono ?_;rintro e w2 ⟨rfl,hb2⟩;have HB2:Hid (Below w.heap.size w w2):=HB1.out.trans (hb2.mono HB1.out.size);clear hb2;go_wp2_with fail
  go_ret
  exact⟨rfl,HB2.out⟩
 ·go_enter Tryz.func155,Tryz.ntmps155
  go_wp2_with fail
  refine(H1.out _ (tg _ _)).mono ?_;rintro e w1 ⟨rfl,hb1⟩;have HB1:=zA hb1;clear hb1;go_wp2_with fail
  go_ret
  exact⟨rfl,HB1.out⟩
theorem VS(h:tC w a ls)(c:Nat)(nm:Bs):zCW 155 #[.slice a ls.length c,.string ⟨nm.toArray⟩] w (.bool (Xa (fs ls) nm)) :=
 fun w' hb=>VR w' a ls.length c nm _ _ ((gK h c 1 nm).at hb) ((Ko h c nm).at hb)
theorem uB{w1:World}{o:Obj}(h:Below (w.alloc o).heap.size (w.alloc o) w1):Below w.heap.size w w1:=(fw (j1 _) o).trans (h.mono (pf (zX _ _)))
theorem bP{w1:World}{cs:Array Value}{T:TypeId}{fz:Nat × Nat}(h:Below (w.alloc (.cells cs T fz)).heap.size (w.alloc (.cells cs T fz)) w1)(j:Nat):w1.cell? ⟨w.heap.size,j,none⟩=cs[j]? := by
 have h1:w1.heap[w.heap.size]? = some (.cells cs T fz):=by rw[h.block _ (zX _ _)];exact zG _ _
 simp only[World.cell?,h1];rfl
theorem QE(w:World)(a:Option Addr)(c:Nat)(ls:List LX)(x:zR)(h:tC w a ls) :
 Calls Tryz.prog 156 #[.slice a ls.length c,kT x] w fun e w'=>e=.returned (.bool (xS (fs ls) x))/\Below w.heap.size w w':=by
 obtain⟨kd,le,ri,nm,mk,ot,nu⟩:=x;have HC:=zA (Ko h c nm);have HF:=zA (gK h c 2 nm);have HN:=zA (gK h c 1 nm);have HO:=zA (gK h c 1 ot);have zLX:=h.few;clear h;unfold kT;by_cases k5:kd=5
 ·have HR:Hid (xS (fs ls) ⟨kd,le,ri,nm,mk,ot,nu⟩=jE (fs ls) nm):=by unfold Hid xS;rw[tl k5]
  have b5:(kd==5)=true:=by simpa using k5
  clear k5 HF HN HO
  go_enter Tryz.func156,Tryz.ntmps156
  go_wp2_with fail
  refine(HC.out _ (fw (j1 _) _)).mono ?_;rintro e w1 ⟨rfl,hb1⟩;have HB1:Hid (Below w.heap.size w w1):=uB hb1;clear hb1;go_wp2_with fail
  go_ret
  exact⟨zF HR.out.symm,HB1.out⟩
 have b5:(kd==5)=false:=by simpa using k5
 by_cases k6:kd=6
 ·have HR:Hid (xS (fs ls) ⟨kd,le,ri,nm,mk,ot,nu⟩=vQ (fs ls) 2 nm):=by unfold Hid xS;rw[tb k5,tl k6]
  have b6:(kd==6)=true:=by simpa using k6
  clear k5 k6 HC HN HO
  go_enter Tryz.func156,Tryz.ntmps156
  go_wp2_with fail
  refine(HF.out _ (fw (j1 _) _)).mono ?_;rintro e w1 ⟨rfl,hb1⟩;have HB1:Hid (Below w.heap.size w w1):=uB hb1;clear hb1;go_wp2_with fail
  go_ret
  exact⟨zF HR.out.symm,HB1.out⟩
 have b6:(kd==6)=false:=by simpa using k6
 by_cases k7:kd=7
 ·have HR:Hid (xS (fs ls) ⟨kd,le,ri,nm,mk,ot,nu⟩=((decide (ot=[]) || vQ (fs ls) 1 ot)&&vQ (fs ls) 1 nm)):=by unfold Hid xS;rw[tb k5,tb k6,tl k7]
  have b7:(kd==7)=true:=by simpa using k7
  clear k5 k6 HC HF;generalize vQ (fs ls) 1 ot=p at *;generalize vQ (fs ls) 1 nm=q at *;by_cases ko:ot=[]
  ·have HR2:Hid (xS (fs ls) ⟨kd,le,ri,nm,mk,ot,nu⟩=q):=by unfold Hid;rw[HR.out,tr ko];rfl
   have bo:(ot==[])=true:=by simpa using ko
   clear HR ko k7
   go_enter Tryz.func156,Tryz.ntmps156
   go_wp2_with fail
   refine(HN.out _ (fw (j1 _) _)).mono ?_;rintro e w1 ⟨rfl,hb1⟩;have HB1:Hid (Below w.heap.size w w1):=uB hb1;clear hb1;go_wp2_with fail
   go_ret
   exact⟨zF HR2.out.symm,HB1.out⟩
  ·have HR2:Hid (xS (fs ls) ⟨kd,le,ri,nm,mk,ot,nu⟩=(p&&q)):=by unfold Hid;rw[HR.out,tu ko];rfl
   have bo:(ot==[])=false:=by simpa using ko
   clear HR ko k7;cases p
   ·go_enter Tryz.func156,Tryz.ntmps156
    go_wp2_with fail
    refine(HO.out _ (fw (j1 _) _)).mono ?_;rintro e w1 ⟨rfl,hb1⟩;have HB1:Hid (Below w.heap.size w w1):=uB hb1;clear hb1;go_wp2_with fail
    go_ret
    exact⟨zF HR2.out.symm,HB1.out⟩
   ·go_enter Tryz.func156,Tryz.ntmps156
    go_wp2_with fail
    refine(HO.out _ (fw (j1 _) _)).mono ?_;rintro e w1 ⟨rfl,hb1⟩;have HB1:Hid (Below w.heap.size w w1):=uB hb1;have q1:=bP hb1;clear hb1;go_wp2_with fail
    refine(HN.out _ HB1.out).mono ?_;rintro e w2 ⟨rfl,hb2⟩;have HB2:Hid (Below w.heap.size w w2):=HB1.out.trans (hb2.mono HB1.out.size);clear hb2;go_wp2_with fail
    go_ret
    exact⟨zF HR2.out.symm,HB2.out⟩
 ·have HR:Hid (xS (fs ls) ⟨kd,le,ri,nm,mk,ot,nu⟩=true):=by unfold Hid xS;rw[tb k5,tb k6,tb k7]
  have b7:(kd==7)=false:=by simpa using k7
  clear k5 k6 k7 HC HF HN HO
  go_enter Tryz.func156,Tryz.ntmps156
  go_wp2_with fail
  go_ret
  exact⟨zF HR.out.symm,fw (j1 _) _⟩
theorem QF(h:tC w a ls)(c:Nat)(x:zR):zCW 156 #[.slice a ls.length c,kT x] w (.bool (xS (fs ls) x)) :=
 fun w' hb=>QE w' a c ls x (h.below hb (j1 _))
theorem wW(w:World)(a:Option Addr)(c:Nat)(ls:List LX)(i:Nat)(hi:i<ls.length)(hc:ls.length<=c)(h:tC w a ls) :
 Calls Tryz.prog 113 #[.slice a ls.length c,.int .i64 i] w fun e w'=>e=.returned (.int .i64 (bE (fs ls) i))/\Below w.heap.size w w':=by
 have zLX:=h.few;have HR:Hid (bE (fs ls) i=if vQ ((fs ls).take i) 1 (pM ls i).1.name || (vQ ((fs ls).take i) 2 (pM ls i).1.name || jE (fs ls) (pM ls i).1.name) then 4 else 0):=by unfold Hid bE;rw[jY]
 have H1:=zA (ZG h c 1 (pM ls i).1.name i hi);have H2:=zA (ZG h c 2 (pM ls i).1.name i hi);have H3:=zA (Ko h c (pM ls i).1.name);obtain⟨gl,sa,sn,sc,na,nn,nc,rfl,hgl,⟨c0,c1,c2,c3,c4,c5,c6,c7,c8,c9,c10⟩,_,_⟩:=h.line hi;clear h c0 c2 c3 c4 c5 c6 c7 c8 c9 c10;generalize (pM ls i).1.name=nm at *;generalize vQ ((fs ls).take i) 1 nm=p at *;generalize vQ ((fs ls).take i) 2 nm=q at *;generalize jE (fs ls) nm=r at *;cases p
 ·cases q
  ·go_enter Tryz.func113,Tryz.ntmps113
   go_wp2_with fail
   refine(H1.out _ (tg _ _)).mono ?_;rintro e w1 ⟨rfl,hb1⟩;have HB1:=zA hb1;clear hb1;go_wp2_with fail
   refine(H2.out _ HB1.out).mono ?_;rintro e w2 ⟨rfl,hb2⟩;have HB2:Hid (Below w.heap.size w w2):=HB1.out.trans (hb2.mono HB1.out.size);clear hb2;go_wp2_with fail
   refine(H3.out _ HB2.out).mono ?_;rintro e w3 ⟨rfl,hb3⟩;have HB3:Hid (Below w.heap.size w w3):=HB2.out.trans (hb3.mono HB2.out.size);clear hb3;cases r
   ·go_wp2_with fail
    go_ret
    exact⟨yP HR.out.symm,HB3.out⟩
   ·go_wp2_with fail
    go_ret
    exact⟨yP HR.out.symm,HB3.out⟩
  ·go_enter Tryz.func113,Tryz.ntmps113
   go_wp2_with fail
   refine(H1.out _ (tg _ _)).mono ?_;rintro e w1 ⟨rfl,hb1⟩;have HB1:=zA hb1;clear hb1;go_wp2_with fail
   refine(H2.out _ HB1.out).mono ?_;rintro e w2 ⟨rfl,hb2⟩;have HB2:Hid (Below w.heap.size w w2):=HB1.out.trans (hb2.mono HB1.out.size);clear hb2;go_wp2_with fail
   go_ret
   exact⟨yP HR.out.symm,HB2.out⟩
 ·go_enter Tryz.func113,Tryz.ntmps113
  go_wp2_with fail
  refine(H1.out _ (tg _ _)).mono ?_;rintro e w1 ⟨rfl,hb1⟩;have HB1:=zA hb1;clear hb1;go_wp2_with fail
  go_ret
  exact⟨yP HR.out.symm,HB1.out⟩
def qL(nm:Bs):List Bs->Nat->Int
 | [],_ => -1
 | x::r,i=>if x=nm then (i:Int) else qL nm r (i+1)
def zH(zLI:List Bs)(nm:Bs):Int:=qL nm zLI 0
def uQ:List zE->List Bs->List Bs
 | [],acc=>acc
 | x::r,acc=>uQ r (if x.kind=3/\zH acc x.conc<0 then acc++[x.conc] else acc)
def zJ(ls:List zE):List Bs:=uQ ls []
def jD:List zE->List Bs->List Bs
 | [],acc=>acc
 | x::r,acc=>jD r (if x.kind=3 then acc++[x.name] else acc)
def yW(ls:List zE):List Bs:=jD ls []
theorem rW(nm:Bs)(l:List Bs):∀i:Nat,-1<=qL nm l i/\qL nm l i<(i:Int)+l.length:=by
 induction l with
 | nil=>intro i;simp[qL];omega
 | cons x r ih=>intro i;rw[qL];split
                ·simp;omega
                ·have:=ih (i+1);simp only[p9];omega
theorem eX(nm:Bs)(l:List Bs)(i:Nat)(h:i<l.length):qL nm (l.drop i) i=if l.getD i []=nm then (i:Int) else qL nm (l.drop (i+1)) (i+1):=by
 rw[pq h,qL];simp[List.getD,h]
theorem VZ(ls:List zE)(i:Nat)(acc:List Bs)(h:i<ls.length):uQ (ls.drop i) acc=uQ (ls.drop (i+1)) (if (lA ls i).kind=3/\zH acc (lA ls i).conc<0 then acc++[(lA ls i).conc] else acc):=by
 rw[pq h,uQ];simp[lA,List.getD,h]
theorem Ch(ls:List zE)(i:Nat)(acc:List Bs)(h:i<ls.length):jD (ls.drop i) acc=jD (ls.drop (i+1)) (if (lA ls i).kind=3 then acc++[(lA ls i).name] else acc):=by
 rw[pq h,jD];simp[lA,List.getD,h]
def vJ(l:List Bs):List Value:=l.map fun s=>Value.string ⟨s.toArray⟩
structure zK2(w:World)(a:Option Addr)(zLI:List Bs):Prop where
 blk:0<zLI.length->∃g,a=some ⟨g,0,none⟩/\∀i,i<zLI.length->w.cell? ⟨g,i,none⟩=some (.string ⟨(zLI.getD i []).toArray⟩)
 few:zLI.length<=10000
theorem Xc(zLI:List Bs)(i:Nat)(h:i<zLI.length):(vJ zLI)[i]? = some (.string ⟨(zLI.getD i []).toArray⟩):=by
 simp[vJ,List.getD,h]
theorem D4{B:Nat}{v:Value}{zLI:List Bs}(h:w.ownsRow B 9 1 v zLI.length (vJ zLI))(hf:zLI.length<=10000):∃a c,v=.slice a zLI.length c/\zK2 w a zLI:=by
 rcases h.2 with ⟨h1,h2⟩|⟨g,cap,yL,h1,_,h3,_,_,_,h7⟩
 ·exact⟨none,0,by rw[h1,h2],⟨fun h0=>by omega,hf⟩⟩
 ·refine⟨some ⟨g,0,none⟩,cap,h1,⟨fun _=>⟨g,rfl,fun i hi=>xP h3 (n:=zLI.length*1) h7 (Xc zLI i hi)⟩,hf⟩⟩
theorem XU(w:World)(a:Option Addr)(c:Nat)(zLI:List Bs)(nm:Bs)(h:zK2 w a zLI) :
 Calls Tryz.prog 116 #[.slice a zLI.length c,.string ⟨nm.toArray⟩] w fun e w'=>e=.returned (.int .i64 (zH zLI nm))/\w'=w:=by
 have HS:=zA h;have zLX:=h.few;clear h
 go_enter Tryz.func116,Tryz.ntmps116
 go_wp2_with fail
 go_loop [9] (fun iv=>∃(i:Nat),i<=zLI.length/\iv=.int .i64 i/\Hid (qL nm (zLI.drop i) i=zH zLI nm)) (fun iv=>zLI.length-(intOf iv).toNat)
 case atStart=>exact⟨0,tx _,rfl,zA rfl⟩
 case round =>
  obtain⟨i,hi,rfl,HE⟩:=hrel;by_cases zLL:i<zLI.length
  ·obtain⟨g,rfl,zM8⟩:=HS.out.blk (by omega)
   have hc:=zM8 i zLL;have hE:=HE.out;rw[eX nm zLI i zLL]at hE;have HE2:=zA hE;clear HE hE zM8;generalize zLI.getD i []=s at *;by_cases k1:s=nm
   ·have HE3:Hid (zH zLI nm=i):=by have:=HE2.out;rw[tl k1]at this;exact this.symm
    have b1:(s==nm)=true:=by simpa using k1
    clear HE2 k1;go_wp2_with fail
    go_ret
    exact⟨yP HE3.out.symm,rfl⟩
   ·have HE3:Hid (qL nm (zLI.drop (i+1)) (i+1)=zH zLI nm):=by have:=HE2.out;rw[tb k1]at this;exact this
    have b1:(s==nm)=false:=by simpa using k1
    clear HE2 k1;go_wp2_with fail
    go_round
    case rel=>exact⟨i+1,by omega,by go_num,HE3⟩
    case measure=>simp[intOf];omega
  ·have HE3:Hid (zH zLI nm = -1):=by have:=HE.out;rw[ph (by omega)]at this;exact this.symm
   clear HE;go_wp2_with fail
   go_ret
   exact⟨yP HE3.out.symm,rfl⟩
theorem aB:(Tryz.prog.info? 9).map (fun i=>(i.zero,i.size,i.bytes))=some (some (.string ⟨#[]⟩),1,16):=by kernel_rfl
theorem QV(l:List Bs)(s:Bs):vJ (l++[s])=vJ l++[.string ⟨s.toArray⟩]:=by simp[vJ]
theorem aW(w:World)(a:Option Addr)(c:Nat)(ls:List LX)(h:tC w a ls) :
 Calls Tryz.prog 80 #[.slice a ls.length c] w fun e w'=>∃v,e=.returned v/\w'.ownsRow w.heap.size 9 1 v (zJ (fs ls)).length (vJ (zJ (fs ls)))/\(zJ (fs ls)).length<=ls.length/\Below w.heap.size w w':=by
 obtain⟨i0,hi0,hz0,hz1,hz2⟩:=info_parts aB;have HL:=zA h;have zLX:=h.few;obtain⟨B,hB⟩:∃B,B=w.heap.size:=⟨_,rfl⟩;have HB0:=zA hB;clear h hB
 go_enter Tryz.func80,Tryz.ntmps80
 go_wp2_with fail
 go_loopw [3,9] (fun ov iv wr=>∃(i:Nat) (acc:List Bs),i<=ls.length/\acc.length<=i/\iv=.int .i64 i/\Hid (wr.ownsRow B 9 1 ov acc.length (vJ acc))/\Hid (Below B w wr)/\Hid (uQ ((fs ls).drop i) acc=zJ (fs ls))) (fun _ iv _=>ls.length-(intOf iv).toNat)
 case atStart=>exact⟨0,[],tx _,j1 _,rfl,zA ⟨rfl,.inr ⟨w.heap.size,0,#[],rfl,by rw[HB0.out];exact j1 _,zG _ _,j1 _,tx _,rfl,rfl⟩⟩,zA (fw (by rw[HB0.out];exact j1 _) _),zA rfl⟩
 case round =>
  obtain⟨i,acc,hi,hacc,rfl,HO,HB,HE⟩:=hrel;by_cases zLL:i<ls.length
  ·obtain⟨gl,sa,sn,sc,na,nn,nc,rfl,hgl,⟨c0,c1,c2,c3,c4,c5,c6,c7,c8,c9,c10⟩,_,_⟩:=(HL.out.below HB.out (by rw[HB0.out];exact j1 _)).line zLL
   have hE:=HE.out;rw[VZ _ i _ (by simpa using zLL),jY]at hE;have HE2:=zA hE;have zLQ:B<=wr.heap.size:=by have:=HB.out.size;have h2:=HB0.out;omega
   obtain⟨oa,oc,rfl,hstr⟩:=D4 HO.out (by omega);have HF:=zA (fun w' (hb:Below wr.heap.size wr w') nm=>XU w' oa oc acc nm ⟨fun h0=>let ⟨g,e,p⟩:=hstr.blk h0;⟨g,e,fun j hj=>by rw[hb.cell (p:=⟨g,j,none⟩) (by rcases me g wr.heap.size with h1|h1;exact h1;have:=p j hj;rw[World.cell?,md (by simpa using h1)]at this;cases this)];exact p j hj⟩,hstr.few⟩);clear HE hE hstr;generalize (pM ls i).1=x at *;obtain⟨kd,n1,lo,hi',cc,S,N,ro,te,de,lw⟩:=x;simp only at c0 c1 c2 c3 c4 c5 c6 c7 c8 c9 c10;by_cases k1:kd=3
   ·have b1:(kd==3)=true:=by simpa using k1
    by_cases k2:zH acc cc<0
    ·have HE3:Hid (uQ ((fs ls).drop (i+1)) (acc++[cc])=zJ (fs ls)):=by have:=HE2.out;rw[tl ⟨k1,k2⟩]at this;exact this
     clear HE2 k1;go_wp2_with fail
     refine(HF.out _ (fw (j1 _) _) cc).mono ?_;rintro e w1 ⟨rfl,hw⟩;obtain rfl:=hw.symm
     go_wp2_with (at_builtin;refine wpList_append_own _ rfl _ _ 70 rfl B 9 i0 _ 1 16 Tryz.underlying70 hi0 hz0 hz1 hz2 rfl (by decide) _ _ _ rfl ((HO.out.alloc _).alloc _) ⟨wr.heap.size+1,0,none⟩ 1 1 [.string ⟨cc.toArray⟩] rfl rfl ?c1 ?c2 ?c3 ?c4 ?c5 ?_)
     case c1=>exact World.news_of_block (heap_alloc2_new wr _ _)
     case c2=>intro u hu;simp at hu;subst hu;rfl
     case c3=>unfold maxLen;omega
     case c4=>omega
     case c5=>simp;omega
     intro v' w2 zLR zLN _;have HB2:Hid (Below B w w2):=((HB.out.alloc zLQ _).alloc (ty zLQ (pf (zX _ _))) _).grown zLN (by simp;omega) (zS HO.out);have HO2:Hid (w2.ownsRow B 9 1 v' (acc++[cc]).length (vJ (acc++[cc]))):=by unfold Hid;rw[QV];simpa using zLR
     clear zLN zLR;go_wp2_with fail
     go_roundw
     case rel=>exact⟨i+1,acc++[cc],by omega,by simp;omega,by go_num,HO2,HB2,HE3⟩
     case measure=>simp[intOf];omega
    ·have HE3:Hid (uQ ((fs ls).drop (i+1)) acc=zJ (fs ls)):=by have:=HE2.out;rw[tb (fun h=>k2 h.2)]at this;exact this
     have k3:decide (zH acc cc<0)=false:=tu k2;clear HE2 k1;go_wp2_with fail
     refine(HF.out _ (fw (j1 _) _) cc).mono ?_;rintro e w1 ⟨rfl,hw⟩;obtain rfl:=hw.symm;go_wp2_with fail
     go_roundw
     case rel=>exact⟨i+1,acc,by omega,by omega,by go_num,zA (HO.out.alloc _),zA (HB.out.alloc zLQ _),HE3⟩
     case measure=>simp[intOf];omega
   ·have HE3:Hid (uQ ((fs ls).drop (i+1)) acc=zJ (fs ls)):=by have:=HE2.out;rw[tb (fun h=>k1 h.1)]at this;exact this
    have b1:(kd==3)=false:=by simpa using k1
    clear HE2 k1;go_wp2_with fail
    go_roundw
    case rel=>exact⟨i+1,acc,by omega,by omega,by go_num,zA (HO.out.alloc _),zA (HB.out.alloc zLQ _),HE3⟩
    case measure=>simp[intOf];omega
  ·have HE3:Hid (acc=zJ (fs ls)):=by have:=HE.out;rw[ph (by simp;omega)]at this;exact this
   clear HE;go_wp2_with fail
   go_ret
   exact⟨_,rfl,by rw[<-HE3.out,<-HB0.out];exact HO.out,by rw[<-HE3.out];omega,by rw[<-HB0.out];exact HB.out⟩
theorem JW(w:World)(a:Option Addr)(c:Nat)(ls:List LX)(h:tC w a ls) :
 Calls Tryz.prog 81 #[.slice a ls.length c] w fun e w'=>∃v,e=.returned v/\w'.ownsRow w.heap.size 9 1 v (yW (fs ls)).length (vJ (yW (fs ls)))/\(yW (fs ls)).length<=ls.length/\Below w.heap.size w w':=by
 obtain⟨i0,hi0,hz0,hz1,hz2⟩:=info_parts aB;have HL:=zA h;have zLX:=h.few;obtain⟨B,hB⟩:∃B,B=w.heap.size:=⟨_,rfl⟩;have HB0:=zA hB;clear h hB
 go_enter Tryz.func81,Tryz.ntmps81
 go_wp2_with fail
 go_loopw [3,9] (fun ov iv wr=>∃(i:Nat) (acc:List Bs),i<=ls.length/\acc.length<=i/\iv=.int .i64 i/\Hid (wr.ownsRow B 9 1 ov acc.length (vJ acc))/\Hid (Below B w wr)/\Hid (jD ((fs ls).drop i) acc=yW (fs ls))) (fun _ iv _=>ls.length-(intOf iv).toNat)
 case atStart=>exact⟨0,[],tx _,j1 _,rfl,zA ⟨rfl,.inr ⟨w.heap.size,0,#[],rfl,by rw[HB0.out];exact j1 _,zG _ _,j1 _,tx _,rfl,rfl⟩⟩,zA (fw (by rw[HB0.out];exact j1 _) _),zA rfl⟩
 case round =>
  obtain⟨i,acc,hi,hacc,rfl,HO,HB,HE⟩:=hrel;by_cases zLL:i<ls.length
  ·obtain⟨gl,sa,sn,sc,na,nn,nc,rfl,hgl,⟨c0,c1,c2,c3,c4,c5,c6,c7,c8,c9,c10⟩,_,_⟩:=(HL.out.below HB.out (by rw[HB0.out];exact j1 _)).line zLL
   have hE:=HE.out;rw[Ch _ i _ (by simpa using zLL),jY]at hE;have HE2:=zA hE;have zLQ:B<=wr.heap.size:=by have:=HB.out.size;have h2:=HB0.out;omega
   clear HE hE;generalize (pM ls i).1=x at *;obtain⟨kd,n1,lo,hi',cc,S,N,ro,te,de,lw⟩:=x;simp only at c0 c1 c2 c3 c4 c5 c6 c7 c8 c9 c10;by_cases k1:kd=3
   ·have b1:(kd==3)=true:=by simpa using k1
    have HE3:Hid (jD ((fs ls).drop (i+1)) (acc++[n1])=yW (fs ls)):=by have:=HE2.out;rw[tl k1]at this;exact this
    clear HE2 k1
    go_wp2_with (at_builtin;refine wpList_append_own _ rfl _ _ 70 rfl B 9 i0 _ 1 16 Tryz.underlying70 hi0 hz0 hz1 hz2 rfl (by decide) _ _ _ rfl ((HO.out.alloc _).alloc _) ⟨wr.heap.size+1,0,none⟩ 1 1 [.string ⟨n1.toArray⟩] rfl rfl ?c1 ?c2 ?c3 ?c4 ?c5 ?_)
    case c1=>exact World.news_of_block (heap_alloc2_new wr _ _)
    case c2=>intro u hu;simp at hu;subst hu;rfl
    case c3=>unfold maxLen;omega
    case c4=>omega
    case c5=>simp;omega
    intro v' w2 zLR zLN _;have HB2:Hid (Below B w w2):=((HB.out.alloc zLQ _).alloc (ty zLQ (pf (zX _ _))) _).grown zLN (by simp;omega) (zS HO.out);have HO2:Hid (w2.ownsRow B 9 1 v' (acc++[n1]).length (vJ (acc++[n1]))):=by unfold Hid;rw[QV];simpa using zLR
    clear zLN zLR;go_wp2_with fail
    go_roundw
    case rel=>exact⟨i+1,acc++[n1],by omega,by simp;omega,by go_num,HO2,HB2,HE3⟩
    case measure=>simp[intOf];omega
   ·have HE3:Hid (jD ((fs ls).drop (i+1)) acc=yW (fs ls)):=by have:=HE2.out;rw[tb k1]at this;exact this
    have b1:(kd==3)=false:=by simpa using k1
    clear HE2 k1;go_wp2_with fail
    go_roundw
    case rel=>exact⟨i+1,acc,by omega,by omega,by go_num,zA (HO.out.alloc _),zA (HB.out.alloc zLQ _),HE3⟩
    case measure=>simp[intOf];omega
  ·have HE3:Hid (acc=yW (fs ls)):=by have:=HE.out;rw[ph (by simp;omega)]at this;exact this
   clear HE;go_wp2_with fail
   go_ret
   exact⟨_,rfl,by rw[<-HE3.out,<-HB0.out];exact HO.out,by rw[<-HE3.out];omega,by rw[<-HB0.out];exact HB.out⟩
end Go.Proofs.YtnbpdffdnphbeabGreatDoor
