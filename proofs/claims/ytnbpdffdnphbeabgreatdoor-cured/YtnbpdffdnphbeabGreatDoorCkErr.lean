import Derived.Test.YtnbpdffdnphbeabGreatDoorCkLines
set_option maxHeartbeats 2000000
namespace Go.Proofs.YtnbpdffdnphbeabGreatDoor
open Go.RowKit
variable{ls:List LX}{a:Option Addr}{w:World}(nm:Bs)(l:List Bs)
def zBM(f:FuncId)(args:Array Value)(w:World)(v:Value):Prop:=∀w',Below w.heap.size w w'->Calls Tryz.prog f args w' fun e w''=>e=.returned v/\Below w'.heap.size w' w''
theorem zBM.at{f:FuncId}{args:Array Value}{v:Value}(h:zBM f args w v){w':World}(hb:Below w.heap.size w w'):zBM f args w' v:=fun w'' h2=>h w'' (hb.trans (h2.mono hb.size))
theorem fE(h:tG w a ls)(c:Nat)(k:Int)(nm:Bs):zBM 153 #[.slice a ls.length c,.int .i64 k,.string ⟨nm.toArray⟩] w (.bool (uP (fs ls) k nm)) :=
 fun w' hb=>FS9 w' a c ls k nm (h.below hb (tg _))
theorem wQ(h:tG w a ls)(c:Nat)(k:Int)(nm:Bs)(i:Nat)(hi:i<ls.length):zBM 153 #[.slice a i c,.int .i64 k,.string ⟨nm.toArray⟩] w (.bool (uP ((fs ls).take i) k nm)):=by
 have:=fE (h.take i) c k nm;rw[cb,Nat.min_eq_left (by omega),show fs (ls.take i)=(fs ls).take i from List.map_take ..]at this;exact this
theorem JG(h:tG w a ls)(c:Nat)(nm:Bs):zBM 154 #[.slice a ls.length c,.string ⟨nm.toArray⟩] w (.bool (pB (fs ls) nm)) :=
 fun w' hb=>Xb w' a c ls nm (h.below hb (tg _))
theorem Xq(h:tG w a ls)(c:Nat)(nm:Bs):zBM 157 #[.slice a ls.length c,.string ⟨nm.toArray⟩] w (.int .i64 (tF (fs ls) nm)) :=
 fun w' hb=>BR w' a c ls nm (h.below hb (tg _))
theorem Vh(w:World)(a:Option Addr)(n c:Nat)(nm:Bs)(p q:Bool)(h1:zBM 153 #[.slice a n c,.int .i64 1,.string ⟨nm.toArray⟩] w (.bool p))(h2:zBM 154 #[.slice a n c,.string ⟨nm.toArray⟩] w (.bool q)) :
 Calls Tryz.prog 155 #[.slice a n c,.string ⟨nm.toArray⟩] w fun e w'=>e=.returned (.bool (p || q))/\Below w.heap.size w w':=by
 have H1:=zA h1;have H2:=zA h2;clear h1 h2;cases p
 ·go_enter Tryz.func155,Tryz.ntmps155
  go_wp2_with fail
  refine(H1.out _ (tl _ _)).mono ?_;rintro e w1 ⟨rfl,hb1⟩;have HB1:=zA hb1;clear hb1;go_wp2_with fail
  refine(H2.out _ HB1.out).mono ?_;rintro e w2 ⟨rfl,hb2⟩;have HB2:Hid (Below w.heap.size w w2):=HB1.out.trans (hb2.mono HB1.out.size);clear hb2;go_wp2_with fail
  go_ret
  exact⟨rfl,HB2.out⟩
 ·go_enter Tryz.func155,Tryz.ntmps155
  go_wp2_with fail
  refine(H1.out _ (tl _ _)).mono ?_;rintro e w1 ⟨rfl,hb1⟩;have HB1:=zA hb1;clear hb1;go_wp2_with fail
  go_ret
  exact⟨rfl,HB1.out⟩
theorem Vi(h:tG w a ls)(c:Nat)(nm:Bs):zBM 155 #[.slice a ls.length c,.string ⟨nm.toArray⟩] w (.bool (Ql (fs ls) nm)) :=
 fun w' hb=>Vh w' a ls.length c nm _ _ ((fE h c 1 nm).at hb) ((JG h c nm).at hb)
theorem vX{w1:World}{o:Obj}(h:Below (w.alloc o).heap.size (w.alloc o) w1):Below w.heap.size w w1:=(fe (tg _) o).trans (h.mono (pb (yE _ _)))
theorem bG{w1:World}{cs:Array Value}{T:TypeId}{fz:Nat × Nat}(h:Below (w.alloc (.cells cs T fz)).heap.size (w.alloc (.cells cs T fz)) w1)(j:Nat):w1.cell? ⟨w.heap.size,j,none⟩=cs[j]? := by
 have h1:w1.heap[w.heap.size]? = some (.cells cs T fz):=by rw[h.block _ (yE _ _)];exact zH _ _
 simp only[World.cell?,h1];rfl
theorem XQ(w:World)(a:Option Addr)(c:Nat)(ls:List LX)(x:zN)(h:tG w a ls) :
 Calls Tryz.prog 156 #[.slice a ls.length c,kN x] w fun e w'=>e=.returned (.bool (vE (fs ls) x))/\Below w.heap.size w w':=by
 obtain⟨kd,le,ri,nm,mk,ot,nu⟩:=x;have HC:=zA (JG h c nm);have HF:=zA (fE h c 2 nm);have HN:=zA (fE h c 1 nm);have HO:=zA (fE h c 1 ot);have zK8:=h.few;clear h;unfold kN;by_cases k5:kd=5
 ·have HR:Hid (vE (fs ls) ⟨kd,le,ri,nm,mk,ot,nu⟩=pB (fs ls) nm):=by unfold Hid vE;rw[tr k5]
  have b5:(kd==5)=true:=by simpa using k5
  clear k5 HF HN HO
  go_enter Tryz.func156,Tryz.ntmps156
  go_wp2_with fail
  refine(HC.out _ (fe (tg _) _)).mono ?_;rintro e w1 ⟨rfl,hb1⟩;have HB1:Hid (Below w.heap.size w w1):=vX hb1;clear hb1;go_wp2_with fail
  go_ret
  exact⟨zF HR.out.symm,HB1.out⟩
 have b5:(kd==5)=false:=by simpa using k5
 by_cases k6:kd=6
 ·have HR:Hid (vE (fs ls) ⟨kd,le,ri,nm,mk,ot,nu⟩=uP (fs ls) 2 nm):=by unfold Hid vE;rw[tj k5,tr k6]
  have b6:(kd==6)=true:=by simpa using k6
  clear k5 k6 HC HN HO
  go_enter Tryz.func156,Tryz.ntmps156
  go_wp2_with fail
  refine(HF.out _ (fe (tg _) _)).mono ?_;rintro e w1 ⟨rfl,hb1⟩;have HB1:Hid (Below w.heap.size w w1):=vX hb1;clear hb1;go_wp2_with fail
  go_ret
  exact⟨zF HR.out.symm,HB1.out⟩
 have b6:(kd==6)=false:=by simpa using k6
 by_cases k7:kd=7
 ·have HR:Hid (vE (fs ls) ⟨kd,le,ri,nm,mk,ot,nu⟩=((decide (ot=[]) || uP (fs ls) 1 ot)&&uP (fs ls) 1 nm)):=by unfold Hid vE;rw[tj k5,tj k6,tr k7]
  have b7:(kd==7)=true:=by simpa using k7
  clear k5 k6 HC HF;generalize uP (fs ls) 1 ot=p at *;generalize uP (fs ls) 1 nm=q at *;by_cases ko:ot=[]
  ·have HR2:Hid (vE (fs ls) ⟨kd,le,ri,nm,mk,ot,nu⟩=q):=by unfold Hid;rw[HR.out,ty ko];rfl
   have bo:(ot==[])=true:=by simpa using ko
   clear HR ko k7
   go_enter Tryz.func156,Tryz.ntmps156
   go_wp2_with fail
   refine(HN.out _ (fe (tg _) _)).mono ?_;rintro e w1 ⟨rfl,hb1⟩;have HB1:Hid (Below w.heap.size w w1):=vX hb1;clear hb1;go_wp2_with fail
   go_ret
   exact⟨zF HR2.out.symm,HB1.out⟩
  ·have HR2:Hid (vE (fs ls) ⟨kd,le,ri,nm,mk,ot,nu⟩=(p&&q)):=by unfold Hid;rw[HR.out,tu ko];rfl
   have bo:(ot==[])=false:=by simpa using ko
   clear HR ko k7;cases p
   ·go_enter Tryz.func156,Tryz.ntmps156
    go_wp2_with fail
    refine(HO.out _ (fe (tg _) _)).mono ?_;rintro e w1 ⟨rfl,hb1⟩;have HB1:Hid (Below w.heap.size w w1):=vX hb1;clear hb1;go_wp2_with fail
    go_ret
    exact⟨zF HR2.out.symm,HB1.out⟩
   ·go_enter Tryz.func156,Tryz.ntmps156
    go_wp2_with fail
    refine(HO.out _ (fe (tg _) _)).mono ?_;rintro e w1 ⟨rfl,hb1⟩;have HB1:Hid (Below w.heap.size w w1):=vX hb1;have q1:=bG hb1;clear hb1;go_wp2_with fail
    refine(HN.out _ HB1.out).mono ?_;rintro e w2 ⟨rfl,hb2⟩;have HB2:Hid (Below w.heap.size w w2):=HB1.out.trans (hb2.mono HB1.out.size);clear hb2;go_wp2_with fail
    go_ret
    exact⟨zF HR2.out.symm,HB2.out⟩
 ·have HR:Hid (vE (fs ls) ⟨kd,le,ri,nm,mk,ot,nu⟩=true):=by unfold Hid vE;rw[tj k5,tj k6,tj k7]
  have b7:(kd==7)=false:=by simpa using k7
  clear k5 k6 k7 HC HF HN HO
  go_enter Tryz.func156,Tryz.ntmps156
  go_wp2_with fail
  go_ret
  exact⟨zF HR.out.symm,fe (tg _) _⟩
theorem XR(h:tG w a ls)(c:Nat)(x:zN):zBM 156 #[.slice a ls.length c,kN x] w (.bool (vE (fs ls) x)) :=
 fun w' hb=>XQ w' a c ls x (h.below hb (tg _))
theorem iG(w:World)(a:Option Addr)(c:Nat)(ls:List LX)(i:Nat)(hi:i<ls.length)(hc:ls.length<=c)(h:tG w a ls) :
 Calls Tryz.prog 113 #[.slice a ls.length c,.int .i64 i] w fun e w'=>e=.returned (.int .i64 (oH (fs ls) i))/\Below w.heap.size w w':=by
 have zK8:=h.few;have HR:Hid (oH (fs ls) i=if uP ((fs ls).take i) 1 (pT ls i).1.name || (uP ((fs ls).take i) 2 (pT ls i).1.name || pB (fs ls) (pT ls i).1.name) then 4 else 0):=by unfold Hid oH;rw[tE]
 have H1:=zA (wQ h c 1 (pT ls i).1.name i hi);have H2:=zA (wQ h c 2 (pT ls i).1.name i hi);have H3:=zA (JG h c (pT ls i).1.name);obtain⟨gl,sa,sn,sc,na,nn,nc,rfl,hgl,⟨c0,c1,c2,c3,c4,c5,c6,c7,c8,c9,c10⟩,_,_⟩:=h.line hi;clear h c0 c2 c3 c4 c5 c6 c7 c8 c9 c10;generalize (pT ls i).1.name=nm at *;generalize uP ((fs ls).take i) 1 nm=p at *;generalize uP ((fs ls).take i) 2 nm=q at *;generalize pB (fs ls) nm=r at *;cases p
 ·cases q
  ·go_enter Tryz.func113,Tryz.ntmps113
   go_wp2_with fail
   refine(H1.out _ (tl _ _)).mono ?_;rintro e w1 ⟨rfl,hb1⟩;have HB1:=zA hb1;clear hb1;go_wp2_with fail
   refine(H2.out _ HB1.out).mono ?_;rintro e w2 ⟨rfl,hb2⟩;have HB2:Hid (Below w.heap.size w w2):=HB1.out.trans (hb2.mono HB1.out.size);clear hb2;go_wp2_with fail
   refine(H3.out _ HB2.out).mono ?_;rintro e w3 ⟨rfl,hb3⟩;have HB3:Hid (Below w.heap.size w w3):=HB2.out.trans (hb3.mono HB2.out.size);clear hb3;cases r
   ·go_wp2_with fail
    go_ret
    exact⟨yR HR.out.symm,HB3.out⟩
   ·go_wp2_with fail
    go_ret
    exact⟨yR HR.out.symm,HB3.out⟩
  ·go_enter Tryz.func113,Tryz.ntmps113
   go_wp2_with fail
   refine(H1.out _ (tl _ _)).mono ?_;rintro e w1 ⟨rfl,hb1⟩;have HB1:=zA hb1;clear hb1;go_wp2_with fail
   refine(H2.out _ HB1.out).mono ?_;rintro e w2 ⟨rfl,hb2⟩;have HB2:Hid (Below w.heap.size w w2):=HB1.out.trans (hb2.mono HB1.out.size);clear hb2;go_wp2_with fail
   go_ret
   exact⟨yR HR.out.symm,HB2.out⟩
 ·go_enter Tryz.func113,Tryz.ntmps113
  go_wp2_with fail
  refine(H1.out _ (tl _ _)).mono ?_;rintro e w1 ⟨rfl,hb1⟩;have HB1:=zA hb1;clear hb1;go_wp2_with fail
  go_ret
  exact⟨yR HR.out.symm,HB1.out⟩
def vN(nm:Bs):List Bs->Nat->Int
 | [],_ => -1
 | x::r,i=>if x=nm then (i:Int) else vN nm r (i+1)
def zJ(zJP:List Bs)(nm:Bs):Int:=vN nm zJP 0
def vO:List zE->List Bs->List Bs
 | [],acc=>acc
 | x::r,acc=>vO r (if x.kind=3/\zJ acc x.conc<0 then acc++[x.conc] else acc)
def yY(ls:List zE):List Bs:=vO ls []
def oC:List zE->List Bs->List Bs
 | [],acc=>acc
 | x::r,acc=>oC r (if x.kind=3 then acc++[x.name] else acc)
def uY(ls:List zE):List Bs:=oC ls []
theorem Z8:∀i:Nat,-1<=vN nm l i/\vN nm l i<(i:Int)+l.length:=by
 induction l with
 | nil=>intro i;simp[vN];omega
 | cons x r ih=>intro i;rw[vN];split
                ·simp;omega
                ·have:=ih (i+1);simp only[tz];omega
theorem aI(i:Nat)(h:i<l.length):vN nm (l.drop i) i=if l.getD i []=nm then (i:Int) else vN nm (l.drop (i+1)) (i+1):=by
 rw[pi h,vN];simp[List.getD,h]
theorem Vp(ls:List zE)(i:Nat)(acc:List Bs)(h:i<ls.length):vO (ls.drop i) acc=vO (ls.drop (i+1)) (if (lA ls i).kind=3/\zJ acc (lA ls i).conc<0 then acc++[(lA ls i).conc] else acc):=by
 rw[pi h,vO];simp[lA,List.getD,h]
theorem B1(ls:List zE)(i:Nat)(acc:List Bs)(h:i<ls.length):oC (ls.drop i) acc=oC (ls.drop (i+1)) (if (lA ls i).kind=3 then acc++[(lA ls i).name] else acc):=by
 rw[pi h,oC];simp[lA,List.getD,h]
def vH(l:List Bs):List Value:=l.map fun s=>Value.string ⟨s.toArray⟩
structure Zl(w:World)(a:Option Addr)(zJP:List Bs):Prop where
 blk:0<zJP.length->∃g,a=some ⟨g,0,none⟩/\∀i,i<zJP.length->w.cell? ⟨g,i,none⟩=some (.string ⟨(zJP.getD i []).toArray⟩)
 few:zJP.length<=10000
theorem Y4(zJP:List Bs)(i:Nat)(h:i<zJP.length):(vH zJP)[i]? = some (.string ⟨(zJP.getD i []).toArray⟩):=by
 simp[vH,List.getD,h]
theorem CC{B:Nat}{v:Value}{zJP:List Bs}(h:w.ownsRow B 9 1 v zJP.length (vH zJP))(hf:zJP.length<=10000):∃a c,v=.slice a zJP.length c/\Zl w a zJP:=by
 rcases h.2 with ⟨h1,h2⟩|⟨g,cap,yT,h1,_,h3,_,_,_,h7⟩
 ·exact⟨none,0,by rw[h1,h2],⟨fun h0=>by omega,hf⟩⟩
 ·refine⟨some ⟨g,0,none⟩,cap,h1,⟨fun _=>⟨g,rfl,fun i hi=>xE h3 (n:=zJP.length*1) h7 (Y4 zJP i hi)⟩,hf⟩⟩
theorem Xp(w:World)(a:Option Addr)(c:Nat)(zJP:List Bs)(nm:Bs)(h:Zl w a zJP) :
 Calls Tryz.prog 116 #[.slice a zJP.length c,.string ⟨nm.toArray⟩] w fun e w'=>e=.returned (.int .i64 (zJ zJP nm))/\w'=w:=by
 have HS:=zA h;have zK8:=h.few;clear h
 go_enter Tryz.func116,Tryz.ntmps116
 go_wp2_with fail
 go_loop [9] (fun iv=>∃(i:Nat),i<=zJP.length/\iv=.int .i64 i/\Hid (vN nm (zJP.drop i) i=zJ zJP nm)) (fun iv=>zJP.length-(intOf iv).toNat)
 case atStart=>exact⟨0,p7 _,rfl,zA rfl⟩
 case round =>
  obtain⟨i,hi,rfl,HE⟩:=hrel;by_cases zJS:i<zJP.length
  ·obtain⟨g,rfl,zKC⟩:=HS.out.blk (by omega)
   have hc:=zKC i zJS;have hE:=HE.out;rw[aI nm zJP i zJS]at hE;have HE2:=zA hE;clear HE hE zKC;generalize zJP.getD i []=s at *;by_cases k1:s=nm
   ·have HE3:Hid (zJ zJP nm=i):=by have:=HE2.out;rw[tr k1]at this;exact this.symm
    have b1:(s==nm)=true:=by simpa using k1
    clear HE2 k1;go_wp2_with fail
    go_ret
    exact⟨yR HE3.out.symm,rfl⟩
   ·have HE3:Hid (vN nm (zJP.drop (i+1)) (i+1)=zJ zJP nm):=by have:=HE2.out;rw[tj k1]at this;exact this
    have b1:(s==nm)=false:=by simpa using k1
    clear HE2 k1;go_wp2_with fail
    go_round
    case rel=>exact⟨i+1,by omega,by go_num,HE3⟩
    case measure=>simp[intOf];omega
  ·have HE3:Hid (zJ zJP nm = -1):=by have:=HE.out;rw[pe (by omega)]at this;exact this.symm
   clear HE;go_wp2_with fail
   go_ret
   exact⟨yR HE3.out.symm,rfl⟩
theorem rJ:(Tryz.prog.info? 9).map (fun i=>(i.zero,i.size,i.bytes))=some (some (.string ⟨#[]⟩),1,16):=by kernel_rfl
theorem Qm(s:Bs):vH (l++[s])=vH l++[.string ⟨s.toArray⟩]:=by simp[vH]
theorem sI(w:World)(a:Option Addr)(c:Nat)(ls:List LX)(h:tG w a ls) :
 Calls Tryz.prog 80 #[.slice a ls.length c] w fun e w'=>∃v,e=.returned v/\w'.ownsRow w.heap.size 9 1 v (yY (fs ls)).length (vH (yY (fs ls)))/\(yY (fs ls)).length<=ls.length/\Below w.heap.size w w':=by
 obtain⟨i0,hi0,hz0,hz1,hz2⟩:=info_parts rJ;have HL:=zA h;have zK8:=h.few;obtain⟨B,hB⟩:∃B,B=w.heap.size:=⟨_,rfl⟩;have HB0:=zA hB;clear h hB
 go_enter Tryz.func80,Tryz.ntmps80
 go_wp2_with fail
 go_loopw [3,9] (fun ov iv wr=>∃(i:Nat) (acc:List Bs),i<=ls.length/\acc.length<=i/\iv=.int .i64 i/\Hid (wr.ownsRow B 9 1 ov acc.length (vH acc))/\Hid (Below B w wr)/\Hid (vO ((fs ls).drop i) acc=yY (fs ls))) (fun _ iv _=>ls.length-(intOf iv).toNat)
 case atStart=>exact⟨0,[],p7 _,tg _,rfl,zA ⟨rfl,.inr ⟨w.heap.size,0,#[],rfl,by rw[HB0.out];exact tg _,zH _ _,tg _,p7 _,rfl,rfl⟩⟩,zA (fe (by rw[HB0.out];exact tg _) _),zA rfl⟩
 case round =>
  obtain⟨i,acc,hi,hacc,rfl,HO,HB,HE⟩:=hrel;by_cases zJS:i<ls.length
  ·obtain⟨gl,sa,sn,sc,na,nn,nc,rfl,hgl,⟨c0,c1,c2,c3,c4,c5,c6,c7,c8,c9,c10⟩,_,_⟩:=(HL.out.below HB.out (by rw[HB0.out];exact tg _)).line zJS
   have hE:=HE.out;rw[Vp _ i _ (by simpa using zJS),tE]at hE;have HE2:=zA hE;have zK2:B<=wr.heap.size:=by have:=HB.out.size;have h2:=HB0.out;omega
   obtain⟨oa,oc,rfl,hstr⟩:=CC HO.out (by omega);have HF:=zA (fun w' (hb:Below wr.heap.size wr w') nm=>Xp w' oa oc acc nm ⟨fun h0=>let ⟨g,e,p⟩:=hstr.blk h0;⟨g,e,fun j hj=>by rw[hb.cell (p:=⟨g,j,none⟩) (by rcases py g wr.heap.size with h1|h1;exact h1;have:=p j hj;rw[World.cell?,pq (by simpa using h1)]at this;cases this)];exact p j hj⟩,hstr.few⟩);clear HE hE hstr;generalize (pT ls i).1=x at *;obtain⟨kd,n1,lo,hi',cc,S,N,ro,te,de,lw⟩:=x;simp only at c0 c1 c2 c3 c4 c5 c6 c7 c8 c9 c10;by_cases k1:kd=3
   ·have b1:(kd==3)=true:=by simpa using k1
    by_cases k2:zJ acc cc<0
    ·have HE3:Hid (vO ((fs ls).drop (i+1)) (acc++[cc])=yY (fs ls)):=by have:=HE2.out;rw[tr ⟨k1,k2⟩]at this;exact this
     clear HE2 k1;go_wp2_with fail
     refine(HF.out _ (fe (tg _) _) cc).mono ?_;rintro e w1 ⟨rfl,hw⟩;obtain rfl:=hw.symm
     go_wp2_with (at_builtin;refine wpList_append_own _ rfl _ _ 70 rfl B 9 i0 _ 1 16 Tryz.underlying70 hi0 hz0 hz1 hz2 rfl (by decide) _ _ _ rfl ((HO.out.alloc _).alloc _) ⟨wr.heap.size+1,0,none⟩ 1 1 [.string ⟨cc.toArray⟩] rfl rfl ?c1 ?c2 ?c3 ?c4 ?c5 ?_)
     case c1=>exact World.news_of_block (heap_alloc2_new wr _ _)
     case c2=>intro u hu;simp at hu;subst hu;rfl
     case c3=>unfold maxLen;omega
     case c4=>omega
     case c5=>simp;omega
     intro v' w2 zK0 zJT _;have HB2:Hid (Below B w w2):=((HB.out.alloc zK2 _).alloc (p8 zK2 (pb (yE _ _))) _).grown zJT (by simp;omega) (zV HO.out);have HO2:Hid (w2.ownsRow B 9 1 v' (acc++[cc]).length (vH (acc++[cc]))):=by unfold Hid;rw[Qm];simpa using zK0
     clear zJT zK0;go_wp2_with fail
     go_roundw
     case rel=>exact⟨i+1,acc++[cc],by omega,by simp;omega,by go_num,HO2,HB2,HE3⟩
     case measure=>simp[intOf];omega
    ·have HE3:Hid (vO ((fs ls).drop (i+1)) acc=yY (fs ls)):=by have:=HE2.out;rw[tj (fun h=>k2 h.2)]at this;exact this
     have k3:decide (zJ acc cc<0)=false:=tu k2;clear HE2 k1;go_wp2_with fail
     refine(HF.out _ (fe (tg _) _) cc).mono ?_;rintro e w1 ⟨rfl,hw⟩;obtain rfl:=hw.symm;go_wp2_with fail
     go_roundw
     case rel=>exact⟨i+1,acc,by omega,by omega,by go_num,zA (HO.out.alloc _),zA (HB.out.alloc zK2 _),HE3⟩
     case measure=>simp[intOf];omega
   ·have HE3:Hid (vO ((fs ls).drop (i+1)) acc=yY (fs ls)):=by have:=HE2.out;rw[tj (fun h=>k1 h.1)]at this;exact this
    have b1:(kd==3)=false:=by simpa using k1
    clear HE2 k1;go_wp2_with fail
    go_roundw
    case rel=>exact⟨i+1,acc,by omega,by omega,by go_num,zA (HO.out.alloc _),zA (HB.out.alloc zK2 _),HE3⟩
    case measure=>simp[intOf];omega
  ·have HE3:Hid (acc=yY (fs ls)):=by have:=HE.out;rw[pe (by simp;omega)]at this;exact this
   clear HE;go_wp2_with fail
   go_ret
   exact⟨_,rfl,by rw[<-HE3.out,<-HB0.out];exact HO.out,by rw[<-HE3.out];omega,by rw[<-HB0.out];exact HB.out⟩
theorem Jo(w:World)(a:Option Addr)(c:Nat)(ls:List LX)(h:tG w a ls) :
 Calls Tryz.prog 81 #[.slice a ls.length c] w fun e w'=>∃v,e=.returned v/\w'.ownsRow w.heap.size 9 1 v (uY (fs ls)).length (vH (uY (fs ls)))/\(uY (fs ls)).length<=ls.length/\Below w.heap.size w w':=by
 obtain⟨i0,hi0,hz0,hz1,hz2⟩:=info_parts rJ;have HL:=zA h;have zK8:=h.few;obtain⟨B,hB⟩:∃B,B=w.heap.size:=⟨_,rfl⟩;have HB0:=zA hB;clear h hB
 go_enter Tryz.func81,Tryz.ntmps81
 go_wp2_with fail
 go_loopw [3,9] (fun ov iv wr=>∃(i:Nat) (acc:List Bs),i<=ls.length/\acc.length<=i/\iv=.int .i64 i/\Hid (wr.ownsRow B 9 1 ov acc.length (vH acc))/\Hid (Below B w wr)/\Hid (oC ((fs ls).drop i) acc=uY (fs ls))) (fun _ iv _=>ls.length-(intOf iv).toNat)
 case atStart=>exact⟨0,[],p7 _,tg _,rfl,zA ⟨rfl,.inr ⟨w.heap.size,0,#[],rfl,by rw[HB0.out];exact tg _,zH _ _,tg _,p7 _,rfl,rfl⟩⟩,zA (fe (by rw[HB0.out];exact tg _) _),zA rfl⟩
 case round =>
  obtain⟨i,acc,hi,hacc,rfl,HO,HB,HE⟩:=hrel;by_cases zJS:i<ls.length
  ·obtain⟨gl,sa,sn,sc,na,nn,nc,rfl,hgl,⟨c0,c1,c2,c3,c4,c5,c6,c7,c8,c9,c10⟩,_,_⟩:=(HL.out.below HB.out (by rw[HB0.out];exact tg _)).line zJS
   have hE:=HE.out;rw[B1 _ i _ (by simpa using zJS),tE]at hE;have HE2:=zA hE;have zK2:B<=wr.heap.size:=by have:=HB.out.size;have h2:=HB0.out;omega
   clear HE hE;generalize (pT ls i).1=x at *;obtain⟨kd,n1,lo,hi',cc,S,N,ro,te,de,lw⟩:=x;simp only at c0 c1 c2 c3 c4 c5 c6 c7 c8 c9 c10;by_cases k1:kd=3
   ·have b1:(kd==3)=true:=by simpa using k1
    have HE3:Hid (oC ((fs ls).drop (i+1)) (acc++[n1])=uY (fs ls)):=by have:=HE2.out;rw[tr k1]at this;exact this
    clear HE2 k1
    go_wp2_with (at_builtin;refine wpList_append_own _ rfl _ _ 70 rfl B 9 i0 _ 1 16 Tryz.underlying70 hi0 hz0 hz1 hz2 rfl (by decide) _ _ _ rfl ((HO.out.alloc _).alloc _) ⟨wr.heap.size+1,0,none⟩ 1 1 [.string ⟨n1.toArray⟩] rfl rfl ?c1 ?c2 ?c3 ?c4 ?c5 ?_)
    case c1=>exact World.news_of_block (heap_alloc2_new wr _ _)
    case c2=>intro u hu;simp at hu;subst hu;rfl
    case c3=>unfold maxLen;omega
    case c4=>omega
    case c5=>simp;omega
    intro v' w2 zK0 zJT _;have HB2:Hid (Below B w w2):=((HB.out.alloc zK2 _).alloc (p8 zK2 (pb (yE _ _))) _).grown zJT (by simp;omega) (zV HO.out);have HO2:Hid (w2.ownsRow B 9 1 v' (acc++[n1]).length (vH (acc++[n1]))):=by unfold Hid;rw[Qm];simpa using zK0
    clear zJT zK0;go_wp2_with fail
    go_roundw
    case rel=>exact⟨i+1,acc++[n1],by omega,by simp;omega,by go_num,HO2,HB2,HE3⟩
    case measure=>simp[intOf];omega
   ·have HE3:Hid (oC ((fs ls).drop (i+1)) acc=uY (fs ls)):=by have:=HE2.out;rw[tj k1]at this;exact this
    have b1:(kd==3)=false:=by simpa using k1
    clear HE2 k1;go_wp2_with fail
    go_roundw
    case rel=>exact⟨i+1,acc,by omega,by omega,by go_num,zA (HO.out.alloc _),zA (HB.out.alloc zK2 _),HE3⟩
    case measure=>simp[intOf];omega
  ·have HE3:Hid (acc=uY (fs ls)):=by have:=HE.out;rw[pe (by simp;omega)]at this;exact this
   clear HE;go_wp2_with fail
   go_ret
   exact⟨_,rfl,by rw[<-HE3.out,<-HB0.out];exact HO.out,by rw[<-HE3.out];omega,by rw[<-HB0.out];exact HB.out⟩
end Go.Proofs.YtnbpdffdnphbeabGreatDoor
