import Derived.Test.YtnbpdffdnphbeabGreatDoorPGraph
set_option maxHeartbeats 1000000
namespace Go.Proofs.YtnbpdffdnphbeabGreatDoor
open Go.RowKit
variable{B:Nat}{a:Option Addr}{w' w:World}(ls:List LX)(k:Int)
theorem ZR.below{gN:Nat}{yT:Array Value}{N:List zN}(h:ZR w gN yT N)(hb:Below B w w')(hB:w.heap.size<=B):ZR w' gN yT N:=by
 refine⟨?_,h.row⟩;rw[hb.block gN (tm h.lt hB)];exact h.blk
theorem ZP.below{gS:Nat}{yT:Array Value}{S:List yQ}(h:ZP w gS yT S)(hb:Below B w w')(hB:w.heap.size<=B):ZP w' gS yT S:=by
 refine⟨?_,h.row⟩;rw[hb.block gS (tm h.lt hB)];exact h.blk
theorem Ub.below{gl:Nat}{yT:Array Value}{ls:List LX}(h:Ub w gl yT ls)(hb:Below B w w')(hB:w.heap.size<=B):Ub w' gl yT ls:=by
 refine⟨?_,h.row⟩;rw[hb.block gl (tm h.lt hB)];exact h.blk
theorem XF.below{x:LX}(h:XF w x)(hb:Below B w w')(hB:w.heap.size<=B):XF w' x :=
 ⟨h.s1,h.s2,fun h0=>let ⟨g,c,yT,e,p⟩:=h.sum h0;⟨g,c,yT,e,p.below hb hB⟩,fun h0=>let ⟨g,c,yT,e,p⟩:=h.nod h0;⟨g,c,yT,e,p.below hb hB⟩⟩
structure ZF(w:World)(x:LX):Prop where
 b:XF w x
 g:oT x.1
 nds:x.1.nd.length<=maxLen
theorem ZF.below{x:LX}(h:ZF w x)(hb:Below B w w')(hB:w.heap.size<=B):ZF w' x:=⟨h.b.below hb hB,h.g,h.nds⟩
structure tG(w:World)(a:Option Addr)(ls:List LX):Prop where
 blk:0<ls.length->∃gl yT,a=some ⟨gl,0,none⟩/\Ub w gl yT ls
 rows:∀x∈ls,ZF w x
 few:ls.length<=10000
theorem tG.below{ls:List LX}(h:tG w a ls)(hb:Below B w w')(hB:w.heap.size<=B):tG w' a ls :=
 ⟨fun h0=>let ⟨gl,yT,e,p⟩:=h.blk h0;⟨gl,yT,e,p.below hb hB⟩,fun x hx=>(h.rows x hx).below hb hB,h.few⟩
theorem BO(n:Nat)(h:n<=ls.length):(mL ls).take (n*11)=mL (ls.take n):=by
 induction ls generalizing n with
 | nil=>simp[mL]
 | cons x r ih =>
   cases n with
   | zero=>simp[mL]
   | succ n =>
     have e:∀(y:LX) (l:List LX),mL (y::l)=sF y++mL l:=fun y l=>by simp[mL]
     have hl:(sF x).length=11:=rfl;rw[List.take_succ_cons,e,e,List.take_append,hl,List.take_of_length_le (by rw[hl];omega),show (n+1)*11-11=n*11 by omega,ih n (by simpa using h)]
theorem tG.take{ls:List LX}(h:tG w a ls)(n:Nat):tG w a (ls.take n):=by
 refine⟨fun h0=>?_,fun x hx=>h.rows x (List.mem_of_mem_take hx),by have:=h.few;rw[cb];omega⟩;rw[cb]at h0;obtain⟨gl,yT,e,p⟩:=h.blk (by omega);refine⟨gl,yT,e,p.blk,?_⟩;rcases Nat.le_total n ls.length with hn|hn
 ·rw[cb,Nat.min_eq_left hn,<-BO ls n hn,<-p.row,List.take_take,Nat.min_eq_left (by omega)]
 ·rw[List.take_of_length_le hn];exact p.row
structure LnAt(w:World)(gl i:Nat)(x:zE)(sv nv:Value):Prop where
 c0:w.cell? ⟨gl,i*11,none⟩=some (.int .i64 x.kind)
 c1:w.cell? ⟨gl,i*11+1,none⟩=some (.string ⟨x.name.toArray⟩)
 c2:w.cell? ⟨gl,i*11+2,none⟩=some (.int .i64 x.low)
 c3:w.cell? ⟨gl,i*11+3,none⟩=some (.int .i64 x.high)
 c4:w.cell? ⟨gl,i*11+4,none⟩=some (.string ⟨x.conc.toArray⟩)
 c5:w.cell? ⟨gl,i*11+5,none⟩=some sv
 c6:w.cell? ⟨gl,i*11+6,none⟩=some nv
 c7:w.cell? ⟨gl,i*11+7,none⟩=some (.int .i64 x.root)
 c8:w.cell? ⟨gl,i*11+8,none⟩=some (.int .i64 x.tests)
 c9:w.cell? ⟨gl,i*11+9,none⟩=some (.int .i64 x.dep)
 c10:w.cell? ⟨gl,i*11+10,none⟩=some (.string ⟨x.lower.toArray⟩)
theorem tG.line{ls:List LX}(h:tG w a ls){i:Nat}(hi:i<ls.length) :
 ∃gl sa sn sc na nn nc,a=some ⟨gl,0,none⟩/\gl<w.heap.size/\LnAt w gl i (pT ls i).1 (.slice sa sn sc) (.slice na nn nc)/\(pT ls i).2=(.slice sa sn sc,.slice na nn nc)/\ZF w (pT ls i):=by
 obtain⟨gl,yT,rfl,p⟩:=h.blk (by omega);have hb:=h.rows _ (Ye hi);obtain⟨sa,sn,sc,e1⟩:=hb.b.s1;obtain⟨na,nn,nc,e2⟩:=hb.b.s2;have hx:=fun j hj (u:Value) hu=>p.cell hi j hj (u:=u) hu;refine⟨gl,sa,sn,sc,na,nn,nc,rfl,p.lt,⟨hx 0 (by omega) _ rfl,hx 1 (by omega) _ rfl,hx 2 (by omega) _ rfl,hx 3 (by omega) _ rfl,hx 4 (by omega) _ rfl,hx 5 (by omega) _ (by rw[<-e1];rfl),hx 6 (by omega) _ (by rw[<-e2];rfl),hx 7 (by omega) _ rfl,hx 8 (by omega) _ rfl,hx 9 (by omega) _ rfl,hx 10 (by omega) _ rfl⟩,?_,hb⟩;rw[<-e1,<-e2]
theorem oO{α:Type}(p:α->Bool)(d:α)(l:List α)(i:Nat)(h:i<l.length):(l.drop i).any p=(p (l.getD i d) || (l.drop (i+1)).any p):=by
 rw[pi h,cw];simp[List.getD,h]
abbrev fs(ls:List LX):List zE:=ls.map Prod.fst
theorem tE(i:Nat):lA (fs ls) i=(pT ls i).1:=by
 unfold lA pT;simp only[List.getD,List.getElem?_map];cases ls[i]? <;> rfl
theorem FS9(w:World)(a:Option Addr)(c:Nat)(ls:List LX)(k:Int)(nm:Bs)(h:tG w a ls) :
 Calls Tryz.prog 153 #[.slice a ls.length c,.int .i64 k,.string ⟨nm.toArray⟩] w fun e w'=>e=.returned (.bool (uP (fs ls) k nm))/\Below w.heap.size w w':=by
 have HL:=zA h;have zK8:=h.few;clear h
 go_enter Tryz.func153,Tryz.ntmps153
 go_wp2_with fail
 go_loopw [11] (fun iv wr=>∃(i:Nat),i<=ls.length/\iv=.int .i64 i/\Hid (Below w.heap.size w wr)/\Hid (((fs ls).drop i).any (Xa k nm)=uP (fs ls) k nm)) (fun iv _=>ls.length-(intOf iv).toNat)
 case atStart=>exact⟨0,p7 _,rfl,zA (tl _ _),zA rfl⟩
 case round =>
  obtain⟨i,hi,rfl,HB,HE⟩:=hrel;by_cases zJS:i<ls.length
  ·obtain⟨gl,sa,sn,sc,na,nn,nc,rfl,hgl,⟨c0,c1,c2,c3,c4,c5,c6,c7,c8,c9,c10⟩,_,_⟩:=(HL.out.below HB.out (tg _)).line zJS
   have hE:=HE.out;rw[oO _ zD6 _ i (by simpa using zJS),show (fs ls).getD i zD6=lA (fs ls) i from rfl,tE]at hE;have HE2:=zA hE;have zK2:=HB.out.size;clear HE hE;generalize (pT ls i).1=x at *;obtain⟨kd,n1,lo,hi',cc,S,N,ro,te,de,lw⟩:=x;simp only at c0 c1 c2 c3 c4 c5 c6 c7 c8 c9 c10;by_cases k1:kd=k
   ·by_cases k2:n1=nm
    ·have HE3:Hid (uP (fs ls) k nm=true):=by have:=HE2.out;unfold Hid;rw[<-this];simp[Xa,k1,k2]
     have b1:(kd==k)=true:=by simpa using k1
     have b2:(n1==nm)=true:=by simpa using k2
     clear HE2 k1 k2;go_wp2_with fail
     go_ret
     exact⟨zF HE3.out.symm,HB.out.alloc zK2 _⟩
    ·have HE3:Hid (((fs ls).drop (i+1)).any (Xa k nm)=uP (fs ls) k nm):=by have:=HE2.out;unfold Hid;rw[<-this];simp[Xa,k2]
     have b1:(kd==k)=true:=by simpa using k1
     have b2:(n1==nm)=false:=by simpa using k2
     clear HE2 k1 k2;go_wp2_with fail
     go_roundw
     case rel=>exact⟨i+1,by omega,by go_num,zA (HB.out.alloc zK2 _),HE3⟩
     case measure=>simp[intOf];omega
   ·have HE3:Hid (((fs ls).drop (i+1)).any (Xa k nm)=uP (fs ls) k nm):=by have:=HE2.out;unfold Hid;rw[<-this];simp[Xa,k1]
    have b1:(kd==k)=false:=by simpa using k1
    clear HE2 k1;go_wp2_with fail
    go_roundw
    case rel=>exact⟨i+1,by omega,by go_num,zA (HB.out.alloc zK2 _),HE3⟩
    case measure=>simp[intOf];omega
  ·have HE3:Hid (uP (fs ls) k nm=false):=by have:=HE.out;rw[pe (by simp;omega)]at this;exact this.symm
   clear HE;go_wp2_with fail
   go_ret
   exact⟨zF HE3.out.symm,HB.out⟩
theorem Gt(ls:List zE)(i:Nat)(h:i<ls.length):vB k (ls.drop i)=(if (lA ls i).kind=k then 1 else 0)+vB k (ls.drop (i+1)):=by
 rw[pi h,vB];simp[lA,List.getD,h]
theorem zF1(ls:List zE):vB k ls<=ls.length:=by
 induction ls with
 | nil=>exact tg _
 | cons x r ih=>rw[vB,tz];split <;> omega
theorem BS(p:zE->Bool)(ls:List zE)(i:Nat)(h:i<ls.length):cG p (ls.drop i) i=if p (lA ls i) then i else cG p (ls.drop (i+1)) (i+1):=by
 rw[pi h,cG];simp[lA,List.getD,h]
theorem wW:(fs ls).length=ls.length:=by simp
theorem Xb(w:World)(a:Option Addr)(c:Nat)(ls:List LX)(nm:Bs)(h:tG w a ls) :
 Calls Tryz.prog 154 #[.slice a ls.length c,.string ⟨nm.toArray⟩] w fun e w'=>e=.returned (.bool (pB (fs ls) nm))/\Below w.heap.size w w':=by
 have HL:=zA h;have zK8:=h.few;clear h
 go_enter Tryz.func154,Tryz.ntmps154
 go_wp2_with fail
 go_loopw [9] (fun iv wr=>∃(i:Nat),i<=ls.length/\iv=.int .i64 i/\Hid (Below w.heap.size w wr)/\Hid (((fs ls).drop i).any (Da nm)=pB (fs ls) nm)) (fun iv _=>ls.length-(intOf iv).toNat)
 case atStart=>exact⟨0,p7 _,rfl,zA (tl _ _),zA rfl⟩
 case round =>
  obtain⟨i,hi,rfl,HB,HE⟩:=hrel;by_cases zJS:i<ls.length
  ·obtain⟨gl,sa,sn,sc,na,nn,nc,rfl,hgl,⟨c0,c1,c2,c3,c4,c5,c6,c7,c8,c9,c10⟩,_,_⟩:=(HL.out.below HB.out (tg _)).line zJS
   have hE:=HE.out;rw[oO _ zD6 _ i (by simpa using zJS),show (fs ls).getD i zD6=lA (fs ls) i from rfl,tE]at hE;have HE2:=zA hE;have zK2:=HB.out.size;clear HE hE;generalize (pT ls i).1=x at *;obtain⟨kd,n1,lo,hi',cc,S,N,ro,te,de,lw⟩:=x;simp only at c0 c1 c2 c3 c4 c5 c6 c7 c8 c9 c10;by_cases k1:kd=3
   ·by_cases k2:cc=nm
    ·have HE3:Hid (pB (fs ls) nm=true):=by have:=HE2.out;unfold Hid;rw[<-this];simp[Da,k1,k2]
     have b1:(kd==3)=true:=by simpa using k1
     have b2:(cc==nm)=true:=by simpa using k2
     clear HE2 k1 k2;go_wp2_with fail
     go_ret
     exact⟨zF HE3.out.symm,HB.out.alloc zK2 _⟩
    ·have HE3:Hid (((fs ls).drop (i+1)).any (Da nm)=pB (fs ls) nm):=by have:=HE2.out;unfold Hid;rw[<-this];simp[Da,k2]
     have b1:(kd==3)=true:=by simpa using k1
     have b2:(cc==nm)=false:=by simpa using k2
     clear HE2 k1 k2;go_wp2_with fail
     go_roundw
     case rel=>exact⟨i+1,by omega,by go_num,zA (HB.out.alloc zK2 _),HE3⟩
     case measure=>simp[intOf];omega
   ·have HE3:Hid (((fs ls).drop (i+1)).any (Da nm)=pB (fs ls) nm):=by have:=HE2.out;unfold Hid;rw[<-this];simp[Da,k1]
    have b1:(kd==3)=false:=by simpa using k1
    clear HE2 k1;go_wp2_with fail
    go_roundw
    case rel=>exact⟨i+1,by omega,by go_num,zA (HB.out.alloc zK2 _),HE3⟩
    case measure=>simp[intOf];omega
  ·have HE3:Hid (pB (fs ls) nm=false):=by have:=HE.out;rw[pe (by simp;omega)]at this;exact this.symm
   clear HE;go_wp2_with fail
   go_ret
   exact⟨zF HE3.out.symm,HB.out⟩
theorem VC(w:World)(a:Option Addr)(c:Nat)(ls:List LX)(k:Int)(h:tG w a ls) :
 Calls Tryz.prog 109 #[.slice a ls.length c,.int .i64 k] w fun e w'=>e=.returned (.int .i64 (vB k (fs ls)))/\Below w.heap.size w w':=by
 have HL:=zA h;have zK8:=h.few;clear h
 go_enter Tryz.func109,Tryz.ntmps109
 go_wp2_with fail
 go_loopw [5,10] (fun nv iv wr=>∃(i n:Nat),i<=ls.length/\n<=i/\nv=.int .i64 n/\iv=.int .i64 i/\Hid (Below w.heap.size w wr)/\Hid (n+vB k ((fs ls).drop i)=vB k (fs ls))) (fun _ iv _=>ls.length-(intOf iv).toNat)
 case atStart=>exact⟨0,0,p7 _,tg _,rfl,rfl,zA (tl _ _),zA (by simp)⟩
 case round =>
  obtain⟨i,n,hi,hn,rfl,rfl,HB,HE⟩:=hrel;by_cases zJS:i<ls.length
  ·obtain⟨gl,sa,sn,sc,na,nn,nc,rfl,hgl,⟨c0,c1,c2,c3,c4,c5,c6,c7,c8,c9,c10⟩,_,_⟩:=(HL.out.below HB.out (tg _)).line zJS
   have hE:=HE.out;rw[Gt _ _ i (by simpa using zJS),tE]at hE;have HE2:=zA hE;have zK2:=HB.out.size;clear HE hE;generalize (pT ls i).1=x at *;obtain⟨kd,n1,lo,hi',cc,S,N,ro,te,de,lw⟩:=x;simp only at c0 c1 c2 c3 c4 c5 c6 c7 c8 c9 c10;by_cases k1:kd=k
   ·have HE3:Hid (n+1+vB k ((fs ls).drop (i+1))=vB k (fs ls)):=by have:=HE2.out;rw[tr k1]at this;unfold Hid;omega
    have b1:(kd==k)=true:=by simpa using k1
    clear HE2 k1;go_wp2_with fail
    go_roundw
    case rel=>exact⟨i+1,n+1,by omega,by omega,by go_num,by go_num,zA (HB.out.alloc zK2 _),HE3⟩
    case measure=>simp[intOf];omega
   ·have HE3:Hid (n+vB k ((fs ls).drop (i+1))=vB k (fs ls)):=by have:=HE2.out;rw[tj k1]at this;unfold Hid;omega
    have b1:(kd==k)=false:=by simpa using k1
    clear HE2 k1;go_wp2_with fail
    go_roundw
    case rel=>exact⟨i+1,n,by omega,by omega,rfl,by go_num,zA (HB.out.alloc zK2 _),HE3⟩
    case measure=>simp[intOf];omega
  ·have HE3:Hid (n=vB k (fs ls)):=by have:=HE.out;rw[pe (by simp;omega)]at this;exact this
   clear HE;go_wp2_with fail
   go_ret
   exact⟨yR (by rw[HE3.out]),HB.out⟩
theorem BR(w:World)(a:Option Addr)(c:Nat)(ls:List LX)(nm:Bs)(h:tG w a ls) :
 Calls Tryz.prog 157 #[.slice a ls.length c,.string ⟨nm.toArray⟩] w fun e w'=>e=.returned (.int .i64 (tF (fs ls) nm))/\Below w.heap.size w w':=by
 have HL:=zA h;have zK8:=h.few;clear h
 go_enter Tryz.func157,Tryz.ntmps157
 go_wp2_with fail
 go_loopw [9] (fun iv wr=>∃(i:Nat),i<=ls.length/\iv=.int .i64 i/\Hid (Below w.heap.size w wr)/\Hid (cG (Xa 3 nm) ((fs ls).drop i) i=tF (fs ls) nm)) (fun iv _=>ls.length-(intOf iv).toNat)
 case atStart=>exact⟨0,p7 _,rfl,zA (tl _ _),zA rfl⟩
 case round =>
  obtain⟨i,hi,rfl,HB,HE⟩:=hrel;by_cases zJS:i<ls.length
  ·obtain⟨gl,sa,sn,sc,na,nn,nc,rfl,hgl,⟨c0,c1,c2,c3,c4,c5,c6,c7,c8,c9,c10⟩,_,_⟩:=(HL.out.below HB.out (tg _)).line zJS
   have hE:=HE.out;rw[BS _ _ i (by simpa using zJS),tE]at hE;have HE2:=zA hE;have zK2:=HB.out.size;clear HE hE;generalize (pT ls i).1=x at *;obtain⟨kd,n1,lo,hi',cc,S,N,ro,te,de,lw⟩:=x;simp only at c0 c1 c2 c3 c4 c5 c6 c7 c8 c9 c10;by_cases k1:kd=3
   ·by_cases k2:n1=nm
    ·have HE3:Hid (tF (fs ls) nm=i):=by have:=HE2.out;unfold Hid;rw[<-this];simp[Xa,k1,k2]
     have b1:(kd==3)=true:=by simpa using k1
     have b2:(n1==nm)=true:=by simpa using k2
     clear HE2 k1 k2;go_wp2_with fail
     go_ret
     exact⟨yR (by rw[HE3.out]),HB.out.alloc zK2 _⟩
    ·have HE3:Hid (cG (Xa 3 nm) ((fs ls).drop (i+1)) (i+1)=tF (fs ls) nm):=by have:=HE2.out;unfold Hid;rw[<-this];simp[Xa,k2]
     have b1:(kd==3)=true:=by simpa using k1
     have b2:(n1==nm)=false:=by simpa using k2
     clear HE2 k1 k2;go_wp2_with fail
     go_roundw
     case rel=>exact⟨i+1,by omega,by go_num,zA (HB.out.alloc zK2 _),HE3⟩
     case measure=>simp[intOf];omega
   ·have HE3:Hid (cG (Xa 3 nm) ((fs ls).drop (i+1)) (i+1)=tF (fs ls) nm):=by have:=HE2.out;unfold Hid;rw[<-this];simp[Xa,k1]
    have b1:(kd==3)=false:=by simpa using k1
    clear HE2 k1;go_wp2_with fail
    go_roundw
    case rel=>exact⟨i+1,by omega,by go_num,zA (HB.out.alloc zK2 _),HE3⟩
    case measure=>simp[intOf];omega
  ·have HE3:Hid (tF (fs ls) nm=ls.length):=by have:=HE.out;rw[pe (by simp;omega)]at this;unfold Hid;rw[<-this];simp only[cG];omega
   clear HE;go_wp2_with fail
   go_ret
   exact⟨yR (by rw[HE3.out]),HB.out⟩
theorem zE0(w:World):Calls Tryz.prog 110 #[.int .i64 k] w fun e w'=>e=.returned (.int .i64 (ZK k))/\w'=w:=by
 by_cases h1:k=1
 ·subst h1
  go_enter Tryz.func110,Tryz.ntmps110
  go_wp2_with fail
  go_ret;exact⟨rfl,rfl⟩
 ·by_cases h2:k=2
  ·subst h2
   go_enter Tryz.func110,Tryz.ntmps110
   go_wp2_with fail
   go_ret;exact⟨rfl,rfl⟩
  ·by_cases h3:k=3
   ·subst h3
    go_enter Tryz.func110,Tryz.ntmps110
    go_wp2_with fail
    go_ret;exact⟨rfl,rfl⟩
   ·by_cases h4:k=4
    ·subst h4
     go_enter Tryz.func110,Tryz.ntmps110
     go_wp2_with fail
     go_ret;exact⟨rfl,rfl⟩
    ·have HR:Hid (ZK k=0):=by unfold Hid ZK;rw[tj h1,tj h2,tj h3,tj h4]
     have b1:(k==1)=false:=by simpa using h1
     have b2:(k==2)=false:=by simpa using h2
     have b3:(k==3)=false:=by simpa using h3
     have b4:(k==4)=false:=by simpa using h4
     clear h1 h2 h3 h4
     go_enter Tryz.func110,Tryz.ntmps110
     go_wp2_with fail
     go_ret;exact⟨yR HR.out.symm,rfl⟩
structure GD(w:World)(a:Option Addr)(S:List yQ):Prop where
 blk:0<S.length->∃g yT,a=some ⟨g,0,none⟩/\ZP w g yT S
 few:S.length<=maxLen
theorem GD.below{S:List yQ}(h:GD w a S)(hb:Below B w w')(hB:w.heap.size<=B):GD w' a S :=
 ⟨fun h0=>let ⟨g,yT,e,p⟩:=h.blk h0;⟨g,yT,e,p.below hb hB⟩,h.few⟩
structure zBA(w:World)(a:Option Addr)(N:List zN):Prop where
 blk:0<N.length->∃g yT,a=some ⟨g,0,none⟩/\ZR w g yT N
 few:N.length<=maxLen
theorem zBA.below{N:List zN}(h:zBA w a N)(hb:Below B w w')(hB:w.heap.size<=B):zBA w' a N :=
 ⟨fun h0=>let ⟨g,yT,e,p⟩:=h.blk h0;⟨g,yT,e,p.below hb hB⟩,h.few⟩
end Go.Proofs.YtnbpdffdnphbeabGreatDoor
