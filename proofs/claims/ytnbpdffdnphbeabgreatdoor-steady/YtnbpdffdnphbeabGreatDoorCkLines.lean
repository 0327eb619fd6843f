import Derived.Test.YtnbpdffdnphbeabGreatDoorPGraph
open Go.Proofs.Tryz
set_option maxHeartbeats 1000000
namespace Go.Proofs.YtnbpdffdnphbeabGreatDoor
open Go.RowKit
variable{B:Nat}{a:Option Addr}{w w':World}(ls:List LX)(k:Int)
theorem xT.below{gN:Nat}{yB:Array Value}{N:List zJ}(h:xT w gN yB N)(hb:Below B w w')(hB:w.heap.size<=B):xT w' gN yB N:=by
 refine⟨?_,h.row⟩;rw[hb.block gN (tq h.lt hB)];exact h.blk
theorem qP.below{gS:Nat}{yB:Array Value}{S:List yT}(h:qP w gS yB S)(hb:Below B w w')(hB:w.heap.size<=B):qP w' gS yB S:=by
 refine⟨?_,h.row⟩;rw[hb.block gS (tq h.lt hB)];exact h.blk
theorem Y7.below{gl:Nat}{yB:Array Value}{ls:List LX}(h:Y7 w gl yB ls)(hb:Below B w w')(hB:w.heap.size<=B):Y7 w' gl yB ls:=by
 refine⟨?_,h.row⟩;rw[hb.block gl (tq h.lt hB)];exact h.blk
theorem cR.below{x:LX}(h:cR w x)(hb:Below B w w')(hB:w.heap.size<=B):cR w' x :=
 ⟨h.s1,h.s2,λh0=>let ⟨g,c,yB,e,p⟩:=h.sum h0;⟨g,c,yB,e,p.below hb hB⟩,λh0=>let ⟨g,c,yB,e,p⟩:=h.EV h0;⟨g,c,yB,e,p.below hb hB⟩⟩
structure YY(w:World)(x:LX):Prop where
 b:cR w x
 g:bG x.1
 EC:x.1.nd.length<=maxLen
theorem YY.below{x:LX}(h:YY w x)(hb:Below B w w')(hB:w.heap.size<=B):YY w' x:=⟨h.b.below hb hB,h.g,h.EC⟩
structure tT(w:World)(a:Option Addr)(ls:List LX):Prop where
 blk:0<ls.length->∃gl yB,a=some ⟨gl,0,none⟩/\Y7 w gl yB ls
 rows:∀x∈ls,YY w x
 aj:ls.length<=10000
theorem tT.below{ls:List LX}(h:tT w a ls)(hb:Below B w w')(hB:w.heap.size<=B):tT w' a ls :=
 ⟨λh0=>let ⟨gl,yB,e,p⟩:=h.blk h0;⟨gl,yB,e,p.below hb hB⟩,λx hx=>(h.rows x hx).below hb hB,h.aj⟩
theorem DP(n:Nat)(h:n<=ls.length):(lJ ls).take (n*11)=lJ (ls.take n):=by
 induction ls generalizing n with
 | nil=>simp[lJ]
 | cons x r ih =>
   cases n with
   | zero=>simp[lJ]
   | succ n =>
     have e:∀(y:LX) (l:List LX),lJ (y::l)=eT y++lJ l:=λy l=>by simp[lJ]
     have hl:(eT x).length=11:=rfl;rw[List.take_succ_cons,e,e,List.take_append,hl,f8 (by rw[hl];omega),show (n+1)*11-11=n*11 by omega,ih n (by simpa using h)]
theorem tT.take{ls:List LX}(h:tT w a ls)(n:Nat):tT w a (ls.take n):=by
 refine⟨λh0=>?_,λx hx=>h.rows x (List.mem_of_mem_take hx),by have:=h.aj;rw[cq];omega⟩;rw[cq]at h0;obtain⟨gl,yB,e,p⟩:=h.blk (by omega);refine⟨gl,yB,e,p.blk,?_⟩;rcases Nat.le_total n ls.length with hn|hn
 ·rw[cq,Nat.min_eq_left hn,<-DP ls n hn,<-p.row,List.take_take,Nat.min_eq_left (by omega)]
 ·rw[f8 hn];exact p.row
structure LnAt(w:World)(gl i:Nat)(x:zE)(sv nv:Value):Prop where
 c0:w.cell? ⟨gl,i*11,none⟩=some (.int .i64 x.kind)
 c1:w.cell? ⟨gl,i*11+1,none⟩=some (.string ⟨x.name.toArray⟩)
 c2:w.cell? ⟨gl,i*11+2,none⟩=some (.int .i64 x.low)
 c3:w.cell? ⟨gl,i*11+3,none⟩=some (.int .i64 x.high)
 c4:w.cell? ⟨gl,i*11+4,none⟩=some (.string ⟨x.ae.toArray⟩)
 c5:w.cell? ⟨gl,i*11+5,none⟩=some sv
 c6:w.cell? ⟨gl,i*11+6,none⟩=some nv
 c7:w.cell? ⟨gl,i*11+7,none⟩=some (.int .i64 x.root)
 c8:w.cell? ⟨gl,i*11+8,none⟩=some (.int .i64 x.tests)
 c9:w.cell? ⟨gl,i*11+9,none⟩=some (.int .i64 x.dep)
 ax:w.cell? ⟨gl,i*11+10,none⟩=some (.string ⟨x.lower.toArray⟩)
theorem tT.line{ls:List LX}(h:tT w a ls){i:Nat}(hi:i<ls.length) :
 ∃gl sa sn sc na nn nc,a=some ⟨gl,0,none⟩/\gl<w.heap.size/\LnAt w gl i (pP ls i).1 (.slice sa sn sc) (.slice na nn nc)/\(pP ls i).2=(.slice sa sn sc,.slice na nn nc)/\YY w (pP ls i):=by
 obtain⟨gl,yB,rfl,p⟩:=h.blk (by omega);have hb:=h.rows _ (Z8 hi);obtain⟨sa,sn,sc,e1⟩:=hb.b.s1;obtain⟨na,nn,nc,e2⟩:=hb.b.s2;have hx:=λj hj (u:Value) hu=>p.cell hi j hj (u:=u) hu;refine⟨gl,sa,sn,sc,na,nn,nc,rfl,p.lt,⟨hx 0 (by omega) _ rfl,hx 1 (by omega) _ rfl,hx 2 (by omega) _ rfl,hx 3 (by omega) _ rfl,hx 4 (by omega) _ rfl,hx 5 (by omega) _ (by rw[<-e1];rfl),hx 6 (by omega) _ (by rw[<-e2];rfl),hx 7 (by omega) _ rfl,hx 8 (by omega) _ rfl,hx 9 (by omega) _ rfl,hx 10 (by omega) _ rfl⟩,?_,hb⟩;rw[<-e1,<-e2]
theorem sV{α:Type}(p:α->Bool)(d:α)(l:List α)(i:Nat)(h:i<l.length):(l.drop i).any p=(p (l.getD i d) || (l.drop (i+1)).any p):=by
 rw[ph h,fe];simp[List.getD,h]
abbrev fs(ls:List LX):List zE:=ls.map Prod.fst
theorem tZ(i:Nat):lA (fs ls) i=(pP ls i).1:=by
 unfold lA pP;simp only[List.getD,List.getElem?_map];cases ls[i]? <;> rfl
theorem um(w:World)(a:Option Addr)(c:Nat)(ls:List LX)(k:Int)(nm:Bs)(h:tT w a ls) :
 Calls prog 153 #[.slice a ls.length c,.int .i64 k,.string ⟨nm.toArray⟩] w λe w'=>e=.returned (.bool (kX (fs ls) k nm))/\Below w.heap.size w w':=by
 have HL:=zA h;have aF:=h.aj;clear h
 go_enter func153,ntmps153
 go_wp2_with fail
 go_loopw [11] (λiv wr=>∃(i:Nat),i<=ls.length/\iv=.int .i64 i/\Hid (Below w.heap.size w wr)/\Hid (((fs ls).drop i).any (Xs k nm)=kX (fs ls) k nm)) (λiv _=>ls.length-(intOf iv).toNat)
 case atStart=>exact⟨0,p8,rfl,zA (tl _ _),zA rfl⟩
 case round =>
  obtain⟨i,hi,rfl,HB,HE⟩:=hrel;by_cases aD:i<ls.length
  ·obtain⟨gl,sa,sn,sc,na,nn,nc,rfl,aG,⟨c0,c1,c2,c3,c4,c5,c6,c7,c8,c9,ax⟩,_,_⟩:=(HL.out.below HB.out (tg _)).line aD
   have hE:=HE.out;rw[sV _ Jn _ i (by simpa using aD),show (fs ls).getD i Jn=lA (fs ls) i from rfl,tZ]at hE;have aB:=zA hE;have aC:=HB.out.size;clear HE hE;generalize (pP ls i).1=x at *;obtain⟨kd,n1,lo,hi',cc,S,N,ro,te,de,lw⟩:=x;simp only at c0 c1 c2 c3 c4 c5 c6 c7 c8 c9 ax;by_cases k1:kd=k
   ·by_cases k2:n1=nm
    ·have aA:Hid (kX (fs ls) k nm=true):=by have:=aB.out;unfold Hid;rw[<-this];simp[Xs,k1,k2]
     have b1:(kd==k)=true:=(by simpa using k1);have b2:(n1==nm)=true:=(by simpa using k2);clear aB k1 k2;go_wp2_with fail
     go_ret
     exact⟨zG aA.out.symm,HB.out.alloc aC _⟩
    ·have aA:Hid (((fs ls).drop (i+1)).any (Xs k nm)=kX (fs ls) k nm):=by have:=aB.out;unfold Hid;rw[<-this];simp[Xs,k2]
     have b1:(kd==k)=true:=(by simpa using k1);have b2:(n1==nm)=false:=(by simpa using k2);clear aB k1 k2;go_wp2_with fail
     go_roundw
     case rel=>exact⟨i+1,by omega,by go_num,zA (HB.out.alloc aC _),aA⟩
     case measure=>simp[intOf];omega
   ·have aA:Hid (((fs ls).drop (i+1)).any (Xs k nm)=kX (fs ls) k nm):=by have:=aB.out;unfold Hid;rw[<-this];simp[Xs,k1]
    have b1:(kd==k)=false:=(by simpa using k1);clear aB k1;go_wp2_with fail
    go_roundw
    case rel=>exact⟨i+1,by omega,by go_num,zA (HB.out.alloc aC _),aA⟩
    case measure=>simp[intOf];omega
  ·have aA:Hid (kX (fs ls) k nm=false):=by have:=HE.out;rw[pf (by simp;omega)]at this;exact this.symm
   clear HE;go_wp2_with fail
   go_ret
   exact⟨zG aA.out.symm,HB.out⟩
theorem qx(ls:List zE)(i:Nat)(h:i<ls.length):vS k (ls.drop i)=(if (lA ls i).kind=k then 1 else 0)+vS k (ls.drop (i+1)):=by
 rw[ph h,vS];simp[lA,List.getD,h]
theorem NT(ls:List zE):vS k ls<=ls.length:=by
 induction ls with
 | nil=>exact tg _
 | cons x r ih=>rw[vS,pb];split <;> omega
theorem DT(p:zE->Bool)(ls:List zE)(i:Nat)(h:i<ls.length):mC p (ls.drop i) i=if p (lA ls i) then i else mC p (ls.drop (i+1)) (i+1):=by
 rw[ph h,mC];simp[lA,List.getD,h]
theorem Yr:(fs ls).length=ls.length:=by simp
theorem Qr(w:World)(a:Option Addr)(c:Nat)(ls:List LX)(nm:Bs)(h:tT w a ls) :
 Calls prog 154 #[.slice a ls.length c,.string ⟨nm.toArray⟩] w λe w'=>e=.returned (.bool (mQ (fs ls) nm))/\Below w.heap.size w w':=by
 have HL:=zA h;have aF:=h.aj;clear h
 go_enter func154,ntmps154
 go_wp2_with fail
 go_loopw [9] (λiv wr=>∃(i:Nat),i<=ls.length/\iv=.int .i64 i/\Hid (Below w.heap.size w wr)/\Hid (((fs ls).drop i).any (Gm nm)=mQ (fs ls) nm)) (λiv _=>ls.length-(intOf iv).toNat)
 case atStart=>exact⟨0,p8,rfl,zA (tl _ _),zA rfl⟩
 case round =>
  obtain⟨i,hi,rfl,HB,HE⟩:=hrel;by_cases aD:i<ls.length
  ·obtain⟨gl,sa,sn,sc,na,nn,nc,rfl,aG,⟨c0,c1,c2,c3,c4,c5,c6,c7,c8,c9,ax⟩,_,_⟩:=(HL.out.below HB.out (tg _)).line aD
   have hE:=HE.out;rw[sV _ Jn _ i (by simpa using aD),show (fs ls).getD i Jn=lA (fs ls) i from rfl,tZ]at hE;have aB:=zA hE;have aC:=HB.out.size;clear HE hE;generalize (pP ls i).1=x at *;obtain⟨kd,n1,lo,hi',cc,S,N,ro,te,de,lw⟩:=x;simp only at c0 c1 c2 c3 c4 c5 c6 c7 c8 c9 ax;by_cases k1:kd=3
   ·by_cases k2:cc=nm
    ·have aA:Hid (mQ (fs ls) nm=true):=by have:=aB.out;unfold Hid;rw[<-this];simp[Gm,k1,k2]
     have b1:(kd==3)=true:=(by simpa using k1);have b2:(cc==nm)=true:=(by simpa using k2);clear aB k1 k2;go_wp2_with fail
     go_ret
     exact⟨zG aA.out.symm,HB.out.alloc aC _⟩
    ·have aA:Hid (((fs ls).drop (i+1)).any (Gm nm)=mQ (fs ls) nm):=by have:=aB.out;unfold Hid;rw[<-this];simp[Gm,k2]
     have b1:(kd==3)=true:=(by simpa using k1);have b2:(cc==nm)=false:=(by simpa using k2);clear aB k1 k2;go_wp2_with fail
     go_roundw
     case rel=>exact⟨i+1,by omega,by go_num,zA (HB.out.alloc aC _),aA⟩
     case measure=>simp[intOf];omega
   ·have aA:Hid (((fs ls).drop (i+1)).any (Gm nm)=mQ (fs ls) nm):=by have:=aB.out;unfold Hid;rw[<-this];simp[Gm,k1]
    have b1:(kd==3)=false:=(by simpa using k1);clear aB k1;go_wp2_with fail
    go_roundw
    case rel=>exact⟨i+1,by omega,by go_num,zA (HB.out.alloc aC _),aA⟩
    case measure=>simp[intOf];omega
  ·have aA:Hid (mQ (fs ls) nm=false):=by have:=HE.out;rw[pf (by simp;omega)]at this;exact this.symm
   clear HE;go_wp2_with fail
   go_ret
   exact⟨zG aA.out.symm,HB.out⟩
theorem Bq(w:World)(a:Option Addr)(c:Nat)(ls:List LX)(k:Int)(h:tT w a ls) :
 Calls prog 109 #[.slice a ls.length c,.int .i64 k] w λe w'=>e=.returned (.int .i64 (vS k (fs ls)))/\Below w.heap.size w w':=by
 have HL:=zA h;have aF:=h.aj;clear h
 go_enter func109,ntmps109
 go_wp2_with fail
 go_loopw [5,10] (λnv iv wr=>∃(i n:Nat),i<=ls.length/\n<=i/\nv=.int .i64 n/\iv=.int .i64 i/\Hid (Below w.heap.size w wr)/\Hid (n+vS k ((fs ls).drop i)=vS k (fs ls))) (λ_ iv _=>ls.length-(intOf iv).toNat)
 case atStart=>exact⟨0,0,p8,tg _,rfl,rfl,zA (tl _ _),zA (by simp)⟩
 case round =>
  obtain⟨i,n,hi,hn,rfl,rfl,HB,HE⟩:=hrel;by_cases aD:i<ls.length
  ·obtain⟨gl,sa,sn,sc,na,nn,nc,rfl,aG,⟨c0,c1,c2,c3,c4,c5,c6,c7,c8,c9,ax⟩,_,_⟩:=(HL.out.below HB.out (tg _)).line aD
   have hE:=HE.out;rw[qx _ _ i (by simpa using aD),tZ]at hE;have aB:=zA hE;have aC:=HB.out.size;clear HE hE;generalize (pP ls i).1=x at *;obtain⟨kd,n1,lo,hi',cc,S,N,ro,te,de,lw⟩:=x;simp only at c0 c1 c2 c3 c4 c5 c6 c7 c8 c9 ax;by_cases k1:kd=k
   ·have aA:Hid (n+1+vS k ((fs ls).drop (i+1))=vS k (fs ls)):=by have:=aB.out;rw[tr k1]at this;unfold Hid;omega
    have b1:(kd==k)=true:=(by simpa using k1);clear aB k1;go_wp2_with fail
    go_roundw
    case rel=>exact⟨i+1,n+1,by omega,by omega,by go_num,by go_num,zA (HB.out.alloc aC _),aA⟩
    case measure=>simp[intOf];omega
   ·have aA:Hid (n+vS k ((fs ls).drop (i+1))=vS k (fs ls)):=by have:=aB.out;rw[tj k1]at this;unfold Hid;omega
    have b1:(kd==k)=false:=(by simpa using k1);clear aB k1;go_wp2_with fail
    go_roundw
    case rel=>exact⟨i+1,n,by omega,by omega,rfl,by go_num,zA (HB.out.alloc aC _),aA⟩
    case measure=>simp[intOf];omega
  ·have aA:Hid (n=vS k (fs ls)):=by have:=HE.out;rw[pf (by simp;omega)]at this;exact this
   clear HE;go_wp2_with fail
   go_ret
   exact⟨yY (by rw[aA.out]),HB.out⟩
theorem DS(w:World)(a:Option Addr)(c:Nat)(ls:List LX)(nm:Bs)(h:tT w a ls) :
 Calls prog 157 #[.slice a ls.length c,.string ⟨nm.toArray⟩] w λe w'=>e=.returned (.int .i64 (uU (fs ls) nm))/\Below w.heap.size w w':=by
 have HL:=zA h;have aF:=h.aj;clear h
 go_enter func157,ntmps157
 go_wp2_with fail
 go_loopw [9] (λiv wr=>∃(i:Nat),i<=ls.length/\iv=.int .i64 i/\Hid (Below w.heap.size w wr)/\Hid (mC (Xs 3 nm) ((fs ls).drop i) i=uU (fs ls) nm)) (λiv _=>ls.length-(intOf iv).toNat)
 case atStart=>exact⟨0,p8,rfl,zA (tl _ _),zA rfl⟩
 case round =>
  obtain⟨i,hi,rfl,HB,HE⟩:=hrel;by_cases aD:i<ls.length
  ·obtain⟨gl,sa,sn,sc,na,nn,nc,rfl,aG,⟨c0,c1,c2,c3,c4,c5,c6,c7,c8,c9,ax⟩,_,_⟩:=(HL.out.below HB.out (tg _)).line aD
   have hE:=HE.out;rw[DT _ _ i (by simpa using aD),tZ]at hE;have aB:=zA hE;have aC:=HB.out.size;clear HE hE;generalize (pP ls i).1=x at *;obtain⟨kd,n1,lo,hi',cc,S,N,ro,te,de,lw⟩:=x;simp only at c0 c1 c2 c3 c4 c5 c6 c7 c8 c9 ax;by_cases k1:kd=3
   ·by_cases k2:n1=nm
    ·have aA:Hid (uU (fs ls) nm=i):=by have:=aB.out;unfold Hid;rw[<-this];simp[Xs,k1,k2]
     have b1:(kd==3)=true:=(by simpa using k1);have b2:(n1==nm)=true:=(by simpa using k2);clear aB k1 k2;go_wp2_with fail
     go_ret
     exact⟨yY (by rw[aA.out]),HB.out.alloc aC _⟩
    ·have aA:Hid (mC (Xs 3 nm) ((fs ls).drop (i+1)) (i+1)=uU (fs ls) nm):=by have:=aB.out;unfold Hid;rw[<-this];simp[Xs,k2]
     have b1:(kd==3)=true:=(by simpa using k1);have b2:(n1==nm)=false:=(by simpa using k2);clear aB k1 k2;go_wp2_with fail
     go_roundw
     case rel=>exact⟨i+1,by omega,by go_num,zA (HB.out.alloc aC _),aA⟩
     case measure=>simp[intOf];omega
   ·have aA:Hid (mC (Xs 3 nm) ((fs ls).drop (i+1)) (i+1)=uU (fs ls) nm):=by have:=aB.out;unfold Hid;rw[<-this];simp[Xs,k1]
    have b1:(kd==3)=false:=(by simpa using k1);clear aB k1;go_wp2_with fail
    go_roundw
    case rel=>exact⟨i+1,by omega,by go_num,zA (HB.out.alloc aC _),aA⟩
    case measure=>simp[intOf];omega
  ·have aA:Hid (uU (fs ls) nm=ls.length):=by have:=HE.out;rw[pf (by simp;omega)]at this;unfold Hid;rw[<-this];simp only[mC];omega
   clear HE;go_wp2_with fail
   go_ret
   exact⟨yY (by rw[aA.out]),HB.out⟩
theorem N2(w:World):Calls prog 110 #[.int .i64 k] w λe w'=>e=.returned (.int .i64 (Xb k))/\w'=w:=by
 by_cases h1:k=1
 ·subst h1
  go_enter func110,ntmps110
  go_wp2_with fail
  go_ret;exact⟨rfl,rfl⟩
 ·by_cases h2:k=2
  ·subst h2
   go_enter func110,ntmps110
   go_wp2_with fail
   go_ret;exact⟨rfl,rfl⟩
  ·by_cases h3:k=3
   ·subst h3
    go_enter func110,ntmps110
    go_wp2_with fail
    go_ret;exact⟨rfl,rfl⟩
   ·by_cases h4:k=4
    ·subst h4
     go_enter func110,ntmps110
     go_wp2_with fail
     go_ret;exact⟨rfl,rfl⟩
    ·have HR:Hid (Xb k=0):=by unfold Hid Xb;rw[tj h1,tj h2,tj h3,tj h4]
     have b1:(k==1)=false:=(by simpa using h1);have b2:(k==2)=false:=(by simpa using h2);have b3:(k==3)=false:=(by simpa using h3);have b4:(k==4)=false:=(by simpa using h4);clear h1 h2 h3 h4
     go_enter func110,ntmps110
     go_wp2_with fail
     go_ret;exact⟨yY HR.out.symm,rfl⟩
structure jd(w:World)(a:Option Addr)(S:List yT):Prop where
 blk:0<S.length->∃g yB,a=some ⟨g,0,none⟩/\qP w g yB S
 aj:S.length<=maxLen
theorem jd.below{S:List yT}(h:jd w a S)(hb:Below B w w')(hB:w.heap.size<=B):jd w' a S :=
 ⟨λh0=>let ⟨g,yB,e,p⟩:=h.blk h0;⟨g,yB,e,p.below hb hB⟩,h.aj⟩
structure zFY(w:World)(a:Option Addr)(N:List zJ):Prop where
 blk:0<N.length->∃g yB,a=some ⟨g,0,none⟩/\xT w g yB N
 aj:N.length<=maxLen
theorem zFY.below{N:List zJ}(h:zFY w a N)(hb:Below B w w')(hB:w.heap.size<=B):zFY w' a N :=
 ⟨λh0=>let ⟨g,yB,e,p⟩:=h.blk h0;⟨g,yB,e,p.below hb hB⟩,h.aj⟩
end Go.Proofs.YtnbpdffdnphbeabGreatDoor
