import Derived.Test.YtnbpdffdnphbeabGreatDoorPGraph
set_option maxHeartbeats 1000000
namespace Go.Proofs.YtnbpdffdnphbeabGreatDoor
open Go.RowKit
variable{B:Nat}{a:Option Addr}{w' w:World}(ls:List LX)(k:Int)
theorem iH.below{gN:Nat}{yJ:Array Value}{N:List zM}(h:iH w gN yJ N)(hb:Below B w w')(hB:w.heap.size<=B):iH w' gN yJ N:=by
 refine⟨?_,h.row⟩;rw[hb.block gN (t8 h.lt hB)];exact h.blk
theorem iG.below{gS:Nat}{yJ:Array Value}{S:List yT}(h:iG w gS yJ S)(hb:Below B w w')(hB:w.heap.size<=B):iG w' gS yJ S:=by
 refine⟨?_,h.row⟩;rw[hb.block gS (t8 h.lt hB)];exact h.blk
theorem JD.below{gl:Nat}{yJ:Array Value}{ls:List LX}(h:JD w gl yJ ls)(hb:Below B w w')(hB:w.heap.size<=B):JD w' gl yJ ls:=by
 refine⟨?_,h.row⟩;rw[hb.block gl (t8 h.lt hB)];exact h.blk
theorem ZZ.below{x:LX}(h:ZZ w x)(hb:Below B w w')(hB:w.heap.size<=B):ZZ w' x :=
 ⟨h.s1,h.s2,fun h0=>let ⟨g,c,yJ,e,p⟩:=h.sum h0;⟨g,c,yJ,e,p.below hb hB⟩,fun h0=>let ⟨g,c,yJ,e,p⟩:=h.nod h0;⟨g,c,yJ,e,p.below hb hB⟩⟩
structure eR(w:World)(x:LX):Prop where
 b:ZZ w x
 g:cW x.1
 nds:x.1.nd.length<=maxLen
theorem eR.below{x:LX}(h:eR w x)(hb:Below B w w')(hB:w.heap.size<=B):eR w' x:=⟨h.b.below hb hB,h.g,h.nds⟩
structure kT(w:World)(a:Option Addr)(ls:List LX):Prop where
 blk:0<ls.length->∃gl yJ,a=some ⟨gl,0,none⟩/\JD w gl yJ ls
 rows:∀x∈ls,eR w x
 few:ls.length<=10000
theorem kT.below{ls:List LX}(h:kT w a ls)(hb:Below B w w')(hB:w.heap.size<=B):kT w' a ls :=
 ⟨fun h0=>let ⟨gl,yJ,e,p⟩:=h.blk h0;⟨gl,yJ,e,p.below hb hB⟩,fun x hx=>(h.rows x hx).below hb hB,h.few⟩
theorem Vh(n:Nat)(h:n<=ls.length):(tS ls).take (n*11)=tS (ls.take n):=by
 induction ls generalizing n with
 | nil=>simp[tS]
 | cons x r ih =>
   cases n with
   | zero=>simp[tS]
   | succ n =>
     have e:∀(y:LX) (l:List LX),tS (y::l)=nX y++tS l:=fun y l=>by simp[tS]
     have hl:(nX x).length=11:=rfl;rw[List.take_succ_cons,e,e,List.take_append,hl,List.take_of_length_le (by rw[hl];omega),show (n+1)*11-11=n*11 by omega,ih n (by simpa using h)]
theorem kT.take{ls:List LX}(h:kT w a ls)(n:Nat):kT w a (ls.take n):=by
 refine⟨fun h0=>?_,fun x hx=>h.rows x (List.mem_of_mem_take hx),by have:=h.few;rw[lu];omega⟩;rw[lu]at h0;obtain⟨gl,yJ,e,p⟩:=h.blk (by omega);refine⟨gl,yJ,e,p.blk,?_⟩;rcases Nat.le_total n ls.length with hn|hn
 ·rw[lu,Nat.min_eq_left hn,<-Vh ls n hn,<-p.row,List.take_take,Nat.min_eq_left (by omega)]
 ·rw[List.take_of_length_le hn];exact p.row
structure LnAt(w:World)(gl i:Nat)(x:zE)(sv nv:Value):Prop where
 c0:w.cell? ⟨gl,i*11,none⟩=some (.int .i64 x.kind)
 c1:w.cell? ⟨gl,i*11+1,none⟩=some (.string ⟨x.name.toArray⟩)
 c2:w.cell? ⟨gl,i*11+2,none⟩=some (.int .i64 x.low)
 c3:w.cell? ⟨gl,i*11+3,none⟩=some (.int .i64 x.high)
 c4:w.cell? ⟨gl,i*11+4,none⟩=some (.string ⟨x.conc.toArray⟩)
 c5:w.cell? ⟨gl,i*11+5,none⟩=some sv
 c6:w.cell? ⟨gl,i*11+6,none⟩=some nv
 c7:w.cell? ⟨gl,i*11+7,none⟩=some (.int .i64 x.root)
 c8:w.cell? ⟨gl,i*11+8,none⟩=some (.int .i64 x.tests)
 c9:w.cell? ⟨gl,i*11+9,none⟩=some (.int .i64 x.dep)
 c10:w.cell? ⟨gl,i*11+10,none⟩=some (.string ⟨x.lower.toArray⟩)
theorem kT.line{ls:List LX}(h:kT w a ls){i:Nat}(hi:i<ls.length) :
 ∃gl sa sn sc na nn nc,a=some ⟨gl,0,none⟩/\gl<w.heap.size/\LnAt w gl i (tE ls i).1 (.slice sa sn sc) (.slice na nn nc)/\(tE ls i).2=(.slice sa sn sc,.slice na nn nc)/\eR w (tE ls i):=by
 obtain⟨gl,yJ,rfl,p⟩:=h.blk (by omega);have hb:=h.rows _ (iO hi);obtain⟨sa,sn,sc,e1⟩:=hb.b.s1;obtain⟨na,nn,nc,e2⟩:=hb.b.s2;have hx:=fun j hj (u:Value) hu=>p.cell hi j hj (u:=u) hu;refine⟨gl,sa,sn,sc,na,nn,nc,rfl,p.lt,⟨hx 0 (by omega) _ rfl,hx 1 (by omega) _ rfl,hx 2 (by omega) _ rfl,hx 3 (by omega) _ rfl,hx 4 (by omega) _ rfl,hx 5 (by omega) _ (by rw[<-e1];rfl),hx 6 (by omega) _ (by rw[<-e2];rfl),hx 7 (by omega) _ rfl,hx 8 (by omega) _ rfl,hx 9 (by omega) _ rfl,hx 10 (by omega) _ rfl⟩,?_,hb⟩;rw[<-e1,<-e2]
theorem gQ{α:Type}(p:α->Bool)(d:α)(l:List α)(i:Nat)(h:i<l.length):(l.drop i).any p=(p (l.getD i d) || (l.drop (i+1)).any p):=by
 rw[pe h,li];simp[List.getD,h]
abbrev fs(ls:List LX):List zE:=ls.map Prod.fst
theorem kQ(i:Nat):lA (fs ls) i=(tE ls i).1:=by
 unfold lA tE;simp only[List.getD,List.getElem?_map];cases ls[i]? <;> rfl
theorem BJ(w:World)(a:Option Addr)(c:Nat)(ls:List LX)(k:Int)(nm:Bs)(h:kT w a ls) :
 Calls Tryz.prog 153 #[.slice a ls.length c,.int .i64 k,.string ⟨nm.toArray⟩] w fun e w'=>e=.returned (.bool (vP (fs ls) k nm))/\Below w.heap.size w w':=by
 have HL:=zA h;have zEO:=h.few;clear h
 go_enter Tryz.func153,Tryz.ntmps153
 go_wp2_with fail
 go_loopw [11] (fun iv wr=>∃(i:Nat),i<=ls.length/\iv=.int .i64 i/\Hid (Below w.heap.size w wr)/\Hid (((fs ls).drop i).any (rX k nm)=vP (fs ls) k nm)) (fun iv _=>ls.length-(intOf iv).toNat)
 case atStart=>exact⟨0,tq _,rfl,zA (t9 _ _),zA rfl⟩
 case round =>
  obtain⟨i,hi,rfl,HB,HE⟩:=hrel;by_cases zE9:i<ls.length
  ·obtain⟨gl,sa,sn,sc,na,nn,nc,rfl,hgl,⟨c0,c1,c2,c3,c4,c5,c6,c7,c8,c9,c10⟩,_,_⟩:=(HL.out.below HB.out (j1 _)).line zE9
   have hE:=HE.out;rw[gQ _ wX _ i (by simpa using zE9),show (fs ls).getD i wX=lA (fs ls) i from rfl,kQ]at hE;have HE2:=zA hE;have zEF:=HB.out.size;clear HE hE;generalize (tE ls i).1=x at *;obtain⟨kd,n1,lo,hi',cc,S,N,ro,te,de,lw⟩:=x;simp only at c0 c1 c2 c3 c4 c5 c6 c7 c8 c9 c10;by_cases k1:kd=k
   ·by_cases k2:n1=nm
    ·have HE3:Hid (vP (fs ls) k nm=true):=by have:=HE2.out;unfold Hid;rw[<-this];simp[rX,k1,k2]
     have b1:(kd==k)=true:=by simpa using k1
     have b2:(n1==nm)=true:=by simpa using k2
     clear HE2 k1 k2;go_wp2_with fail
     go_ret
     exact⟨zF HE3.out.symm,HB.out.alloc zEF _⟩
    ·have HE3:Hid (((fs ls).drop (i+1)).any (rX k nm)=vP (fs ls) k nm):=by have:=HE2.out;unfold Hid;rw[<-this];simp[rX,k2]
     have b1:(kd==k)=true:=by simpa using k1
     have b2:(n1==nm)=false:=by simpa using k2
     clear HE2 k1 k2;go_wp2_with fail
     go_roundw
     case rel=>exact⟨i+1,by omega,by go_num,zA (HB.out.alloc zEF _),HE3⟩
     case measure=>simp[intOf];omega
   ·have HE3:Hid (((fs ls).drop (i+1)).any (rX k nm)=vP (fs ls) k nm):=by have:=HE2.out;unfold Hid;rw[<-this];simp[rX,k1]
    have b1:(kd==k)=false:=by simpa using k1
    clear HE2 k1;go_wp2_with fail
    go_roundw
    case rel=>exact⟨i+1,by omega,by go_num,zA (HB.out.alloc zEF _),HE3⟩
    case measure=>simp[intOf];omega
  ·have HE3:Hid (vP (fs ls) k nm=false):=by have:=HE.out;rw[p8 (by simp;omega)]at this;exact this.symm
   clear HE;go_wp2_with fail
   go_ret
   exact⟨zF HE3.out.symm,HB.out⟩
theorem Cf(ls:List zE)(i:Nat)(h:i<ls.length):xI k (ls.drop i)=(if (lA ls i).kind=k then 1 else 0)+xI k (ls.drop (i+1)):=by
 rw[pe h,xI];simp[lA,List.getD,h]
theorem qt(ls:List zE):xI k ls<=ls.length:=by
 induction ls with
 | nil=>exact j1 _
 | cons x r ih=>rw[xI,ty];split <;> omega
theorem Vm(p:zE->Bool)(ls:List zE)(i:Nat)(h:i<ls.length):jP p (ls.drop i) i=if p (lA ls i) then i else jP p (ls.drop (i+1)) (i+1):=by
 rw[pe h,jP];simp[lA,List.getD,h]
theorem aN:(fs ls).length=ls.length:=by simp
theorem Zu(w:World)(a:Option Addr)(c:Nat)(ls:List LX)(nm:Bs)(h:kT w a ls) :
 Calls Tryz.prog 154 #[.slice a ls.length c,.string ⟨nm.toArray⟩] w fun e w'=>e=.returned (.bool (kO (fs ls) nm))/\Below w.heap.size w w':=by
 have HL:=zA h;have zEO:=h.few;clear h
 go_enter Tryz.func154,Tryz.ntmps154
 go_wp2_with fail
 go_loopw [9] (fun iv wr=>∃(i:Nat),i<=ls.length/\iv=.int .i64 i/\Hid (Below w.heap.size w wr)/\Hid (((fs ls).drop i).any (KO nm)=kO (fs ls) nm)) (fun iv _=>ls.length-(intOf iv).toNat)
 case atStart=>exact⟨0,tq _,rfl,zA (t9 _ _),zA rfl⟩
 case round =>
  obtain⟨i,hi,rfl,HB,HE⟩:=hrel;by_cases zE9:i<ls.length
  ·obtain⟨gl,sa,sn,sc,na,nn,nc,rfl,hgl,⟨c0,c1,c2,c3,c4,c5,c6,c7,c8,c9,c10⟩,_,_⟩:=(HL.out.below HB.out (j1 _)).line zE9
   have hE:=HE.out;rw[gQ _ wX _ i (by simpa using zE9),show (fs ls).getD i wX=lA (fs ls) i from rfl,kQ]at hE;have HE2:=zA hE;have zEF:=HB.out.size;clear HE hE;generalize (tE ls i).1=x at *;obtain⟨kd,n1,lo,hi',cc,S,N,ro,te,de,lw⟩:=x;simp only at c0 c1 c2 c3 c4 c5 c6 c7 c8 c9 c10;by_cases k1:kd=3
   ·by_cases k2:cc=nm
    ·have HE3:Hid (kO (fs ls) nm=true):=by have:=HE2.out;unfold Hid;rw[<-this];simp[KO,k1,k2]
     have b1:(kd==3)=true:=by simpa using k1
     have b2:(cc==nm)=true:=by simpa using k2
     clear HE2 k1 k2;go_wp2_with fail
     go_ret
     exact⟨zF HE3.out.symm,HB.out.alloc zEF _⟩
    ·have HE3:Hid (((fs ls).drop (i+1)).any (KO nm)=kO (fs ls) nm):=by have:=HE2.out;unfold Hid;rw[<-this];simp[KO,k2]
     have b1:(kd==3)=true:=by simpa using k1
     have b2:(cc==nm)=false:=by simpa using k2
     clear HE2 k1 k2;go_wp2_with fail
     go_roundw
     case rel=>exact⟨i+1,by omega,by go_num,zA (HB.out.alloc zEF _),HE3⟩
     case measure=>simp[intOf];omega
   ·have HE3:Hid (((fs ls).drop (i+1)).any (KO nm)=kO (fs ls) nm):=by have:=HE2.out;unfold Hid;rw[<-this];simp[KO,k1]
    have b1:(kd==3)=false:=by simpa using k1
    clear HE2 k1;go_wp2_with fail
    go_roundw
    case rel=>exact⟨i+1,by omega,by go_num,zA (HB.out.alloc zEF _),HE3⟩
    case measure=>simp[intOf];omega
  ·have HE3:Hid (kO (fs ls) nm=false):=by have:=HE.out;rw[p8 (by simp;omega)]at this;exact this.symm
   clear HE;go_wp2_with fail
   go_ret
   exact⟨zF HE3.out.symm,HB.out⟩
theorem Jr(w:World)(a:Option Addr)(c:Nat)(ls:List LX)(k:Int)(h:kT w a ls) :
 Calls Tryz.prog 109 #[.slice a ls.length c,.int .i64 k] w fun e w'=>e=.returned (.int .i64 (xI k (fs ls)))/\Below w.heap.size w w':=by
 have HL:=zA h;have zEO:=h.few;clear h
 go_enter Tryz.func109,Tryz.ntmps109
 go_wp2_with fail
 go_loopw [5,10] (fun nv iv wr=>∃(i n:Nat),i<=ls.length/\n<=i/\nv=.int .i64 n/\iv=.int .i64 i/\Hid (Below w.heap.size w wr)/\Hid (n+xI k ((fs ls).drop i)=xI k (fs ls))) (fun _ iv _=>ls.length-(intOf iv).toNat)
 case atStart=>exact⟨0,0,tq _,j1 _,rfl,rfl,zA (t9 _ _),zA (by simp)⟩
 case round =>
  obtain⟨i,n,hi,hn,rfl,rfl,HB,HE⟩:=hrel;by_cases zE9:i<ls.length
  ·obtain⟨gl,sa,sn,sc,na,nn,nc,rfl,hgl,⟨c0,c1,c2,c3,c4,c5,c6,c7,c8,c9,c10⟩,_,_⟩:=(HL.out.below HB.out (j1 _)).line zE9
   have hE:=HE.out;rw[Cf _ _ i (by simpa using zE9),kQ]at hE;have HE2:=zA hE;have zEF:=HB.out.size;clear HE hE;generalize (tE ls i).1=x at *;obtain⟨kd,n1,lo,hi',cc,S,N,ro,te,de,lw⟩:=x;simp only at c0 c1 c2 c3 c4 c5 c6 c7 c8 c9 c10;by_cases k1:kd=k
   ·have HE3:Hid (n+1+xI k ((fs ls).drop (i+1))=xI k (fs ls)):=by have:=HE2.out;rw[tg k1]at this;unfold Hid;omega
    have b1:(kd==k)=true:=by simpa using k1
    clear HE2 k1;go_wp2_with fail
    go_roundw
    case rel=>exact⟨i+1,n+1,by omega,by omega,by go_num,by go_num,zA (HB.out.alloc zEF _),HE3⟩
    case measure=>simp[intOf];omega
   ·have HE3:Hid (n+xI k ((fs ls).drop (i+1))=xI k (fs ls)):=by have:=HE2.out;rw[t7 k1]at this;unfold Hid;omega
    have b1:(kd==k)=false:=by simpa using k1
    clear HE2 k1;go_wp2_with fail
    go_roundw
    case rel=>exact⟨i+1,n,by omega,by omega,rfl,by go_num,zA (HB.out.alloc zEF _),HE3⟩
    case measure=>simp[intOf];omega
  ·have HE3:Hid (n=xI k (fs ls)):=by have:=HE.out;rw[p8 (by simp;omega)]at this;exact this
   clear HE;go_wp2_with fail
   go_ret
   exact⟨yN (by rw[HE3.out]),HB.out⟩
theorem Vl(w:World)(a:Option Addr)(c:Nat)(ls:List LX)(nm:Bs)(h:kT w a ls) :
 Calls Tryz.prog 157 #[.slice a ls.length c,.string ⟨nm.toArray⟩] w fun e w'=>e=.returned (.int .i64 (vT (fs ls) nm))/\Below w.heap.size w w':=by
 have HL:=zA h;have zEO:=h.few;clear h
 go_enter Tryz.func157,Tryz.ntmps157
 go_wp2_with fail
 go_loopw [9] (fun iv wr=>∃(i:Nat),i<=ls.length/\iv=.int .i64 i/\Hid (Below w.heap.size w wr)/\Hid (jP (rX 3 nm) ((fs ls).drop i) i=vT (fs ls) nm)) (fun iv _=>ls.length-(intOf iv).toNat)
 case atStart=>exact⟨0,tq _,rfl,zA (t9 _ _),zA rfl⟩
 case round =>
  obtain⟨i,hi,rfl,HB,HE⟩:=hrel;by_cases zE9:i<ls.length
  ·obtain⟨gl,sa,sn,sc,na,nn,nc,rfl,hgl,⟨c0,c1,c2,c3,c4,c5,c6,c7,c8,c9,c10⟩,_,_⟩:=(HL.out.below HB.out (j1 _)).line zE9
   have hE:=HE.out;rw[Vm _ _ i (by simpa using zE9),kQ]at hE;have HE2:=zA hE;have zEF:=HB.out.size;clear HE hE;generalize (tE ls i).1=x at *;obtain⟨kd,n1,lo,hi',cc,S,N,ro,te,de,lw⟩:=x;simp only at c0 c1 c2 c3 c4 c5 c6 c7 c8 c9 c10;by_cases k1:kd=3
   ·by_cases k2:n1=nm
    ·have HE3:Hid (vT (fs ls) nm=i):=by have:=HE2.out;unfold Hid;rw[<-this];simp[rX,k1,k2]
     have b1:(kd==3)=true:=by simpa using k1
     have b2:(n1==nm)=true:=by simpa using k2
     clear HE2 k1 k2;go_wp2_with fail
     go_ret
     exact⟨yN (by rw[HE3.out]),HB.out.alloc zEF _⟩
    ·have HE3:Hid (jP (rX 3 nm) ((fs ls).drop (i+1)) (i+1)=vT (fs ls) nm):=by have:=HE2.out;unfold Hid;rw[<-this];simp[rX,k2]
     have b1:(kd==3)=true:=by simpa using k1
     have b2:(n1==nm)=false:=by simpa using k2
     clear HE2 k1 k2;go_wp2_with fail
     go_roundw
     case rel=>exact⟨i+1,by omega,by go_num,zA (HB.out.alloc zEF _),HE3⟩
     case measure=>simp[intOf];omega
   ·have HE3:Hid (jP (rX 3 nm) ((fs ls).drop (i+1)) (i+1)=vT (fs ls) nm):=by have:=HE2.out;unfold Hid;rw[<-this];simp[rX,k1]
    have b1:(kd==3)=false:=by simpa using k1
    clear HE2 k1;go_wp2_with fail
    go_roundw
    case rel=>exact⟨i+1,by omega,by go_num,zA (HB.out.alloc zEF _),HE3⟩
    case measure=>simp[intOf];omega
  ·have HE3:Hid (vT (fs ls) nm=ls.length):=by have:=HE.out;rw[p8 (by simp;omega)]at this;unfold Hid;rw[<-this];simp only[jP];omega
   clear HE;go_wp2_with fail
   go_ret
   exact⟨yN (by rw[HE3.out]),HB.out⟩
theorem ua(w:World):Calls Tryz.prog 110 #[.int .i64 k] w fun e w'=>e=.returned (.int .i64 (eY k))/\w'=w:=by
 by_cases h1:k=1
 ·subst h1
  go_enter Tryz.func110,Tryz.ntmps110
  go_wp2_with fail
  go_ret;exact⟨rfl,rfl⟩
 ·by_cases h2:k=2
  ·subst h2
   go_enter Tryz.func110,Tryz.ntmps110
   go_wp2_with fail
   go_ret;exact⟨rfl,rfl⟩
  ·by_cases h3:k=3
   ·subst h3
    go_enter Tryz.func110,Tryz.ntmps110
    go_wp2_with fail
    go_ret;exact⟨rfl,rfl⟩
   ·by_cases h4:k=4
    ·subst h4
     go_enter Tryz.func110,Tryz.ntmps110
     go_wp2_with fail
     go_ret;exact⟨rfl,rfl⟩
    ·have HR:Hid (eY k=0):=by unfold Hid eY;rw[t7 h1,t7 h2,t7 h3,t7 h4]
     have b1:(k==1)=false:=by simpa using h1
     have b2:(k==2)=false:=by simpa using h2
     have b3:(k==3)=false:=by simpa using h3
     have b4:(k==4)=false:=by simpa using h4
     clear h1 h2 h3 h4
     go_enter Tryz.func110,Tryz.ntmps110
     go_wp2_with fail
     go_ret;exact⟨yN HR.out.symm,rfl⟩
structure Cv(w:World)(a:Option Addr)(S:List yT):Prop where
 blk:0<S.length->∃g yJ,a=some ⟨g,0,none⟩/\iG w g yJ S
 few:S.length<=maxLen
theorem Cv.below{S:List yT}(h:Cv w a S)(hb:Below B w w')(hB:w.heap.size<=B):Cv w' a S :=
 ⟨fun h0=>let ⟨g,yJ,e,p⟩:=h.blk h0;⟨g,yJ,e,p.below hb hB⟩,h.few⟩
structure GK(w:World)(a:Option Addr)(N:List zM):Prop where
 blk:0<N.length->∃g yJ,a=some ⟨g,0,none⟩/\iH w g yJ N
 few:N.length<=maxLen
theorem GK.below{N:List zM}(h:GK w a N)(hb:Below B w w')(hB:w.heap.size<=B):GK w' a N :=
 ⟨fun h0=>let ⟨g,yJ,e,p⟩:=h.blk h0;⟨g,yJ,e,p.below hb hB⟩,h.few⟩
end Go.Proofs.YtnbpdffdnphbeabGreatDoor
