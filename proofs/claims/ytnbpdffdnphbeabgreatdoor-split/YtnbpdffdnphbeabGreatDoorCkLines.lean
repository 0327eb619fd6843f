import Derived.Test.YtnbpdffdnphbeabGreatDoorPGraph
set_option maxHeartbeats 1000000
namespace Go.Proofs.YtnbpdffdnphbeabGreatDoor
open Go.RowKit
variable{B:Nat}{a:Option Addr}{w' w:World}(ls:List LX)(k:Int)
theorem Kp.below{gN:Nat}{yK:Array Value}{N:List zT}(h:Kp w gN yK N)(hb:Below B w w')(hB:w.heap.size<=B):Kp w' gN yK N:=by
 refine⟨?_,h.row⟩;rw[hb.block gN (tj h.lt hB)];exact h.blk
theorem Ko.below{gS:Nat}{yK:Array Value}{S:List xE}(h:Ko w gS yK S)(hb:Below B w w')(hB:w.heap.size<=B):Ko w' gS yK S:=by
 refine⟨?_,h.row⟩;rw[hb.block gS (tj h.lt hB)];exact h.blk
theorem Uz.below{gl:Nat}{yK:Array Value}{ls:List LX}(h:Uz w gl yK ls)(hb:Below B w w')(hB:w.heap.size<=B):Uz w' gl yK ls:=by
 refine⟨?_,h.row⟩;rw[hb.block gl (tj h.lt hB)];exact h.blk
theorem Qb.below{x:LX}(h:Qb w x)(hb:Below B w w')(hB:w.heap.size<=B):Qb w' x :=
 ⟨h.s1,h.s2,fun h0=>let ⟨g,c,yK,e,p⟩:=h.sum h0;⟨g,c,yK,e,p.below hb hB⟩,fun h0=>let ⟨g,c,yK,e,p⟩:=h.nod h0;⟨g,c,yK,e,p.below hb hB⟩⟩
structure ZZ(w:World)(x:LX):Prop where
 b:Qb w x
 g:gO x.1
 nds:x.1.nd.length<=maxLen
theorem ZZ.below{x:LX}(h:ZZ w x)(hb:Below B w w')(hB:w.heap.size<=B):ZZ w' x:=⟨h.b.below hb hB,h.g,h.nds⟩
structure jS(w:World)(a:Option Addr)(ls:List LX):Prop where
 blk:0<ls.length->∃gl yK,a=some ⟨gl,0,none⟩/\Uz w gl yK ls
 rows:∀x∈ls,ZZ w x
 few:ls.length<=10000
theorem jS.below{ls:List LX}(h:jS w a ls)(hb:Below B w w')(hB:w.heap.size<=B):jS w' a ls :=
 ⟨fun h0=>let ⟨gl,yK,e,p⟩:=h.blk h0;⟨gl,yK,e,p.below hb hB⟩,fun x hx=>(h.rows x hx).below hb hB,h.few⟩
theorem Ch(n:Nat)(h:n<=ls.length):(mC ls).take (n*11)=mC (ls.take n):=by
 induction ls generalizing n with
 | nil=>simp[mC]
 | cons x r ih =>
   cases n with
   | zero=>simp[mC]
   | succ n =>
     have e:∀(y:LX) (l:List LX),mC (y::l)=aA y++mC l:=fun y l=>by simp[mC]
     have hl:(aA x).length=11:=rfl;rw[List.take_succ_cons,e,e,List.take_append,hl,dw (by rw[hl];omega),show (n+1)*11-11=n*11 by omega,ih n (by simpa using h)]
theorem jS.take{ls:List LX}(h:jS w a ls)(n:Nat):jS w a (ls.take n):=by
 refine⟨fun h0=>?_,fun x hx=>h.rows x (List.mem_of_mem_take hx),by have:=h.few;rw[cd];omega⟩;rw[cd]at h0;obtain⟨gl,yK,e,p⟩:=h.blk (by omega);refine⟨gl,yK,e,p.blk,?_⟩;rcases Nat.le_total n ls.length with hn|hn
 ·rw[cd,Nat.min_eq_left hn,<-Ch ls n hn,<-p.row,List.take_take,Nat.min_eq_left (by omega)]
 ·rw[dw hn];exact p.row
structure LnAt(w:World)(gl i:Nat)(x:zE)(sv nv:Value):Prop where
 c0:w.cell? ⟨gl,i*11,none⟩=some (.int .i64 x.kind)
 c1:w.cell? ⟨gl,i*11+1,none⟩=some (.string ⟨x.name.toArray⟩)
 c2:w.cell? ⟨gl,i*11+2,none⟩=some (.int .i64 x.low)
 c3:w.cell? ⟨gl,i*11+3,none⟩=some (.int .i64 x.high)
 c4:w.cell? ⟨gl,i*11+4,none⟩=some (.string ⟨x.conc.toArray⟩)
 c5:w.cell? ⟨gl,i*11+5,none⟩=some sv
 c6:w.cell? ⟨gl,i*11+6,none⟩=some nv
 c7:w.cell? ⟨gl,i*11+7,none⟩=some (.int .i64 x.root)
 c8:w.cell? ⟨gl,i*11+8,none⟩=some (.int .i64 x.tests)
 c9:w.cell? ⟨gl,i*11+9,none⟩=some (.int .i64 x.dep)
 c10:w.cell? ⟨gl,i*11+10,none⟩=some (.string ⟨x.lower.toArray⟩)
theorem jS.line{ls:List LX}(h:jS w a ls){i:Nat}(hi:i<ls.length) :
 ∃gl sa sn sc na nn nc,a=some ⟨gl,0,none⟩/\gl<w.heap.size/\LnAt w gl i (pG ls i).1 (.slice sa sn sc) (.slice na nn nc)/\(pG ls i).2=(.slice sa sn sc,.slice na nn nc)/\ZZ w (pG ls i):=by
 obtain⟨gl,yK,rfl,p⟩:=h.blk (by omega);have hb:=h.rows _ (Ys hi);obtain⟨sa,sn,sc,e1⟩:=hb.b.s1;obtain⟨na,nn,nc,e2⟩:=hb.b.s2;have hx:=fun j hj (u:Value) hu=>p.cell hi j hj (u:=u) hu;refine⟨gl,sa,sn,sc,na,nn,nc,rfl,p.lt,⟨hx 0 (by omega) _ rfl,hx 1 (by omega) _ rfl,hx 2 (by omega) _ rfl,hx 3 (by omega) _ rfl,hx 4 (by omega) _ rfl,hx 5 (by omega) _ (by rw[<-e1];rfl),hx 6 (by omega) _ (by rw[<-e2];rfl),hx 7 (by omega) _ rfl,hx 8 (by omega) _ rfl,hx 9 (by omega) _ rfl,hx 10 (by omega) _ rfl⟩,?_,hb⟩;rw[<-e1,<-e2]
theorem rJ{α:Type}(p:α->Bool)(d:α)(l:List α)(i:Nat)(h:i<l.length):(l.drop i).any p=(p (l.getD i d) || (l.drop (i+1)).any p):=by
 rw[po h,cw];simp[List.getD,h]
abbrev fs(ls:List LX):List zE:=ls.map Prod.fst
theorem jO(i:Nat):lA (fs ls) i=(pG ls i).1:=by
 unfold lA pG;simp only[List.getD,List.getElem?_map];cases ls[i]? <;> rfl
theorem Gy(w:World)(a:Option Addr)(c:Nat)(ls:List LX)(k:Int)(nm:Bs)(h:jS w a ls) :
 Calls Tryz.prog 153 #[.slice a ls.length c,.int .i64 k,.string ⟨nm.toArray⟩] w fun e w'=>e=.returned (.bool (uR (fs ls) k nm))/\Below w.heap.size w w':=by
 have HL:=zA h;have zLE:=h.few;clear h
 go_enter Tryz.func153,Tryz.ntmps153
 go_wp2_with fail
 go_loopw [11] (fun iv wr=>∃(i:Nat),i<=ls.length/\iv=.int .i64 i/\Hid (Below w.heap.size w wr)/\Hid (((fs ls).drop i).any (Zl k nm)=uR (fs ls) k nm)) (fun iv _=>ls.length-(intOf iv).toNat)
 case atStart=>exact⟨0,p7 _,rfl,zA (tg _ _),zA rfl⟩
 case round =>
  obtain⟨i,hi,rfl,HB,HE⟩:=hrel;by_cases zKZ:i<ls.length
  ·obtain⟨gl,sa,sn,sc,na,nn,nc,rfl,hgl,⟨c0,c1,c2,c3,c4,c5,c6,c7,c8,c9,c10⟩,_,_⟩:=(HL.out.below HB.out (j1 _)).line zKZ
   have hE:=HE.out;rw[rJ _ Ym _ i (by simpa using zKZ),show (fs ls).getD i Ym=lA (fs ls) i from rfl,jO]at hE;have HE2:=zA hE;have zL8:=HB.out.size;clear HE hE;generalize (pG ls i).1=x at *;obtain⟨kd,n1,lo,hi',cc,S,N,ro,te,de,lw⟩:=x;simp only at c0 c1 c2 c3 c4 c5 c6 c7 c8 c9 c10;by_cases k1:kd=k
   ·by_cases k2:n1=nm
    ·have HE3:Hid (uR (fs ls) k nm=true):=by have:=HE2.out;unfold Hid;rw[<-this];simp[Zl,k1,k2]
     have b1:(kd==k)=true:=by simpa using k1
     have b2:(n1==nm)=true:=by simpa using k2
     clear HE2 k1 k2;go_wp2_with fail
     go_ret
     exact⟨zF HE3.out.symm,HB.out.alloc zL8 _⟩
    ·have HE3:Hid (((fs ls).drop (i+1)).any (Zl k nm)=uR (fs ls) k nm):=by have:=HE2.out;unfold Hid;rw[<-this];simp[Zl,k2]
     have b1:(kd==k)=true:=by simpa using k1
     have b2:(n1==nm)=false:=by simpa using k2
     clear HE2 k1 k2;go_wp2_with fail
     go_roundw
     case rel=>exact⟨i+1,by omega,by go_num,zA (HB.out.alloc zL8 _),HE3⟩
     case measure=>simp[intOf];omega
   ·have HE3:Hid (((fs ls).drop (i+1)).any (Zl k nm)=uR (fs ls) k nm):=by have:=HE2.out;unfold Hid;rw[<-this];simp[Zl,k1]
    have b1:(kd==k)=false:=by simpa using k1
    clear HE2 k1;go_wp2_with fail
    go_roundw
    case rel=>exact⟨i+1,by omega,by go_num,zA (HB.out.alloc zL8 _),HE3⟩
    case measure=>simp[intOf];omega
  ·have HE3:Hid (uR (fs ls) k nm=false):=by have:=HE.out;rw[pm (by simp;omega)]at this;exact this.symm
   clear HE;go_wp2_with fail
   go_ret
   exact⟨zF HE3.out.symm,HB.out⟩
theorem GK(ls:List zE)(i:Nat)(h:i<ls.length):vC k (ls.drop i)=(if (lA ls i).kind=k then 1 else 0)+vC k (ls.drop (i+1)):=by
 rw[po h,vC];simp[lA,List.getD,h]
theorem zFG(ls:List zE):vC k ls<=ls.length:=by
 induction ls with
 | nil=>exact j1 _
 | cons x r ih=>rw[vC,pf];split <;> omega
theorem Cn(p:zE->Bool)(ls:List zE)(i:Nat)(h:i<ls.length):tR p (ls.drop i) i=if p (lA ls i) then i else tR p (ls.drop (i+1)) (i+1):=by
 rw[po h,tR];simp[lA,List.getD,h]
theorem Zt:(fs ls).length=ls.length:=by simp
theorem Xs(w:World)(a:Option Addr)(c:Nat)(ls:List LX)(nm:Bs)(h:jS w a ls) :
 Calls Tryz.prog 154 #[.slice a ls.length c,.string ⟨nm.toArray⟩] w fun e w'=>e=.returned (.bool (tP (fs ls) nm))/\Below w.heap.size w w':=by
 have HL:=zA h;have zLE:=h.few;clear h
 go_enter Tryz.func154,Tryz.ntmps154
 go_wp2_with fail
 go_loopw [9] (fun iv wr=>∃(i:Nat),i<=ls.length/\iv=.int .i64 i/\Hid (Below w.heap.size w wr)/\Hid (((fs ls).drop i).any (D1 nm)=tP (fs ls) nm)) (fun iv _=>ls.length-(intOf iv).toNat)
 case atStart=>exact⟨0,p7 _,rfl,zA (tg _ _),zA rfl⟩
 case round =>
  obtain⟨i,hi,rfl,HB,HE⟩:=hrel;by_cases zKZ:i<ls.length
  ·obtain⟨gl,sa,sn,sc,na,nn,nc,rfl,hgl,⟨c0,c1,c2,c3,c4,c5,c6,c7,c8,c9,c10⟩,_,_⟩:=(HL.out.below HB.out (j1 _)).line zKZ
   have hE:=HE.out;rw[rJ _ Ym _ i (by simpa using zKZ),show (fs ls).getD i Ym=lA (fs ls) i from rfl,jO]at hE;have HE2:=zA hE;have zL8:=HB.out.size;clear HE hE;generalize (pG ls i).1=x at *;obtain⟨kd,n1,lo,hi',cc,S,N,ro,te,de,lw⟩:=x;simp only at c0 c1 c2 c3 c4 c5 c6 c7 c8 c9 c10;by_cases k1:kd=3
   ·by_cases k2:cc=nm
    ·have HE3:Hid (tP (fs ls) nm=true):=by have:=HE2.out;unfold Hid;rw[<-this];simp[D1,k1,k2]
     have b1:(kd==3)=true:=by simpa using k1
     have b2:(cc==nm)=true:=by simpa using k2
     clear HE2 k1 k2;go_wp2_with fail
     go_ret
     exact⟨zF HE3.out.symm,HB.out.alloc zL8 _⟩
    ·have HE3:Hid (((fs ls).drop (i+1)).any (D1 nm)=tP (fs ls) nm):=by have:=HE2.out;unfold Hid;rw[<-this];simp[D1,k2]
     have b1:(kd==3)=true:=by simpa using k1
     have b2:(cc==nm)=false:=by simpa using k2
     clear HE2 k1 k2;go_wp2_with fail
     go_roundw
     case rel=>exact⟨i+1,by omega,by go_num,zA (HB.out.alloc zL8 _),HE3⟩
     case measure=>simp[intOf];omega
   ·have HE3:Hid (((fs ls).drop (i+1)).any (D1 nm)=tP (fs ls) nm):=by have:=HE2.out;unfold Hid;rw[<-this];simp[D1,k1]
    have b1:(kd==3)=false:=by simpa using k1
    clear HE2 k1;go_wp2_with fail
    go_roundw
    case rel=>exact⟨i+1,by omega,by go_num,zA (HB.out.alloc zL8 _),HE3⟩
    case measure=>simp[intOf];omega
  ·have HE3:Hid (tP (fs ls) nm=false):=by have:=HE.out;rw[pm (by simp;omega)]at this;exact this.symm
   clear HE;go_wp2_with fail
   go_ret
   exact⟨zF HE3.out.symm,HB.out⟩
theorem VW(w:World)(a:Option Addr)(c:Nat)(ls:List LX)(k:Int)(h:jS w a ls) :
 Calls Tryz.prog 109 #[.slice a ls.length c,.int .i64 k] w fun e w'=>e=.returned (.int .i64 (vC k (fs ls)))/\Below w.heap.size w w':=by
 have HL:=zA h;have zLE:=h.few;clear h
 go_enter Tryz.func109,Tryz.ntmps109
 go_wp2_with fail
 go_loopw [5,10] (fun nv iv wr=>∃(i n:Nat),i<=ls.length/\n<=i/\nv=.int .i64 n/\iv=.int .i64 i/\Hid (Below w.heap.size w wr)/\Hid (n+vC k ((fs ls).drop i)=vC k (fs ls))) (fun _ iv _=>ls.length-(intOf iv).toNat)
 case atStart=>exact⟨0,0,p7 _,j1 _,rfl,rfl,zA (tg _ _),zA (by simp)⟩
 case round =>
  obtain⟨i,n,hi,hn,rfl,rfl,HB,HE⟩:=hrel;by_cases zKZ:i<ls.length
  ·obtain⟨gl,sa,sn,sc,na,nn,nc,rfl,hgl,⟨c0,c1,c2,c3,c4,c5,c6,c7,c8,c9,c10⟩,_,_⟩:=(HL.out.below HB.out (j1 _)).line zKZ
   have hE:=HE.out;rw[GK _ _ i (by simpa using zKZ),jO]at hE;have HE2:=zA hE;have zL8:=HB.out.size;clear HE hE;generalize (pG ls i).1=x at *;obtain⟨kd,n1,lo,hi',cc,S,N,ro,te,de,lw⟩:=x;simp only at c0 c1 c2 c3 c4 c5 c6 c7 c8 c9 c10;by_cases k1:kd=k
   ·have HE3:Hid (n+1+vC k ((fs ls).drop (i+1))=vC k (fs ls)):=by have:=HE2.out;rw[tl k1]at this;unfold Hid;omega
    have b1:(kd==k)=true:=by simpa using k1
    clear HE2 k1;go_wp2_with fail
    go_roundw
    case rel=>exact⟨i+1,n+1,by omega,by omega,by go_num,by go_num,zA (HB.out.alloc zL8 _),HE3⟩
    case measure=>simp[intOf];omega
   ·have HE3:Hid (n+vC k ((fs ls).drop (i+1))=vC k (fs ls)):=by have:=HE2.out;rw[tb k1]at this;unfold Hid;omega
    have b1:(kd==k)=false:=by simpa using k1
    clear HE2 k1;go_wp2_with fail
    go_roundw
    case rel=>exact⟨i+1,n,by omega,by omega,rfl,by go_num,zA (HB.out.alloc zL8 _),HE3⟩
    case measure=>simp[intOf];omega
  ·have HE3:Hid (n=vC k (fs ls)):=by have:=HE.out;rw[pm (by simp;omega)]at this;exact this
   clear HE;go_wp2_with fail
   go_ret
   exact⟨yP (by rw[HE3.out]),HB.out⟩
theorem Cm(w:World)(a:Option Addr)(c:Nat)(ls:List LX)(nm:Bs)(h:jS w a ls) :
 Calls Tryz.prog 157 #[.slice a ls.length c,.string ⟨nm.toArray⟩] w fun e w'=>e=.returned (.int .i64 (uK (fs ls) nm))/\Below w.heap.size w w':=by
 have HL:=zA h;have zLE:=h.few;clear h
 go_enter Tryz.func157,Tryz.ntmps157
 go_wp2_with fail
 go_loopw [9] (fun iv wr=>∃(i:Nat),i<=ls.length/\iv=.int .i64 i/\Hid (Below w.heap.size w wr)/\Hid (tR (Zl 3 nm) ((fs ls).drop i) i=uK (fs ls) nm)) (fun iv _=>ls.length-(intOf iv).toNat)
 case atStart=>exact⟨0,p7 _,rfl,zA (tg _ _),zA rfl⟩
 case round =>
  obtain⟨i,hi,rfl,HB,HE⟩:=hrel;by_cases zKZ:i<ls.length
  ·obtain⟨gl,sa,sn,sc,na,nn,nc,rfl,hgl,⟨c0,c1,c2,c3,c4,c5,c6,c7,c8,c9,c10⟩,_,_⟩:=(HL.out.below HB.out (j1 _)).line zKZ
   have hE:=HE.out;rw[Cn _ _ i (by simpa using zKZ),jO]at hE;have HE2:=zA hE;have zL8:=HB.out.size;clear HE hE;generalize (pG ls i).1=x at *;obtain⟨kd,n1,lo,hi',cc,S,N,ro,te,de,lw⟩:=x;simp only at c0 c1 c2 c3 c4 c5 c6 c7 c8 c9 c10;by_cases k1:kd=3
   ·by_cases k2:n1=nm
    ·have HE3:Hid (uK (fs ls) nm=i):=by have:=HE2.out;unfold Hid;rw[<-this];simp[Zl,k1,k2]
     have b1:(kd==3)=true:=by simpa using k1
     have b2:(n1==nm)=true:=by simpa using k2
     clear HE2 k1 k2;go_wp2_with fail
     go_ret
     exact⟨yP (by rw[HE3.out]),HB.out.alloc zL8 _⟩
    ·have HE3:Hid (tR (Zl 3 nm) ((fs ls).drop (i+1)) (i+1)=uK (fs ls) nm):=by have:=HE2.out;unfold Hid;rw[<-this];simp[Zl,k2]
     have b1:(kd==3)=true:=by simpa using k1
     have b2:(n1==nm)=false:=by simpa using k2
     clear HE2 k1 k2;go_wp2_with fail
     go_roundw
     case rel=>exact⟨i+1,by omega,by go_num,zA (HB.out.alloc zL8 _),HE3⟩
     case measure=>simp[intOf];omega
   ·have HE3:Hid (tR (Zl 3 nm) ((fs ls).drop (i+1)) (i+1)=uK (fs ls) nm):=by have:=HE2.out;unfold Hid;rw[<-this];simp[Zl,k1]
    have b1:(kd==3)=false:=by simpa using k1
    clear HE2 k1;go_wp2_with fail
    go_roundw
    case rel=>exact⟨i+1,by omega,by go_num,zA (HB.out.alloc zL8 _),HE3⟩
    case measure=>simp[intOf];omega
  ·have HE3:Hid (uK (fs ls) nm=ls.length):=by have:=HE.out;rw[pm (by simp;omega)]at this;unfold Hid;rw[<-this];simp only[tR];omega
   clear HE;go_wp2_with fail
   go_ret
   exact⟨yP (by rw[HE3.out]),HB.out⟩
theorem zEF(w:World):Calls Tryz.prog 110 #[.int .i64 k] w fun e w'=>e=.returned (.int .i64 (Yd k))/\w'=w:=by
 by_cases h1:k=1
 ·subst h1
  go_enter Tryz.func110,Tryz.ntmps110
  go_wp2_with fail
  go_ret;exact⟨rfl,rfl⟩
 ·by_cases h2:k=2
  ·subst h2
   go_enter Tryz.func110,Tryz.ntmps110
   go_wp2_with fail
   go_ret;exact⟨rfl,rfl⟩
  ·by_cases h3:k=3
   ·subst h3
    go_enter Tryz.func110,Tryz.ntmps110
    go_wp2_with fail
    go_ret;exact⟨rfl,rfl⟩
   ·by_cases h4:k=4
    ·subst h4
     go_enter Tryz.func110,Tryz.ntmps110
     go_wp2_with fail
     go_ret;exact⟨rfl,rfl⟩
    ·have HR:Hid (Yd k=0):=by unfold Hid Yd;rw[tb h1,tb h2,tb h3,tb h4]
     have b1:(k==1)=false:=by simpa using h1
     have b2:(k==2)=false:=by simpa using h2
     have b3:(k==3)=false:=by simpa using h3
     have b4:(k==4)=false:=by simpa using h4
     clear h1 h2 h3 h4
     go_enter Tryz.func110,Tryz.ntmps110
     go_wp2_with fail
     go_ret;exact⟨yP HR.out.symm,rfl⟩
structure zk(w:World)(a:Option Addr)(S:List xE):Prop where
 blk:0<S.length->∃g yK,a=some ⟨g,0,none⟩/\Ko w g yK S
 few:S.length<=maxLen
theorem zk.below{S:List xE}(h:zk w a S)(hb:Below B w w')(hB:w.heap.size<=B):zk w' a S :=
 ⟨fun h0=>let ⟨g,yK,e,p⟩:=h.blk h0;⟨g,yK,e,p.below hb hB⟩,h.few⟩
structure zBR(w:World)(a:Option Addr)(N:List zT):Prop where
 blk:0<N.length->∃g yK,a=some ⟨g,0,none⟩/\Kp w g yK N
 few:N.length<=maxLen
theorem zBR.below{N:List zT}(h:zBR w a N)(hb:Below B w w')(hB:w.heap.size<=B):zBR w' a N :=
 ⟨fun h0=>let ⟨g,yK,e,p⟩:=h.blk h0;⟨g,yK,e,p.below hb hB⟩,h.few⟩
end Go.Proofs.YtnbpdffdnphbeabGreatDoor
