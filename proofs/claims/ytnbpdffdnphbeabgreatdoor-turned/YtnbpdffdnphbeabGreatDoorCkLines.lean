import Derived.Test.YtnbpdffdnphbeabGreatDoorPGraph
set_option maxHeartbeats 1000000
namespace Go.Proofs.YtnbpdffdnphbeabGreatDoor
open Go.RowKit
variable{B:Nat}{a:Option Addr}{w' w:World}(ls:List LX)(k:Int)
theorem KD.below{gN:Nat}{yL:Array Value}{N:List zR}(h:KD w gN yL N)(hb:Below B w w')(hB:w.heap.size<=B):KD w' gN yL N:=by
 refine⟨?_,h.row⟩;rw[hb.block gN (tj h.lt hB)];exact h.blk
theorem KC.below{gS:Nat}{yL:Array Value}{S:List xI}(h:KC w gS yL S)(hb:Below B w w')(hB:w.heap.size<=B):KC w' gS yL S:=by
 refine⟨?_,h.row⟩;rw[hb.block gS (tj h.lt hB)];exact h.blk
theorem UK.below{gl:Nat}{yL:Array Value}{ls:List LX}(h:UK w gl yL ls)(hb:Below B w w')(hB:w.heap.size<=B):UK w' gl yL ls:=by
 refine⟨?_,h.row⟩;rw[hb.block gl (tj h.lt hB)];exact h.blk
theorem Qw.below{x:LX}(h:Qw w x)(hb:Below B w w')(hB:w.heap.size<=B):Qw w' x :=
 ⟨h.s1,h.s2,fun h0=>let ⟨g,c,yL,e,p⟩:=h.sum h0;⟨g,c,yL,e,p.below hb hB⟩,fun h0=>let ⟨g,c,yL,e,p⟩:=h.nod h0;⟨g,c,yL,e,p.below hb hB⟩⟩
structure Yt(w:World)(x:LX):Prop where
 b:Qw w x
 g:gQ x.1
 nds:x.1.nd.length<=maxLen
theorem Yt.below{x:LX}(h:Yt w x)(hb:Below B w w')(hB:w.heap.size<=B):Yt w' x:=⟨h.b.below hb hB,h.g,h.nds⟩
structure tC(w:World)(a:Option Addr)(ls:List LX):Prop where
 blk:0<ls.length->∃gl yL,a=some ⟨gl,0,none⟩/\UK w gl yL ls
 rows:∀x∈ls,Yt w x
 few:ls.length<=10000
theorem tC.below{ls:List LX}(h:tC w a ls)(hb:Below B w w')(hB:w.heap.size<=B):tC w' a ls :=
 ⟨fun h0=>let ⟨gl,yL,e,p⟩:=h.blk h0;⟨gl,yL,e,p.below hb hB⟩,fun x hx=>(h.rows x hx).below hb hB,h.few⟩
theorem C3(n:Nat)(h:n<=ls.length):(mG ls).take (n*11)=mG (ls.take n):=by
 induction ls generalizing n with
 | nil=>simp[mG]
 | cons x r ih =>
   cases n with
   | zero=>simp[mG]
   | succ n =>
     have e:∀(y:LX) (l:List LX),mG (y::l)=aT y++mG l:=fun y l=>by simp[mG]
     have hl:(aT x).length=11:=rfl;rw[List.take_succ_cons,e,e,List.take_append,hl,di (by rw[hl];omega),show (n+1)*11-11=n*11 by omega,ih n (by simpa using h)]
theorem tC.take{ls:List LX}(h:tC w a ls)(n:Nat):tC w a (ls.take n):=by
 refine⟨fun h0=>?_,fun x hx=>h.rows x (List.mem_of_mem_take hx),by have:=h.few;rw[cp];omega⟩;rw[cp]at h0;obtain⟨gl,yL,e,p⟩:=h.blk (by omega);refine⟨gl,yL,e,p.blk,?_⟩;rcases Nat.le_total n ls.length with hn|hn
 ·rw[cp,Nat.min_eq_left hn,<-C3 ls n hn,<-p.row,List.take_take,Nat.min_eq_left (by omega)]
 ·rw[di hn];exact p.row
structure LnAt(w:World)(gl i:Nat)(x:zE)(sv nv:Value):Prop where
 c0:w.cell? ⟨gl,i*11,none⟩=some (.int .i64 x.kind)
 c1:w.cell? ⟨gl,i*11+1,none⟩=some (.string ⟨x.name.toArray⟩)
 c2:w.cell? ⟨gl,i*11+2,none⟩=some (.int .i64 x.low)
 c3:w.cell? ⟨gl,i*11+3,none⟩=some (.int .i64 x.high)
 c4:w.cell? ⟨gl,i*11+4,none⟩=some (.string ⟨x.conc.toArray⟩)
 c5:w.cell? ⟨gl,i*11+5,none⟩=some sv
 c6:w.cell? ⟨gl,i*11+6,none⟩=some nv
 c7:w.cell? ⟨gl,i*11+7,none⟩=some (.int .i64 x.root)
 c8:w.cell? ⟨gl,i*11+8,none⟩=some (.int .i64 x.tests)
 c9:w.cell? ⟨gl,i*11+9,none⟩=some (.int .i64 x.dep)
 c10:w.cell? ⟨gl,i*11+10,none⟩=some (.string ⟨x.lower.toArray⟩)
theorem tC.line{ls:List LX}(h:tC w a ls){i:Nat}(hi:i<ls.length) :
 ∃gl sa sn sc na nn nc,a=some ⟨gl,0,none⟩/\gl<w.heap.size/\LnAt w gl i (pM ls i).1 (.slice sa sn sc) (.slice na nn nc)/\(pM ls i).2=(.slice sa sn sc,.slice na nn nc)/\Yt w (pM ls i):=by
 obtain⟨gl,yL,rfl,p⟩:=h.blk (by omega);have hb:=h.rows _ (YC hi);obtain⟨sa,sn,sc,e1⟩:=hb.b.s1;obtain⟨na,nn,nc,e2⟩:=hb.b.s2;have hx:=fun j hj (u:Value) hu=>p.cell hi j hj (u:=u) hu;refine⟨gl,sa,sn,sc,na,nn,nc,rfl,p.lt,⟨hx 0 (by omega) _ rfl,hx 1 (by omega) _ rfl,hx 2 (by omega) _ rfl,hx 3 (by omega) _ rfl,hx 4 (by omega) _ rfl,hx 5 (by omega) _ (by rw[<-e1];rfl),hx 6 (by omega) _ (by rw[<-e2];rfl),hx 7 (by omega) _ rfl,hx 8 (by omega) _ rfl,hx 9 (by omega) _ rfl,hx 10 (by omega) _ rfl⟩,?_,hb⟩;rw[<-e1,<-e2]
theorem sE{α:Type}(p:α->Bool)(d:α)(l:List α)(i:Nat)(h:i<l.length):(l.drop i).any p=(p (l.getD i d) || (l.drop (i+1)).any p):=by
 rw[pq h,cg];simp[List.getD,h]
abbrev fs(ls:List LX):List zE:=ls.map Prod.fst
theorem jY(i:Nat):lA (fs ls) i=(pM ls i).1:=by
 unfold lA pM;simp only[List.getD,List.getElem?_map];cases ls[i]? <;> rfl
theorem ze(w:World)(a:Option Addr)(c:Nat)(ls:List LX)(k:Int)(nm:Bs)(h:tC w a ls) :
 Calls Tryz.prog 153 #[.slice a ls.length c,.int .i64 k,.string ⟨nm.toArray⟩] w fun e w'=>e=.returned (.bool (vQ (fs ls) k nm))/\Below w.heap.size w w':=by
 have HL:=zA h;have zLX:=h.few;clear h
 go_enter Tryz.func153,Tryz.ntmps153
 go_wp2_with fail
 go_loopw [11] (fun iv wr=>∃(i:Nat),i<=ls.length/\iv=.int .i64 i/\Hid (Below w.heap.size w wr)/\Hid (((fs ls).drop i).any (iP k nm)=vQ (fs ls) k nm)) (fun iv _=>ls.length-(intOf iv).toNat)
 case atStart=>exact⟨0,tx _,rfl,zA (tg _ _),zA rfl⟩
 case round =>
  obtain⟨i,hi,rfl,HB,HE⟩:=hrel;by_cases zLL:i<ls.length
  ·obtain⟨gl,sa,sn,sc,na,nn,nc,rfl,hgl,⟨c0,c1,c2,c3,c4,c5,c6,c7,c8,c9,c10⟩,_,_⟩:=(HL.out.below HB.out (j1 _)).line zLL
   have hE:=HE.out;rw[sE _ Yw _ i (by simpa using zLL),show (fs ls).getD i Yw=lA (fs ls) i from rfl,jY]at hE;have HE2:=zA hE;have zLQ:=HB.out.size;clear HE hE;generalize (pM ls i).1=x at *;obtain⟨kd,n1,lo,hi',cc,S,N,ro,te,de,lw⟩:=x;simp only at c0 c1 c2 c3 c4 c5 c6 c7 c8 c9 c10;by_cases k1:kd=k
   ·by_cases k2:n1=nm
    ·have HE3:Hid (vQ (fs ls) k nm=true):=by have:=HE2.out;unfold Hid;rw[<-this];simp[iP,k1,k2]
     have b1:(kd==k)=true:=by simpa using k1
     have b2:(n1==nm)=true:=by simpa using k2
     clear HE2 k1 k2;go_wp2_with fail
     go_ret
     exact⟨zF HE3.out.symm,HB.out.alloc zLQ _⟩
    ·have HE3:Hid (((fs ls).drop (i+1)).any (iP k nm)=vQ (fs ls) k nm):=by have:=HE2.out;unfold Hid;rw[<-this];simp[iP,k2]
     have b1:(kd==k)=true:=by simpa using k1
     have b2:(n1==nm)=false:=by simpa using k2
     clear HE2 k1 k2;go_wp2_with fail
     go_roundw
     case rel=>exact⟨i+1,by omega,by go_num,zA (HB.out.alloc zLQ _),HE3⟩
     case measure=>simp[intOf];omega
   ·have HE3:Hid (((fs ls).drop (i+1)).any (iP k nm)=vQ (fs ls) k nm):=by have:=HE2.out;unfold Hid;rw[<-this];simp[iP,k1]
    have b1:(kd==k)=false:=by simpa using k1
    clear HE2 k1;go_wp2_with fail
    go_roundw
    case rel=>exact⟨i+1,by omega,by go_num,zA (HB.out.alloc zLQ _),HE3⟩
    case measure=>simp[intOf];omega
  ·have HE3:Hid (vQ (fs ls) k nm=false):=by have:=HE.out;rw[ph (by simp;omega)]at this;exact this.symm
   clear HE;go_wp2_with fail
   go_ret
   exact⟨zF HE3.out.symm,HB.out⟩
theorem yu(ls:List zE)(i:Nat)(h:i<ls.length):xT k (ls.drop i)=(if (lA ls i).kind=k then 1 else 0)+xT k (ls.drop (i+1)):=by
 rw[pq h,xT];simp[lA,List.getD,h]
theorem zG3(ls:List zE):xT k ls<=ls.length:=by
 induction ls with
 | nil=>exact j1 _
 | cons x r ih=>rw[xT,p9];split <;> omega
theorem C9(p:zE->Bool)(ls:List zE)(i:Nat)(h:i<ls.length):kO p (ls.drop i) i=if p (lA ls i) then i else kO p (ls.drop (i+1)) (i+1):=by
 rw[pq h,kO];simp[lA,List.getD,h]
theorem ZL:(fs ls).length=ls.length:=by simp
theorem XD(w:World)(a:Option Addr)(c:Nat)(ls:List LX)(nm:Bs)(h:tC w a ls) :
 Calls Tryz.prog 154 #[.slice a ls.length c,.string ⟨nm.toArray⟩] w fun e w'=>e=.returned (.bool (jE (fs ls) nm))/\Below w.heap.size w w':=by
 have HL:=zA h;have zLX:=h.few;clear h
 go_enter Tryz.func154,Tryz.ntmps154
 go_wp2_with fail
 go_loopw [9] (fun iv wr=>∃(i:Nat),i<=ls.length/\iv=.int .i64 i/\Hid (Below w.heap.size w wr)/\Hid (((fs ls).drop i).any (DO nm)=jE (fs ls) nm)) (fun iv _=>ls.length-(intOf iv).toNat)
 case atStart=>exact⟨0,tx _,rfl,zA (tg _ _),zA rfl⟩
 case round =>
  obtain⟨i,hi,rfl,HB,HE⟩:=hrel;by_cases zLL:i<ls.length
  ·obtain⟨gl,sa,sn,sc,na,nn,nc,rfl,hgl,⟨c0,c1,c2,c3,c4,c5,c6,c7,c8,c9,c10⟩,_,_⟩:=(HL.out.below HB.out (j1 _)).line zLL
   have hE:=HE.out;rw[sE _ Yw _ i (by simpa using zLL),show (fs ls).getD i Yw=lA (fs ls) i from rfl,jY]at hE;have HE2:=zA hE;have zLQ:=HB.out.size;clear HE hE;generalize (pM ls i).1=x at *;obtain⟨kd,n1,lo,hi',cc,S,N,ro,te,de,lw⟩:=x;simp only at c0 c1 c2 c3 c4 c5 c6 c7 c8 c9 c10;by_cases k1:kd=3
   ·by_cases k2:cc=nm
    ·have HE3:Hid (jE (fs ls) nm=true):=by have:=HE2.out;unfold Hid;rw[<-this];simp[DO,k1,k2]
     have b1:(kd==3)=true:=by simpa using k1
     have b2:(cc==nm)=true:=by simpa using k2
     clear HE2 k1 k2;go_wp2_with fail
     go_ret
     exact⟨zF HE3.out.symm,HB.out.alloc zLQ _⟩
    ·have HE3:Hid (((fs ls).drop (i+1)).any (DO nm)=jE (fs ls) nm):=by have:=HE2.out;unfold Hid;rw[<-this];simp[DO,k2]
     have b1:(kd==3)=true:=by simpa using k1
     have b2:(cc==nm)=false:=by simpa using k2
     clear HE2 k1 k2;go_wp2_with fail
     go_roundw
     case rel=>exact⟨i+1,by omega,by go_num,zA (HB.out.alloc zLQ _),HE3⟩
     case measure=>simp[intOf];omega
   ·have HE3:Hid (((fs ls).drop (i+1)).any (DO nm)=jE (fs ls) nm):=by have:=HE2.out;unfold Hid;rw[<-this];simp[DO,k1]
    have b1:(kd==3)=false:=by simpa using k1
    clear HE2 k1;go_wp2_with fail
    go_roundw
    case rel=>exact⟨i+1,by omega,by go_num,zA (HB.out.alloc zLQ _),HE3⟩
    case measure=>simp[intOf];omega
  ·have HE3:Hid (jE (fs ls) nm=false):=by have:=HE.out;rw[ph (by simp;omega)]at this;exact this.symm
   clear HE;go_wp2_with fail
   go_ret
   exact⟨zF HE3.out.symm,HB.out⟩
theorem Ur(w:World)(a:Option Addr)(c:Nat)(ls:List LX)(k:Int)(h:tC w a ls) :
 Calls Tryz.prog 109 #[.slice a ls.length c,.int .i64 k] w fun e w'=>e=.returned (.int .i64 (xT k (fs ls)))/\Below w.heap.size w w':=by
 have HL:=zA h;have zLX:=h.few;clear h
 go_enter Tryz.func109,Tryz.ntmps109
 go_wp2_with fail
 go_loopw [5,10] (fun nv iv wr=>∃(i n:Nat),i<=ls.length/\n<=i/\nv=.int .i64 n/\iv=.int .i64 i/\Hid (Below w.heap.size w wr)/\Hid (n+xT k ((fs ls).drop i)=xT k (fs ls))) (fun _ iv _=>ls.length-(intOf iv).toNat)
 case atStart=>exact⟨0,0,tx _,j1 _,rfl,rfl,zA (tg _ _),zA (by simp)⟩
 case round =>
  obtain⟨i,n,hi,hn,rfl,rfl,HB,HE⟩:=hrel;by_cases zLL:i<ls.length
  ·obtain⟨gl,sa,sn,sc,na,nn,nc,rfl,hgl,⟨c0,c1,c2,c3,c4,c5,c6,c7,c8,c9,c10⟩,_,_⟩:=(HL.out.below HB.out (j1 _)).line zLL
   have hE:=HE.out;rw[yu _ _ i (by simpa using zLL),jY]at hE;have HE2:=zA hE;have zLQ:=HB.out.size;clear HE hE;generalize (pM ls i).1=x at *;obtain⟨kd,n1,lo,hi',cc,S,N,ro,te,de,lw⟩:=x;simp only at c0 c1 c2 c3 c4 c5 c6 c7 c8 c9 c10;by_cases k1:kd=k
   ·have HE3:Hid (n+1+xT k ((fs ls).drop (i+1))=xT k (fs ls)):=by have:=HE2.out;rw[tl k1]at this;unfold Hid;omega
    have b1:(kd==k)=true:=by simpa using k1
    clear HE2 k1;go_wp2_with fail
    go_roundw
    case rel=>exact⟨i+1,n+1,by omega,by omega,by go_num,by go_num,zA (HB.out.alloc zLQ _),HE3⟩
    case measure=>simp[intOf];omega
   ·have HE3:Hid (n+xT k ((fs ls).drop (i+1))=xT k (fs ls)):=by have:=HE2.out;rw[tb k1]at this;unfold Hid;omega
    have b1:(kd==k)=false:=by simpa using k1
    clear HE2 k1;go_wp2_with fail
    go_roundw
    case rel=>exact⟨i+1,n,by omega,by omega,rfl,by go_num,zA (HB.out.alloc zLQ _),HE3⟩
    case measure=>simp[intOf];omega
  ·have HE3:Hid (n=xT k (fs ls)):=by have:=HE.out;rw[ph (by simp;omega)]at this;exact this
   clear HE;go_wp2_with fail
   go_ret
   exact⟨yP (by rw[HE3.out]),HB.out⟩
theorem C7(w:World)(a:Option Addr)(c:Nat)(ls:List LX)(nm:Bs)(h:tC w a ls) :
 Calls Tryz.prog 157 #[.slice a ls.length c,.string ⟨nm.toArray⟩] w fun e w'=>e=.returned (.int .i64 (xV (fs ls) nm))/\Below w.heap.size w w':=by
 have HL:=zA h;have zLX:=h.few;clear h
 go_enter Tryz.func157,Tryz.ntmps157
 go_wp2_with fail
 go_loopw [9] (fun iv wr=>∃(i:Nat),i<=ls.length/\iv=.int .i64 i/\Hid (Below w.heap.size w wr)/\Hid (kO (iP 3 nm) ((fs ls).drop i) i=xV (fs ls) nm)) (fun iv _=>ls.length-(intOf iv).toNat)
 case atStart=>exact⟨0,tx _,rfl,zA (tg _ _),zA rfl⟩
 case round =>
  obtain⟨i,hi,rfl,HB,HE⟩:=hrel;by_cases zLL:i<ls.length
  ·obtain⟨gl,sa,sn,sc,na,nn,nc,rfl,hgl,⟨c0,c1,c2,c3,c4,c5,c6,c7,c8,c9,c10⟩,_,_⟩:=(HL.out.below HB.out (j1 _)).line zLL
   have hE:=HE.out;rw[C9 _ _ i (by simpa using zLL),jY]at hE;have HE2:=zA hE;have zLQ:=HB.out.size;clear HE hE;generalize (pM ls i).1=x at *;obtain⟨kd,n1,lo,hi',cc,S,N,ro,te,de,lw⟩:=x;simp only at c0 c1 c2 c3 c4 c5 c6 c7 c8 c9 c10;by_cases k1:kd=3
   ·by_cases k2:n1=nm
    ·have HE3:Hid (xV (fs ls) nm=i):=by have:=HE2.out;unfold Hid;rw[<-this];simp[iP,k1,k2]
     have b1:(kd==3)=true:=by simpa using k1
     have b2:(n1==nm)=true:=by simpa using k2
     clear HE2 k1 k2;go_wp2_with fail
     go_ret
     exact⟨yP (by rw[HE3.out]),HB.out.alloc zLQ _⟩
    ·have HE3:Hid (kO (iP 3 nm) ((fs ls).drop (i+1)) (i+1)=xV (fs ls) nm):=by have:=HE2.out;unfold Hid;rw[<-this];simp[iP,k2]
     have b1:(kd==3)=true:=by simpa using k1
     have b2:(n1==nm)=false:=by simpa using k2
     clear HE2 k1 k2;go_wp2_with fail
     go_roundw
     case rel=>exact⟨i+1,by omega,by go_num,zA (HB.out.alloc zLQ _),HE3⟩
     case measure=>simp[intOf];omega
   ·have HE3:Hid (kO (iP 3 nm) ((fs ls).drop (i+1)) (i+1)=xV (fs ls) nm):=by have:=HE2.out;unfold Hid;rw[<-this];simp[iP,k1]
    have b1:(kd==3)=false:=by simpa using k1
    clear HE2 k1;go_wp2_with fail
    go_roundw
    case rel=>exact⟨i+1,by omega,by go_num,zA (HB.out.alloc zLQ _),HE3⟩
    case measure=>simp[intOf];omega
  ·have HE3:Hid (xV (fs ls) nm=ls.length):=by have:=HE.out;rw[ph (by simp;omega)]at this;unfold Hid;rw[<-this];simp only[kO];omega
   clear HE;go_wp2_with fail
   go_ret
   exact⟨yP (by rw[HE3.out]),HB.out⟩
theorem zF4(w:World):Calls Tryz.prog 110 #[.int .i64 k] w fun e w'=>e=.returned (.int .i64 (Yy k))/\w'=w:=by
 by_cases h1:k=1
 ·subst h1
  go_enter Tryz.func110,Tryz.ntmps110
  go_wp2_with fail
  go_ret;exact⟨rfl,rfl⟩
 ·by_cases h2:k=2
  ·subst h2
   go_enter Tryz.func110,Tryz.ntmps110
   go_wp2_with fail
   go_ret;exact⟨rfl,rfl⟩
  ·by_cases h3:k=3
   ·subst h3
    go_enter Tryz.func110,Tryz.ntmps110
    go_wp2_with fail
    go_ret;exact⟨rfl,rfl⟩
   ·by_cases h4:k=4
    ·subst h4
     go_enter Tryz.func110,Tryz.ntmps110
     go_wp2_with fail
     go_ret;exact⟨rfl,rfl⟩
    ·have HR:Hid (Yy k=0):=by unfold Hid Yy;rw[tb h1,tb h2,tb h3,tb h4]
     have b1:(k==1)=false:=by simpa using h1
     have b2:(k==2)=false:=by simpa using h2
     have b3:(k==3)=false:=by simpa using h3
     have b4:(k==4)=false:=by simpa using h4
     clear h1 h2 h3 h4
     go_enter Tryz.func110,Tryz.ntmps110
     go_wp2_with fail
     go_ret;exact⟨yP HR.out.symm,rfl⟩
structure xy(w:World)(a:Option Addr)(S:List xI):Prop where
 blk:0<S.length->∃g yL,a=some ⟨g,0,none⟩/\KC w g yL S
 few:S.length<=maxLen
theorem xy.below{S:List xI}(h:xy w a S)(hb:Below B w w')(hB:w.heap.size<=B):xy w' a S :=
 ⟨fun h0=>let ⟨g,yL,e,p⟩:=h.blk h0;⟨g,yL,e,p.below hb hB⟩,h.few⟩
structure zCL(w:World)(a:Option Addr)(N:List zR):Prop where
 blk:0<N.length->∃g yL,a=some ⟨g,0,none⟩/\KD w g yL N
 few:N.length<=maxLen
theorem zCL.below{N:List zR}(h:zCL w a N)(hb:Below B w w')(hB:w.heap.size<=B):zCL w' a N :=
 ⟨fun h0=>let ⟨g,yL,e,p⟩:=h.blk h0;⟨g,yL,e,p.below hb hB⟩,h.few⟩
end Go.Proofs.YtnbpdffdnphbeabGreatDoor
