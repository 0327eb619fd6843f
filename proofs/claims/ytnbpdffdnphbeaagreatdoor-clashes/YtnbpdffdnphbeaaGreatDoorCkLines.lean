import Derived.Test.YtnbpdffdnphbeaaGreatDoorPGraph
set_option maxHeartbeats 1000000
namespace Go.Proofs.YtnbpdffdnphbeaaGreatDoor
open Go.RowKit
variable{B:Nat}{a:Option Addr}{w' w:World}(ls:List LX)(k:Int)
theorem YL.below{gN:Nat}{yW:Array Value}{N:List zX}(h:YL w gN yW N)(hb:Below B w w')(hB:w.heap.size<=B):YL w' gN yW N:=by
 refine⟨?_,h.row⟩;rw[hb.block gN (ti h.lt hB)];exact h.blk
theorem YJ.below{gS:Nat}{yW:Array Value}{S:List yZ}(h:YJ w gS yW S)(hb:Below B w w')(hB:w.heap.size<=B):YJ w' gS yW S:=by
 refine⟨?_,h.row⟩;rw[hb.block gS (ti h.lt hB)];exact h.blk
theorem UT.below{gl:Nat}{yW:Array Value}{ls:List LX}(h:UT w gl yW ls)(hb:Below B w w')(hB:w.heap.size<=B):UT w' gl yW ls:=by
 refine⟨?_,h.row⟩;rw[hb.block gl (ti h.lt hB)];exact h.blk
theorem Q8.below{x:LX}(h:Q8 w x)(hb:Below B w w')(hB:w.heap.size<=B):Q8 w' x :=
 ⟨h.s1,h.s2,fun h0=>let ⟨g,c,yW,e,p⟩:=h.sum h0;⟨g,c,yW,e,p.below hb hB⟩,fun h0=>let ⟨g,c,yW,e,p⟩:=h.nod h0;⟨g,c,yW,e,p.below hb hB⟩⟩
structure Y7(w:World)(x:LX):Prop where
 b:Q8 w x
 g:gE x.1
 nds:x.1.nd.length<=maxLen
theorem Y7.below{x:LX}(h:Y7 w x)(hb:Below B w w')(hB:w.heap.size<=B):Y7 w' x:=⟨h.b.below hb hB,h.g,h.nds⟩
structure pG(w:World)(a:Option Addr)(ls:List LX):Prop where
 blk:0<ls.length->∃gl yW,a=some ⟨gl,0,none⟩/\UT w gl yW ls
 rows:∀x∈ls,Y7 w x
 few:ls.length<=10000
theorem pG.below{ls:List LX}(h:pG w a ls)(hb:Below B w w')(hB:w.heap.size<=B):pG w' a ls :=
 ⟨fun h0=>let ⟨gl,yW,e,p⟩:=h.blk h0;⟨gl,yW,e,p.below hb hB⟩,fun x hx=>(h.rows x hx).below hb hB,h.few⟩
theorem CQ(n:Nat)(h:n<=ls.length):(bA ls).take (n*11)=bA (ls.take n):=by
 induction ls generalizing n with
 | nil=>simp[bA]
 | cons x r ih =>
   cases n with
   | zero=>simp[bA]
   | succ n =>
     have e:∀(y:LX) (l:List LX),bA (y::l)=eE y++bA l:=fun y l=>by simp[bA]
     have hl:(eE x).length=11:=rfl;rw[List.take_succ_cons,e,e,List.take_append,hl,cf (by rw[hl];omega),show (n+1)*11-11=n*11 by omega,ih n (by simpa using h)]
theorem pG.take{ls:List LX}(h:pG w a ls)(n:Nat):pG w a (ls.take n):=by
 refine⟨fun h0=>?_,fun x hx=>h.rows x (List.mem_of_mem_take hx),by have:=h.few;rw[p9];omega⟩;rw[p9]at h0;obtain⟨gl,yW,e,p⟩:=h.blk (by omega);refine⟨gl,yW,e,p.blk,?_⟩;rcases Nat.le_total n ls.length with hn|hn
 ·rw[p9,da hn,<-CQ ls n hn,<-p.row,List.take_take,da (by omega)]
 ·rw[cf hn];exact p.row
structure LnAt(w:World)(gl i:Nat)(x:zF)(sv nv:Value):Prop where
 c0:w.cell? ⟨gl,i*11,none⟩=some (.int .i64 x.kind)
 c1:w.cell? ⟨gl,i*11+1,none⟩=some (.string ⟨x.name.toArray⟩)
 c2:w.cell? ⟨gl,i*11+2,none⟩=some (.int .i64 x.low)
 c3:w.cell? ⟨gl,i*11+3,none⟩=some (.int .i64 x.high)
 c4:w.cell? ⟨gl,i*11+4,none⟩=some (.string ⟨x.conc.toArray⟩)
 c5:w.cell? ⟨gl,i*11+5,none⟩=some sv
 c6:w.cell? ⟨gl,i*11+6,none⟩=some nv
 c7:w.cell? ⟨gl,i*11+7,none⟩=some (.int .i64 x.root)
 c8:w.cell? ⟨gl,i*11+8,none⟩=some (.int .i64 x.tests)
 c9:w.cell? ⟨gl,i*11+9,none⟩=some (.int .i64 x.dep)
 c10:w.cell? ⟨gl,i*11+10,none⟩=some (.string ⟨x.lower.toArray⟩)
theorem pG.line{ls:List LX}(h:pG w a ls){i:Nat}(hi:i<ls.length) :
 ∃gl sa sn sc na nn nc,a=some ⟨gl,0,none⟩/\gl<w.heap.size/\LnAt w gl i (mZ ls i).1 (.slice sa sn sc) (.slice na nn nc)/\(mZ ls i).2=(.slice sa sn sc,.slice na nn nc)/\Y7 w (mZ ls i):=by
 obtain⟨gl,yW,rfl,p⟩:=h.blk (by omega);have hb:=h.rows _ (YY hi);obtain⟨sa,sn,sc,e1⟩:=hb.b.s1;obtain⟨na,nn,nc,e2⟩:=hb.b.s2;have hx:=fun j hj (u:Value) hu=>p.cell hi j hj (u:=u) hu;refine⟨gl,sa,sn,sc,na,nn,nc,rfl,p.lt,⟨hx 0 (by omega) _ rfl,hx 1 (by omega) _ rfl,hx 2 (by omega) _ rfl,hx 3 (by omega) _ rfl,hx 4 (by omega) _ rfl,hx 5 (by omega) _ (by rw[<-e1];rfl),hx 6 (by omega) _ (by rw[<-e2];rfl),hx 7 (by omega) _ rfl,hx 8 (by omega) _ rfl,hx 9 (by omega) _ rfl,hx 10 (by omega) _ rfl⟩,?_,hb⟩;rw[<-e1,<-e2]
theorem sU{α:Type}(p:α->Bool)(d:α)(l:List α)(i:Nat)(h:i<l.length):(l.drop i).any p=(p (l.getD i d) || (l.drop (i+1)).any p):=by
 rw[pb h,mt];simp[List.getD,h]
abbrev fs(ls:List LX):List zF:=ls.map Prod.fst
theorem pC(i:Nat):lA (fs ls) i=(mZ ls i).1:=by
 unfold lA mZ;simp only[List.getD,List.getElem?_map];cases ls[i]? <;> rfl
theorem GM(w:World)(a:Option Addr)(c:Nat)(ls:List LX)(k:Int)(nm:Bs)(h:pG w a ls) :
 Calls Tryz.prog 219 #[.slice a ls.length c,.int .i64 k,.string ⟨nm.toArray⟩] w fun e w'=>e=.returned (.bool (vR (fs ls) k nm))/\Below w.heap.size w w':=by
 have HL:=zA h;have zII:=h.few;clear h
 go_enter Tryz.func219,Tryz.ntmps219
 go_wp2_with fail
 go_loopw [11] (fun iv wr=>∃(i:Nat),i<=ls.length/\iv=.int .i64 i/\Hid (Below w.heap.size w wr)/\Hid (((fs ls).drop i).any (Zo k nm)=vR (fs ls) k nm)) (fun iv _=>ls.length-(intOf iv).toNat)
 case atStart=>exact⟨0,tr _,rfl,zA (tj _ _),zA rfl⟩
 case round =>
  obtain⟨i,hi,rfl,HB,HE⟩:=hrel;by_cases zI6:i<ls.length
  ·obtain⟨gl,sa,sn,sc,na,nn,nc,rfl,hgl,⟨c0,c1,c2,c3,c4,c5,c6,c7,c8,c9,c10⟩,_,_⟩:=(HL.out.below HB.out (t9 _)).line zI6
   have hE:=HE.out;rw[sU _ Vc _ i (by simpa using zI6),show (fs ls).getD i Vc=lA (fs ls) i from rfl,pC]at hE;have HE2:=zA hE;have zIJ:=HB.out.size;clear HE hE;generalize (mZ ls i).1=x at *;obtain⟨kd,n1,lo,hi',cc,S,N,ro,te,de,lw⟩:=x;simp only at c0 c1 c2 c3 c4 c5 c6 c7 c8 c9 c10;by_cases k1:kd=k
   ·by_cases k2:n1=nm
    ·have HE3:Hid (vR (fs ls) k nm=true):=by have:=HE2.out;unfold Hid;rw[<-this];simp[Zo,k1,k2]
     have b1:(kd==k)=true:=by simpa using k1
     have b2:(n1==nm)=true:=by simpa using k2
     clear HE2 k1 k2;go_wp2_with fail
     go_ret
     exact⟨zE HE3.out.symm,HB.out.alloc zIJ _⟩
    ·have HE3:Hid (((fs ls).drop (i+1)).any (Zo k nm)=vR (fs ls) k nm):=by have:=HE2.out;unfold Hid;rw[<-this];simp[Zo,k2]
     have b1:(kd==k)=true:=by simpa using k1
     have b2:(n1==nm)=false:=by simpa using k2
     clear HE2 k1 k2;go_wp2_with fail
     go_roundw
     case rel=>exact⟨i+1,by omega,by go_num,zA (HB.out.alloc zIJ _),HE3⟩
     case measure=>simp[intOf];omega
   ·have HE3:Hid (((fs ls).drop (i+1)).any (Zo k nm)=vR (fs ls) k nm):=by have:=HE2.out;unfold Hid;rw[<-this];simp[Zo,k1]
    have b1:(kd==k)=false:=by simpa using k1
    clear HE2 k1;go_wp2_with fail
    go_roundw
    case rel=>exact⟨i+1,by omega,by go_num,zA (HB.out.alloc zIJ _),HE3⟩
    case measure=>simp[intOf];omega
  ·have HE3:Hid (vR (fs ls) k nm=false):=by have:=HE.out;rw[tu (by simp;omega)]at this;exact this.symm
   clear HE;go_wp2_with fail
   go_ret
   exact⟨zE HE3.out.symm,HB.out⟩
theorem zt(ls:List zF)(i:Nat)(h:i<ls.length):qD k (ls.drop i)=(if (lA ls i).kind=k then 1 else 0)+qD k (ls.drop (i+1)):=by
 rw[pb h,qD];simp[lA,List.getD,h]
theorem zE1(ls:List zF):qD k ls<=ls.length:=by
 induction ls with
 | nil=>exact t9 _
 | cons x r ih=>rw[qD,p7];split <;> omega
theorem CU(p:zF->Bool)(ls:List zF)(i:Nat)(h:i<ls.length):pD p (ls.drop i) i=if p (lA ls i) then i else pD p (ls.drop (i+1)) (i+1):=by
 rw[pb h,pD];simp[lA,List.getD,h]
theorem ZS:(fs ls).length=ls.length:=by simp
theorem XU(w:World)(a:Option Addr)(c:Nat)(ls:List LX)(nm:Bs)(h:pG w a ls) :
 Calls Tryz.prog 220 #[.slice a ls.length c,.string ⟨nm.toArray⟩] w fun e w'=>e=.returned (.bool (jZ (fs ls) nm))/\Below w.heap.size w w':=by
 have HL:=zA h;have zII:=h.few;clear h
 go_enter Tryz.func220,Tryz.ntmps220
 go_wp2_with fail
 go_loopw [9] (fun iv wr=>∃(i:Nat),i<=ls.length/\iv=.int .i64 i/\Hid (Below w.heap.size w wr)/\Hid (((fs ls).drop i).any (Vd nm)=jZ (fs ls) nm)) (fun iv _=>ls.length-(intOf iv).toNat)
 case atStart=>exact⟨0,tr _,rfl,zA (tj _ _),zA rfl⟩
 case round =>
  obtain⟨i,hi,rfl,HB,HE⟩:=hrel;by_cases zI6:i<ls.length
  ·obtain⟨gl,sa,sn,sc,na,nn,nc,rfl,hgl,⟨c0,c1,c2,c3,c4,c5,c6,c7,c8,c9,c10⟩,_,_⟩:=(HL.out.below HB.out (t9 _)).line zI6
   have hE:=HE.out;rw[sU _ Vc _ i (by simpa using zI6),show (fs ls).getD i Vc=lA (fs ls) i from rfl,pC]at hE;have HE2:=zA hE;have zIJ:=HB.out.size;clear HE hE;generalize (mZ ls i).1=x at *;obtain⟨kd,n1,lo,hi',cc,S,N,ro,te,de,lw⟩:=x;simp only at c0 c1 c2 c3 c4 c5 c6 c7 c8 c9 c10;by_cases k1:kd=3
   ·by_cases k2:cc=nm
    ·have HE3:Hid (jZ (fs ls) nm=true):=by have:=HE2.out;unfold Hid;rw[<-this];simp[Vd,k1,k2]
     have b1:(kd==3)=true:=by simpa using k1
     have b2:(cc==nm)=true:=by simpa using k2
     clear HE2 k1 k2;go_wp2_with fail
     go_ret
     exact⟨zE HE3.out.symm,HB.out.alloc zIJ _⟩
    ·have HE3:Hid (((fs ls).drop (i+1)).any (Vd nm)=jZ (fs ls) nm):=by have:=HE2.out;unfold Hid;rw[<-this];simp[Vd,k2]
     have b1:(kd==3)=true:=by simpa using k1
     have b2:(cc==nm)=false:=by simpa using k2
     clear HE2 k1 k2;go_wp2_with fail
     go_roundw
     case rel=>exact⟨i+1,by omega,by go_num,zA (HB.out.alloc zIJ _),HE3⟩
     case measure=>simp[intOf];omega
   ·have HE3:Hid (((fs ls).drop (i+1)).any (Vd nm)=jZ (fs ls) nm):=by have:=HE2.out;unfold Hid;rw[<-this];simp[Vd,k1]
    have b1:(kd==3)=false:=by simpa using k1
    clear HE2 k1;go_wp2_with fail
    go_roundw
    case rel=>exact⟨i+1,by omega,by go_num,zA (HB.out.alloc zIJ _),HE3⟩
    case measure=>simp[intOf];omega
  ·have HE3:Hid (jZ (fs ls) nm=false):=by have:=HE.out;rw[tu (by simp;omega)]at this;exact this.symm
   clear HE;go_wp2_with fail
   go_ret
   exact⟨zE HE3.out.symm,HB.out⟩
theorem U2(w:World)(a:Option Addr)(c:Nat)(ls:List LX)(k:Int)(h:pG w a ls) :
 Calls Tryz.prog 159 #[.slice a ls.length c,.int .i64 k] w fun e w'=>e=.returned (.int .i64 (qD k (fs ls)))/\Below w.heap.size w w':=by
 have HL:=zA h;have zII:=h.few;clear h
 go_enter Tryz.func159,Tryz.ntmps159
 go_wp2_with fail
 go_loopw [5,10] (fun nv iv wr=>∃(i n:Nat),i<=ls.length/\n<=i/\nv=.int .i64 n/\iv=.int .i64 i/\Hid (Below w.heap.size w wr)/\Hid (n+qD k ((fs ls).drop i)=qD k (fs ls))) (fun _ iv _=>ls.length-(intOf iv).toNat)
 case atStart=>exact⟨0,0,tr _,t9 _,rfl,rfl,zA (tj _ _),zA (by simp)⟩
 case round =>
  obtain⟨i,n,hi,hn,rfl,rfl,HB,HE⟩:=hrel;by_cases zI6:i<ls.length
  ·obtain⟨gl,sa,sn,sc,na,nn,nc,rfl,hgl,⟨c0,c1,c2,c3,c4,c5,c6,c7,c8,c9,c10⟩,_,_⟩:=(HL.out.below HB.out (t9 _)).line zI6
   have hE:=HE.out;rw[zt _ _ i (by simpa using zI6),pC]at hE;have HE2:=zA hE;have zIJ:=HB.out.size;clear HE hE;generalize (mZ ls i).1=x at *;obtain⟨kd,n1,lo,hi',cc,S,N,ro,te,de,lw⟩:=x;simp only at c0 c1 c2 c3 c4 c5 c6 c7 c8 c9 c10;by_cases k1:kd=k
   ·have HE3:Hid (n+1+qD k ((fs ls).drop (i+1))=qD k (fs ls)):=by have:=HE2.out;rw[tl k1]at this;unfold Hid;omega
    have b1:(kd==k)=true:=by simpa using k1
    clear HE2 k1;go_wp2_with fail
    go_roundw
    case rel=>exact⟨i+1,n+1,by omega,by omega,by go_num,by go_num,zA (HB.out.alloc zIJ _),HE3⟩
    case measure=>simp[intOf];omega
   ·have HE3:Hid (n+qD k ((fs ls).drop (i+1))=qD k (fs ls)):=by have:=HE2.out;rw[tg k1]at this;unfold Hid;omega
    have b1:(kd==k)=false:=by simpa using k1
    clear HE2 k1;go_wp2_with fail
    go_roundw
    case rel=>exact⟨i+1,n,by omega,by omega,rfl,by go_num,zA (HB.out.alloc zIJ _),HE3⟩
    case measure=>simp[intOf];omega
  ·have HE3:Hid (n=qD k (fs ls)):=by have:=HE.out;rw[tu (by simp;omega)]at this;exact this
   clear HE;go_wp2_with fail
   go_ret
   exact⟨zY (by rw[HE3.out]),HB.out⟩
theorem CT(w:World)(a:Option Addr)(c:Nat)(ls:List LX)(nm:Bs)(h:pG w a ls) :
 Calls Tryz.prog 223 #[.slice a ls.length c,.string ⟨nm.toArray⟩] w fun e w'=>e=.returned (.int .i64 (qO (fs ls) nm))/\Below w.heap.size w w':=by
 have HL:=zA h;have zII:=h.few;clear h
 go_enter Tryz.func223,Tryz.ntmps223
 go_wp2_with fail
 go_loopw [9] (fun iv wr=>∃(i:Nat),i<=ls.length/\iv=.int .i64 i/\Hid (Below w.heap.size w wr)/\Hid (pD (Zo 3 nm) ((fs ls).drop i) i=qO (fs ls) nm)) (fun iv _=>ls.length-(intOf iv).toNat)
 case atStart=>exact⟨0,tr _,rfl,zA (tj _ _),zA rfl⟩
 case round =>
  obtain⟨i,hi,rfl,HB,HE⟩:=hrel;by_cases zI6:i<ls.length
  ·obtain⟨gl,sa,sn,sc,na,nn,nc,rfl,hgl,⟨c0,c1,c2,c3,c4,c5,c6,c7,c8,c9,c10⟩,_,_⟩:=(HL.out.below HB.out (t9 _)).line zI6
   have hE:=HE.out;rw[CU _ _ i (by simpa using zI6),pC]at hE;have HE2:=zA hE;have zIJ:=HB.out.size;clear HE hE;generalize (mZ ls i).1=x at *;obtain⟨kd,n1,lo,hi',cc,S,N,ro,te,de,lw⟩:=x;simp only at c0 c1 c2 c3 c4 c5 c6 c7 c8 c9 c10;by_cases k1:kd=3
   ·by_cases k2:n1=nm
    ·have HE3:Hid (qO (fs ls) nm=i):=by have:=HE2.out;unfold Hid;rw[<-this];simp[Zo,k1,k2]
     have b1:(kd==3)=true:=by simpa using k1
     have b2:(n1==nm)=true:=by simpa using k2
     clear HE2 k1 k2;go_wp2_with fail
     go_ret
     exact⟨zY (by rw[HE3.out]),HB.out.alloc zIJ _⟩
    ·have HE3:Hid (pD (Zo 3 nm) ((fs ls).drop (i+1)) (i+1)=qO (fs ls) nm):=by have:=HE2.out;unfold Hid;rw[<-this];simp[Zo,k2]
     have b1:(kd==3)=true:=by simpa using k1
     have b2:(n1==nm)=false:=by simpa using k2
     clear HE2 k1 k2;go_wp2_with fail
     go_roundw
     case rel=>exact⟨i+1,by omega,by go_num,zA (HB.out.alloc zIJ _),HE3⟩
     case measure=>simp[intOf];omega
   ·have HE3:Hid (pD (Zo 3 nm) ((fs ls).drop (i+1)) (i+1)=qO (fs ls) nm):=by have:=HE2.out;unfold Hid;rw[<-this];simp[Zo,k1]
    have b1:(kd==3)=false:=by simpa using k1
    clear HE2 k1;go_wp2_with fail
    go_roundw
    case rel=>exact⟨i+1,by omega,by go_num,zA (HB.out.alloc zIJ _),HE3⟩
    case measure=>simp[intOf];omega
  ·have HE3:Hid (qO (fs ls) nm=ls.length):=by have:=HE.out;rw[tu (by simp;omega)]at this;unfold Hid;rw[<-this];simp only[pD];omega
   clear HE;go_wp2_with fail
   go_ret
   exact⟨zY (by rw[HE3.out]),HB.out⟩
theorem zD8(w:World):Calls Tryz.prog 160 #[.int .i64 k] w fun e w'=>e=.returned (.int .i64 (Zk k))/\w'=w:=by
 by_cases h1:k=1
 ·subst h1
  go_enter Tryz.func160,Tryz.ntmps160
  go_wp2_with fail
  go_ret;exact⟨rfl,rfl⟩
 ·by_cases h2:k=2
  ·subst h2
   go_enter Tryz.func160,Tryz.ntmps160
   go_wp2_with fail
   go_ret;exact⟨rfl,rfl⟩
  ·by_cases h3:k=3
   ·subst h3
    go_enter Tryz.func160,Tryz.ntmps160
    go_wp2_with fail
    go_ret;exact⟨rfl,rfl⟩
   ·by_cases h4:k=4
    ·subst h4
     go_enter Tryz.func160,Tryz.ntmps160
     go_wp2_with fail
     go_ret;exact⟨rfl,rfl⟩
    ·have HR:Hid (Zk k=0):=by unfold Hid Zk;rw[tg h1,tg h2,tg h3,tg h4]
     have b1:(k==1)=false:=by simpa using h1
     have b2:(k==2)=false:=by simpa using h2
     have b3:(k==3)=false:=by simpa using h3
     have b4:(k==4)=false:=by simpa using h4
     clear h1 h2 h3 h4
     go_enter Tryz.func160,Tryz.ntmps160
     go_wp2_with fail
     go_ret;exact⟨zY HR.out.symm,rfl⟩
structure x6(w:World)(a:Option Addr)(S:List yZ):Prop where
 blk:0<S.length->∃g yW,a=some ⟨g,0,none⟩/\YJ w g yW S
 few:S.length<=maxLen
theorem x6.below{S:List yZ}(h:x6 w a S)(hb:Below B w w')(hB:w.heap.size<=B):x6 w' a S :=
 ⟨fun h0=>let ⟨g,yW,e,p⟩:=h.blk h0;⟨g,yW,e,p.below hb hB⟩,h.few⟩
structure zB7(w:World)(a:Option Addr)(N:List zX):Prop where
 blk:0<N.length->∃g yW,a=some ⟨g,0,none⟩/\YL w g yW N
 few:N.length<=maxLen
theorem zB7.below{N:List zX}(h:zB7 w a N)(hb:Below B w w')(hB:w.heap.size<=B):zB7 w' a N :=
 ⟨fun h0=>let ⟨g,yW,e,p⟩:=h.blk h0;⟨g,yW,e,p.below hb hB⟩,h.few⟩
end Go.Proofs.YtnbpdffdnphbeaaGreatDoor
