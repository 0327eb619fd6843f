import Derived.Test.YtnbpdffdnphbeaaGreatDoorPGraph
set_option maxHeartbeats 1000000
namespace Go.Proofs.YtnbpdffdnphbeaaGreatDoor
open Go.RowKit
variable{B:Nat}{a:Option Addr}{w w':World}(ls:List LX)(k:Int)
theorem YH.below{gN:Nat}{yV:Array Value}{N:List zX}(h:YH w gN yV N)(hb:Below B w w')(hB:w.heap.size<=B):YH w' gN yV N:=by
 refine⟨?_,h.row⟩;rw[hb.block gN (ti h.lt hB)];exact h.blk
theorem YF.below{gS:Nat}{yV:Array Value}{S:List yX}(h:YF w gS yV S)(hb:Below B w w')(hB:w.heap.size<=B):YF w' gS yV S:=by
 refine⟨?_,h.row⟩;rw[hb.block gS (ti h.lt hB)];exact h.blk
theorem UO.below{gl:Nat}{yV:Array Value}{ls:List LX}(h:UO w gl yV ls)(hb:Below B w w')(hB:w.heap.size<=B):UO w' gl yV ls:=by
 refine⟨?_,h.row⟩;rw[hb.block gl (ti h.lt hB)];exact h.blk
theorem Q0.below{x:LX}(h:Q0 w x)(hb:Below B w w')(hB:w.heap.size<=B):Q0 w' x :=
 ⟨h.s1,h.s2,fun h0=>let ⟨g,c,yV,e,p⟩:=h.sum h0;⟨g,c,yV,e,p.below hb hB⟩,fun h0=>let ⟨g,c,yV,e,p⟩:=h.nod h0;⟨g,c,yV,e,p.below hb hB⟩⟩
structure Y2(w:World)(x:LX):Prop where
 b:Q0 w x
 g:dG x.1
 nds:x.1.nd.length<=maxLen
theorem Y2.below{x:LX}(h:Y2 w x)(hb:Below B w w')(hB:w.heap.size<=B):Y2 w' x:=⟨h.b.below hb hB,h.g,h.nds⟩
structure pD(w:World)(a:Option Addr)(ls:List LX):Prop where
 blk:0<ls.length->∃gl yV,a=some ⟨gl,0,none⟩/\UO w gl yV ls
 rows:∀x∈ls,Y2 w x
 few:ls.length<=10000
theorem pD.below{ls:List LX}(h:pD w a ls)(hb:Below B w w')(hB:w.heap.size<=B):pD w' a ls :=
 ⟨fun h0=>let ⟨gl,yV,e,p⟩:=h.blk h0;⟨gl,yV,e,p.below hb hB⟩,fun x hx=>(h.rows x hx).below hb hB,h.few⟩
theorem CF(n:Nat)(h:n<=ls.length):(lW ls).take (n*11)=lW (ls.take n):=by
 induction ls generalizing n with
 | nil=>simp[lW]
 | cons x r ih =>
   cases n with
   | zero=>simp[lW]
   | succ n =>
     have e:∀(y:LX) (l:List LX),lW (y::l)=eD y++lW l:=fun y l=>by simp[lW]
     have hl:(eD x).length=11:=rfl;rw[List.take_succ_cons,e,e,List.take_append,hl,cf (by rw[hl];omega),show (n+1)*11-11=n*11 by omega,ih n (by simpa using h)]
theorem pD.take{ls:List LX}(h:pD w a ls)(n:Nat):pD w a (ls.take n):=by
 refine⟨fun h0=>?_,fun x hx=>h.rows x (List.mem_of_mem_take hx),by have:=h.few;rw[p9];omega⟩;rw[p9]at h0;obtain⟨gl,yV,e,p⟩:=h.blk (by omega);refine⟨gl,yV,e,p.blk,?_⟩;rcases Nat.le_total n ls.length with hn|hn
 ·rw[p9,da hn,<-CF ls n hn,<-p.row,List.take_take,da (by omega)]
 ·rw[cf hn];exact p.row
structure LnAt(w:World)(gl i:Nat)(x:zF)(sv nv:Value):Prop where
 c0:w.cell? ⟨gl,i*11,none⟩=some (.int .i64 x.kind)
 c1:w.cell? ⟨gl,i*11+1,none⟩=some (.string ⟨x.name.toArray⟩)
 c2:w.cell? ⟨gl,i*11+2,none⟩=some (.int .i64 x.low)
 c3:w.cell? ⟨gl,i*11+3,none⟩=some (.int .i64 x.high)
 c4:w.cell? ⟨gl,i*11+4,none⟩=some (.string ⟨x.conc.toArray⟩)
 c5:w.cell? ⟨gl,i*11+5,none⟩=some sv
 c6:w.cell? ⟨gl,i*11+6,none⟩=some nv
 c7:w.cell? ⟨gl,i*11+7,none⟩=some (.int .i64 x.root)
 c8:w.cell? ⟨gl,i*11+8,none⟩=some (.int .i64 x.tests)
 c9:w.cell? ⟨gl,i*11+9,none⟩=some (.int .i64 x.dep)
 c10:w.cell? ⟨gl,i*11+10,none⟩=some (.string ⟨x.lower.toArray⟩)
theorem pD.line{ls:List LX}(h:pD w a ls){i:Nat}(hi:i<ls.length) :
 ∃gl sa sn sc na nn nc,a=some ⟨gl,0,none⟩/\gl<w.heap.size/\LnAt w gl i (mX ls i).1 (.slice sa sn sc) (.slice na nn nc)/\(mX ls i).2=(.slice sa sn sc,.slice na nn nc)/\Y2 w (mX ls i):=by
 obtain⟨gl,yV,rfl,p⟩:=h.blk (by omega);have hb:=h.rows _ (YS hi);obtain⟨sa,sn,sc,e1⟩:=hb.b.s1;obtain⟨na,nn,nc,e2⟩:=hb.b.s2;have hx:=fun j hj (u:Value) hu=>p.cell hi j hj (u:=u) hu;refine⟨gl,sa,sn,sc,na,nn,nc,rfl,p.lt,⟨hx 0 (by omega) _ rfl,hx 1 (by omega) _ rfl,hx 2 (by omega) _ rfl,hx 3 (by omega) _ rfl,hx 4 (by omega) _ rfl,hx 5 (by omega) _ (by rw[<-e1];rfl),hx 6 (by omega) _ (by rw[<-e2];rfl),hx 7 (by omega) _ rfl,hx 8 (by omega) _ rfl,hx 9 (by omega) _ rfl,hx 10 (by omega) _ rfl⟩,?_,hb⟩;rw[<-e1,<-e2]
theorem sQ{α:Type}(p:α->Bool)(d:α)(l:List α)(i:Nat)(h:i<l.length):(l.drop i).any p=(p (l.getD i d) || (l.drop (i+1)).any p):=by
 rw[pb h,mt];simp[List.getD,h]
abbrev fs(ls:List LX):List zF:=ls.map Prod.fst
theorem tZ(i:Nat):lA (fs ls) i=(mX ls i).1:=by
 unfold lA mX;simp only[List.getD,List.getElem?_map];cases ls[i]? <;> rfl
theorem GI(w:World)(a:Option Addr)(c:Nat)(ls:List LX)(k:Int)(nm:Bs)(h:pD w a ls) :
 Calls Tryz.prog 219 #[.slice a ls.length c,.int .i64 k,.string ⟨nm.toArray⟩] w fun e w'=>e=.returned (.bool (vP (fs ls) k nm))/\Below w.heap.size w w':=by
 have HL:=zA h;have zIP:=h.few;clear h
 go_enter Tryz.func219,Tryz.ntmps219
 go_wp2_with fail
 go_loopw [11] (fun iv wr=>∃(i:Nat),i<=ls.length/\iv=.int .i64 i/\Hid (Below w.heap.size w wr)/\Hid (((fs ls).drop i).any (Zn k nm)=vP (fs ls) k nm)) (fun iv _=>ls.length-(intOf iv).toNat)
 case atStart=>exact⟨0,tr _,rfl,zA (tl _ _),zA rfl⟩
 case round =>
  obtain⟨i,hi,rfl,HB,HE⟩:=hrel;by_cases zIB:i<ls.length
  ·obtain⟨gl,sa,sn,sc,na,nn,nc,rfl,hgl,⟨c0,c1,c2,c3,c4,c5,c6,c7,c8,c9,c10⟩,_,_⟩:=(HL.out.below HB.out (t9 _)).line zIB
   have hE:=HE.out;rw[sQ _ UU _ i (by simpa using zIB),show (fs ls).getD i UU=lA (fs ls) i from rfl,tZ]at hE;have HE2:=zA hE;have zIQ:=HB.out.size;clear HE hE;generalize (mX ls i).1=x at *;obtain⟨kd,n1,lo,hi',cc,S,N,ro,te,de,lw⟩:=x;simp only at c0 c1 c2 c3 c4 c5 c6 c7 c8 c9 c10;by_cases k1:kd=k
   ·by_cases k2:n1=nm
    ·have HE3:Hid (vP (fs ls) k nm=true):=by have:=HE2.out;unfold Hid;rw[<-this];simp[Zn,k1,k2]
     have b1:(kd==k)=true:=by simpa using k1
     have b2:(n1==nm)=true:=by simpa using k2
     clear HE2 k1 k2;go_wp2_with fail
     go_ret
     exact⟨zE HE3.out.symm,HB.out.alloc zIQ _⟩
    ·have HE3:Hid (((fs ls).drop (i+1)).any (Zn k nm)=vP (fs ls) k nm):=by have:=HE2.out;unfold Hid;rw[<-this];simp[Zn,k2]
     have b1:(kd==k)=true:=by simpa using k1
     have b2:(n1==nm)=false:=by simpa using k2
     clear HE2 k1 k2;go_wp2_with fail
     go_roundw
     case rel=>exact⟨i+1,by omega,by go_num,zA (HB.out.alloc zIQ _),HE3⟩
     case measure=>simp[intOf];omega
   ·have HE3:Hid (((fs ls).drop (i+1)).any (Zn k nm)=vP (fs ls) k nm):=by have:=HE2.out;unfold Hid;rw[<-this];simp[Zn,k1]
    have b1:(kd==k)=false:=by simpa using k1
    clear HE2 k1;go_wp2_with fail
    go_roundw
    case rel=>exact⟨i+1,by omega,by go_num,zA (HB.out.alloc zIQ _),HE3⟩
    case measure=>simp[intOf];omega
  ·have HE3:Hid (vP (fs ls) k nm=false):=by have:=HE.out;rw[tu (by simp;omega)]at this;exact this.symm
   clear HE;go_wp2_with fail
   go_ret
   exact⟨zE HE3.out.symm,HB.out⟩
theorem zo(ls:List zF)(i:Nat)(h:i<ls.length):uW k (ls.drop i)=(if (lA ls i).kind=k then 1 else 0)+uW k (ls.drop (i+1)):=by
 rw[pb h,uW];simp[lA,List.getD,h]
theorem zE7(ls:List zF):uW k ls<=ls.length:=by
 induction ls with
 | nil=>exact t9 _
 | cons x r ih=>rw[uW,p7];split <;> omega
theorem CJ(p:zF->Bool)(ls:List zF)(i:Nat)(h:i<ls.length):pA p (ls.drop i) i=if p (lA ls i) then i else pA p (ls.drop (i+1)) (i+1):=by
 rw[pb h,pA];simp[lA,List.getD,h]
theorem ZO:(fs ls).length=ls.length:=by simp
theorem XP(w:World)(a:Option Addr)(c:Nat)(ls:List LX)(nm:Bs)(h:pD w a ls) :
 Calls Tryz.prog 220 #[.slice a ls.length c,.string ⟨nm.toArray⟩] w fun e w'=>e=.returned (.bool (jX (fs ls) nm))/\Below w.heap.size w w':=by
 have HL:=zA h;have zIP:=h.few;clear h
 go_enter Tryz.func220,Tryz.ntmps220
 go_wp2_with fail
 go_loopw [9] (fun iv wr=>∃(i:Nat),i<=ls.length/\iv=.int .i64 i/\Hid (Below w.heap.size w wr)/\Hid (((fs ls).drop i).any (KX nm)=jX (fs ls) nm)) (fun iv _=>ls.length-(intOf iv).toNat)
 case atStart=>exact⟨0,tr _,rfl,zA (tl _ _),zA rfl⟩
 case round =>
  obtain⟨i,hi,rfl,HB,HE⟩:=hrel;by_cases zIB:i<ls.length
  ·obtain⟨gl,sa,sn,sc,na,nn,nc,rfl,hgl,⟨c0,c1,c2,c3,c4,c5,c6,c7,c8,c9,c10⟩,_,_⟩:=(HL.out.below HB.out (t9 _)).line zIB
   have hE:=HE.out;rw[sQ _ UU _ i (by simpa using zIB),show (fs ls).getD i UU=lA (fs ls) i from rfl,tZ]at hE;have HE2:=zA hE;have zIQ:=HB.out.size;clear HE hE;generalize (mX ls i).1=x at *;obtain⟨kd,n1,lo,hi',cc,S,N,ro,te,de,lw⟩:=x;simp only at c0 c1 c2 c3 c4 c5 c6 c7 c8 c9 c10;by_cases k1:kd=3
   ·by_cases k2:cc=nm
    ·have HE3:Hid (jX (fs ls) nm=true):=by have:=HE2.out;unfold Hid;rw[<-this];simp[KX,k1,k2]
     have b1:(kd==3)=true:=by simpa using k1
     have b2:(cc==nm)=true:=by simpa using k2
     clear HE2 k1 k2;go_wp2_with fail
     go_ret
     exact⟨zE HE3.out.symm,HB.out.alloc zIQ _⟩
    ·have HE3:Hid (((fs ls).drop (i+1)).any (KX nm)=jX (fs ls) nm):=by have:=HE2.out;unfold Hid;rw[<-this];simp[KX,k2]
     have b1:(kd==3)=true:=by simpa using k1
     have b2:(cc==nm)=false:=by simpa using k2
     clear HE2 k1 k2;go_wp2_with fail
     go_roundw
     case rel=>exact⟨i+1,by omega,by go_num,zA (HB.out.alloc zIQ _),HE3⟩
     case measure=>simp[intOf];omega
   ·have HE3:Hid (((fs ls).drop (i+1)).any (KX nm)=jX (fs ls) nm):=by have:=HE2.out;unfold Hid;rw[<-this];simp[KX,k1]
    have b1:(kd==3)=false:=by simpa using k1
    clear HE2 k1;go_wp2_with fail
    go_roundw
    case rel=>exact⟨i+1,by omega,by go_num,zA (HB.out.alloc zIQ _),HE3⟩
    case measure=>simp[intOf];omega
  ·have HE3:Hid (jX (fs ls) nm=false):=by have:=HE.out;rw[tu (by simp;omega)]at this;exact this.symm
   clear HE;go_wp2_with fail
   go_ret
   exact⟨zE HE3.out.symm,HB.out⟩
theorem Ux(w:World)(a:Option Addr)(c:Nat)(ls:List LX)(k:Int)(h:pD w a ls) :
 Calls Tryz.prog 159 #[.slice a ls.length c,.int .i64 k] w fun e w'=>e=.returned (.int .i64 (uW k (fs ls)))/\Below w.heap.size w w':=by
 have HL:=zA h;have zIP:=h.few;clear h
 go_enter Tryz.func159,Tryz.ntmps159
 go_wp2_with fail
 go_loopw [5,10] (fun nv iv wr=>∃(i n:Nat),i<=ls.length/\n<=i/\nv=.int .i64 n/\iv=.int .i64 i/\Hid (Below w.heap.size w wr)/\Hid (n+uW k ((fs ls).drop i)=uW k (fs ls))) (fun _ iv _=>ls.length-(intOf iv).toNat)
 case atStart=>exact⟨0,0,tr _,t9 _,rfl,rfl,zA (tl _ _),zA (by simp)⟩
 case round =>
  obtain⟨i,n,hi,hn,rfl,rfl,HB,HE⟩:=hrel;by_cases zIB:i<ls.length
  ·obtain⟨gl,sa,sn,sc,na,nn,nc,rfl,hgl,⟨c0,c1,c2,c3,c4,c5,c6,c7,c8,c9,c10⟩,_,_⟩:=(HL.out.below HB.out (t9 _)).line zIB
   have hE:=HE.out;rw[zo _ _ i (by simpa using zIB),tZ]at hE;have HE2:=zA hE;have zIQ:=HB.out.size;clear HE hE;generalize (mX ls i).1=x at *;obtain⟨kd,n1,lo,hi',cc,S,N,ro,te,de,lw⟩:=x;simp only at c0 c1 c2 c3 c4 c5 c6 c7 c8 c9 c10;by_cases k1:kd=k
   ·have HE3:Hid (n+1+uW k ((fs ls).drop (i+1))=uW k (fs ls)):=by have:=HE2.out;rw[tj k1]at this;unfold Hid;omega
    have b1:(kd==k)=true:=by simpa using k1
    clear HE2 k1;go_wp2_with fail
    go_roundw
    case rel=>exact⟨i+1,n+1,by omega,by omega,by go_num,by go_num,zA (HB.out.alloc zIQ _),HE3⟩
    case measure=>simp[intOf];omega
   ·have HE3:Hid (n+uW k ((fs ls).drop (i+1))=uW k (fs ls)):=by have:=HE2.out;rw[tg k1]at this;unfold Hid;omega
    have b1:(kd==k)=false:=by simpa using k1
    clear HE2 k1;go_wp2_with fail
    go_roundw
    case rel=>exact⟨i+1,n,by omega,by omega,rfl,by go_num,zA (HB.out.alloc zIQ _),HE3⟩
    case measure=>simp[intOf];omega
  ·have HE3:Hid (n=uW k (fs ls)):=by have:=HE.out;rw[tu (by simp;omega)]at this;exact this
   clear HE;go_wp2_with fail
   go_ret
   exact⟨zY (by rw[HE3.out]),HB.out⟩
theorem CI(w:World)(a:Option Addr)(c:Nat)(ls:List LX)(nm:Bs)(h:pD w a ls) :
 Calls Tryz.prog 223 #[.slice a ls.length c,.string ⟨nm.toArray⟩] w fun e w'=>e=.returned (.int .i64 (qK (fs ls) nm))/\Below w.heap.size w w':=by
 have HL:=zA h;have zIP:=h.few;clear h
 go_enter Tryz.func223,Tryz.ntmps223
 go_wp2_with fail
 go_loopw [9] (fun iv wr=>∃(i:Nat),i<=ls.length/\iv=.int .i64 i/\Hid (Below w.heap.size w wr)/\Hid (pA (Zn 3 nm) ((fs ls).drop i) i=qK (fs ls) nm)) (fun iv _=>ls.length-(intOf iv).toNat)
 case atStart=>exact⟨0,tr _,rfl,zA (tl _ _),zA rfl⟩
 case round =>
  obtain⟨i,hi,rfl,HB,HE⟩:=hrel;by_cases zIB:i<ls.length
  ·obtain⟨gl,sa,sn,sc,na,nn,nc,rfl,hgl,⟨c0,c1,c2,c3,c4,c5,c6,c7,c8,c9,c10⟩,_,_⟩:=(HL.out.below HB.out (t9 _)).line zIB
   have hE:=HE.out;rw[CJ _ _ i (by simpa using zIB),tZ]at hE;have HE2:=zA hE;have zIQ:=HB.out.size;clear HE hE;generalize (mX ls i).1=x at *;obtain⟨kd,n1,lo,hi',cc,S,N,ro,te,de,lw⟩:=x;simp only at c0 c1 c2 c3 c4 c5 c6 c7 c8 c9 c10;by_cases k1:kd=3
   ·by_cases k2:n1=nm
    ·have HE3:Hid (qK (fs ls) nm=i):=by have:=HE2.out;unfold Hid;rw[<-this];simp[Zn,k1,k2]
     have b1:(kd==3)=true:=by simpa using k1
     have b2:(n1==nm)=true:=by simpa using k2
     clear HE2 k1 k2;go_wp2_with fail
     go_ret
     exact⟨zY (by rw[HE3.out]),HB.out.alloc zIQ _⟩
    ·have HE3:Hid (pA (Zn 3 nm) ((fs ls).drop (i+1)) (i+1)=qK (fs ls) nm):=by have:=HE2.out;unfold Hid;rw[<-this];simp[Zn,k2]
     have b1:(kd==3)=true:=by simpa using k1
     have b2:(n1==nm)=false:=by simpa using k2
     clear HE2 k1 k2;go_wp2_with fail
     go_roundw
     case rel=>exact⟨i+1,by omega,by go_num,zA (HB.out.alloc zIQ _),HE3⟩
     case measure=>simp[intOf];omega
   ·have HE3:Hid (pA (Zn 3 nm) ((fs ls).drop (i+1)) (i+1)=qK (fs ls) nm):=by have:=HE2.out;unfold Hid;rw[<-this];simp[Zn,k1]
    have b1:(kd==3)=false:=by simpa using k1
    clear HE2 k1;go_wp2_with fail
    go_roundw
    case rel=>exact⟨i+1,by omega,by go_num,zA (HB.out.alloc zIQ _),HE3⟩
    case measure=>simp[intOf];omega
  ·have HE3:Hid (qK (fs ls) nm=ls.length):=by have:=HE.out;rw[tu (by simp;omega)]at this;unfold Hid;rw[<-this];simp only[pA];omega
   clear HE;go_wp2_with fail
   go_ret
   exact⟨zY (by rw[HE3.out]),HB.out⟩
theorem zDD(w:World):Calls Tryz.prog 160 #[.int .i64 k] w fun e w'=>e=.returned (.int .i64 (Zj k))/\w'=w:=by
 by_cases h1:k=1
 ·subst h1
  go_enter Tryz.func160,Tryz.ntmps160
  go_wp2_with fail
  go_ret;exact⟨rfl,rfl⟩
 ·by_cases h2:k=2
  ·subst h2
   go_enter Tryz.func160,Tryz.ntmps160
   go_wp2_with fail
   go_ret;exact⟨rfl,rfl⟩
  ·by_cases h3:k=3
   ·subst h3
    go_enter Tryz.func160,Tryz.ntmps160
    go_wp2_with fail
    go_ret;exact⟨rfl,rfl⟩
   ·by_cases h4:k=4
    ·subst h4
     go_enter Tryz.func160,Tryz.ntmps160
     go_wp2_with fail
     go_ret;exact⟨rfl,rfl⟩
    ·have HR:Hid (Zj k=0):=by unfold Hid Zj;rw[tg h1,tg h2,tg h3,tg h4]
     have b1:(k==1)=false:=by simpa using h1
     have b2:(k==2)=false:=by simpa using h2
     have b3:(k==3)=false:=by simpa using h3
     have b4:(k==4)=false:=by simpa using h4
     clear h1 h2 h3 h4
     go_enter Tryz.func160,Tryz.ntmps160
     go_wp2_with fail
     go_ret;exact⟨zY HR.out.symm,rfl⟩
structure yx(w:World)(a:Option Addr)(S:List yX):Prop where
 blk:0<S.length->∃g yV,a=some ⟨g,0,none⟩/\YF w g yV S
 few:S.length<=maxLen
theorem yx.below{S:List yX}(h:yx w a S)(hb:Below B w w')(hB:w.heap.size<=B):yx w' a S :=
 ⟨fun h0=>let ⟨g,yV,e,p⟩:=h.blk h0;⟨g,yV,e,p.below hb hB⟩,h.few⟩
structure zBC(w:World)(a:Option Addr)(N:List zX):Prop where
 blk:0<N.length->∃g yV,a=some ⟨g,0,none⟩/\YH w g yV N
 few:N.length<=maxLen
theorem zBC.below{N:List zX}(h:zBC w a N)(hb:Below B w w')(hB:w.heap.size<=B):zBC w' a N :=
 ⟨fun h0=>let ⟨g,yV,e,p⟩:=h.blk h0;⟨g,yV,e,p.below hb hB⟩,h.few⟩
end Go.Proofs.YtnbpdffdnphbeaaGreatDoor
