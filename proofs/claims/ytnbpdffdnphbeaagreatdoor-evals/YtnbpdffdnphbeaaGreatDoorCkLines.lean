import Derived.Test.YtnbpdffdnphbeaaGreatDoorPGraph
set_option maxHeartbeats 1000000
namespace Go.Proofs.YtnbpdffdnphbeaaGreatDoor
open Go.RowKit
theorem Y1.below{w w':World}{B gN:Nat}{yO:Array Value}{N:List yB}(h:Y1 w gN yO N)(hb:Below B w w')(hB:w.heap.size<=B):Y1 w' gN yO N:=by
 refine⟨?_,h.row⟩;rw[hb.block gN (Nat.lt_of_lt_of_le h.lt hB)];exact h.blk
theorem Y0.below{w w':World}{B gS:Nat}{yO:Array Value}{S:List xC}(h:Y0 w gS yO S)(hb:Below B w w')(hB:w.heap.size<=B):Y0 w' gS yO S:=by
 refine⟨?_,h.row⟩;rw[hb.block gS (Nat.lt_of_lt_of_le h.lt hB)];exact h.blk
theorem Ud.below{w w':World}{B gl:Nat}{yO:Array Value}{ls:List LX}(h:Ud w gl yO ls)(hb:Below B w w')(hB:w.heap.size<=B):Ud w' gl yO ls:=by
 refine⟨?_,h.row⟩;rw[hb.block gl (Nat.lt_of_lt_of_le h.lt hB)];exact h.blk
theorem Qa.below{w w':World}{B:Nat}{x:LX}(h:Qa w x)(hb:Below B w w')(hB:w.heap.size<=B):Qa w' x :=
 ⟨h.s1,h.s2,fun h0=>let ⟨g,c,yO,e,p⟩:=h.sum h0;⟨g,c,yO,e,p.below hb hB⟩,fun h0=>let ⟨g,c,yO,e,p⟩:=h.nod h0;⟨g,c,yO,e,p.below hb hB⟩⟩
structure Yj(w:World)(x:LX):Prop where
 b:Qa w x
 g:gW x.1
 nds:x.1.nd.length<=maxLen
theorem Yj.below{w w':World}{B:Nat}{x:LX}(h:Yj w x)(hb:Below B w w')(hB:w.heap.size<=B):Yj w' x:=⟨h.b.below hb hB,h.g,h.nds⟩
structure pB(w:World)(a:Option Addr)(ls:List LX):Prop where
 blk:0<ls.length->∃gl yO,a=some ⟨gl,0,none⟩/\Ud w gl yO ls
 rows:∀x∈ls,Yj w x
 few:ls.length<=10000
theorem pB.below{w w':World}{B:Nat}{a:Option Addr}{ls:List LX}(h:pB w a ls)(hb:Below B w w')(hB:w.heap.size<=B):pB w' a ls :=
 ⟨fun h0=>let ⟨gl,yO,e,p⟩:=h.blk h0;⟨gl,yO,e,p.below hb hB⟩,fun x hx=>(h.rows x hx).below hb hB,h.few⟩
theorem BM(ls:List LX)(n:Nat)(h:n<=ls.length):(lP ls).take (n*11)=lP (ls.take n):=by
 induction ls generalizing n with
 | nil=>simp[lP]
 | cons x r ih =>
   cases n with
   | zero=>simp[lP]
   | succ n =>
     have e:∀(y:LX) (l:List LX),lP (y::l)=eO y++lP l:=fun y l=>by simp[lP]
     have hl:(eO x).length=11:=rfl;rw[List.take_succ_cons,e,e,List.take_append,hl,List.take_of_length_le (by rw[hl];omega),show (n+1)*11-11=n*11 by omega,ih n (by simpa using h)]
theorem pB.take{w:World}{a:Option Addr}{ls:List LX}(h:pB w a ls)(n:Nat):pB w a (ls.take n):=by
 refine⟨fun h0=>?_,fun x hx=>h.rows x (List.mem_of_mem_take hx),by have:=h.few;rw[List.length_take];omega⟩;rw[List.length_take]at h0;obtain⟨gl,yO,e,p⟩:=h.blk (by omega);refine⟨gl,yO,e,p.blk,?_⟩;rcases Nat.le_total n ls.length with hn|hn
 ·rw[List.length_take,Nat.min_eq_left hn,<-BM ls n hn,<-p.row,List.take_take,Nat.min_eq_left (by omega)]
 ·rw[List.take_of_length_le hn];exact p.row
structure LnAt(w:World)(gl i:Nat)(x:zH)(sv nv:Value):Prop where
 c0:w.cell? ⟨gl,i*11,none⟩=some (.int .i64 x.kind)
 c1:w.cell? ⟨gl,i*11+1,none⟩=some (.string ⟨x.name.toArray⟩)
 c2:w.cell? ⟨gl,i*11+2,none⟩=some (.int .i64 x.low)
 c3:w.cell? ⟨gl,i*11+3,none⟩=some (.int .i64 x.high)
 c4:w.cell? ⟨gl,i*11+4,none⟩=some (.string ⟨x.conc.toArray⟩)
 c5:w.cell? ⟨gl,i*11+5,none⟩=some sv
 c6:w.cell? ⟨gl,i*11+6,none⟩=some nv
 c7:w.cell? ⟨gl,i*11+7,none⟩=some (.int .i64 x.root)
 c8:w.cell? ⟨gl,i*11+8,none⟩=some (.int .i64 x.tests)
 c9:w.cell? ⟨gl,i*11+9,none⟩=some (.int .i64 x.dep)
 c10:w.cell? ⟨gl,i*11+10,none⟩=some (.string ⟨x.lower.toArray⟩)
theorem pB.line{w:World}{a:Option Addr}{ls:List LX}(h:pB w a ls){i:Nat}(hi:i<ls.length) :
 ∃gl sa sn sc na nn nc,a=some ⟨gl,0,none⟩/\gl<w.heap.size/\LnAt w gl i (mW ls i).1 (.slice sa sn sc) (.slice na nn nc)/\(mW ls i).2=(.slice sa sn sc,.slice na nn nc)/\Yj w (mW ls i):=by
 obtain⟨gl,yO,rfl,p⟩:=h.blk (by omega);have hb:=h.rows _ (Y9 hi);obtain⟨sa,sn,sc,e1⟩:=hb.b.s1;obtain⟨na,nn,nc,e2⟩:=hb.b.s2;have hx:=fun j hj (u:Value) hu=>p.cell hi j hj (u:=u) hu;refine⟨gl,sa,sn,sc,na,nn,nc,rfl,p.lt,⟨hx 0 (by omega) _ rfl,hx 1 (by omega) _ rfl,hx 2 (by omega) _ rfl,hx 3 (by omega) _ rfl,hx 4 (by omega) _ rfl,hx 5 (by omega) _ (by rw[<-e1];rfl),hx 6 (by omega) _ (by rw[<-e2];rfl),hx 7 (by omega) _ rfl,hx 8 (by omega) _ rfl,hx 9 (by omega) _ rfl,hx 10 (by omega) _ rfl⟩,?_,hb⟩;rw[<-e1,<-e2]
theorem aG{α:Type}(p:α->Bool)(d:α)(l:List α)(i:Nat)(h:i<l.length):(l.drop i).any p=(p (l.getD i d) || (l.drop (i+1)).any p):=by
 rw[List.drop_eq_getElem_cons h,List.any_cons];simp[List.getD,h]
abbrev fs(ls:List LX):List zH:=ls.map Prod.fst
theorem tZ(ls:List LX)(i:Nat):lA (fs ls) i=(mW ls i).1:=by
 unfold lA mW;simp only[List.getD,List.getElem?_map];cases ls[i]? <;> rfl
theorem FC(w:World)(a:Option Addr)(c:Nat)(ls:List LX)(k:Int)(nm:Bs)(h:pB w a ls) :
 Calls Tryz.prog 219 #[.slice a ls.length c,.int .i64 k,.string ⟨nm.toArray⟩] w fun e w'=>e=.returned (.bool (uJ (fs ls) k nm))/\Below w.heap.size w w':=by
 have HL:=zA h;have zGG:=h.few;clear h
 go_enter Tryz.func219,Tryz.ntmps219
 go_wp2_with fail
 go_loopw [11] (fun iv wr=>∃(i:Nat),i<=ls.length/\iv=.int .i64 i/\Hid (Below w.heap.size w wr)/\Hid (((fs ls).drop i).any (iU k nm)=uJ (fs ls) k nm)) (fun iv _=>ls.length-(intOf iv).toNat)
 case atStart=>exact⟨0,Nat.zero_le _,rfl,zA (Below.refl _ _),zA rfl⟩
 case round =>
  obtain⟨i,hi,rfl,HB,HE⟩:=hrel;by_cases zFY:i<ls.length
  ·obtain⟨gl,sa,sn,sc,na,nn,nc,rfl,hgl,⟨c0,c1,c2,c3,c4,c5,c6,c7,c8,c9,c10⟩,_,_⟩:=(HL.out.below HB.out (Nat.le_refl _)).line zFY
   have hE:=HE.out;rw[aG _ rQ _ i (by simpa using zFY),show (fs ls).getD i rQ=lA (fs ls) i from rfl,tZ]at hE;have HE2:=zA hE;have zG8:=HB.out.size;clear HE hE;generalize (mW ls i).1=x at *;obtain⟨kd,n1,lo,hi',cc,S,N,ro,te,de,lw⟩:=x;simp only at c0 c1 c2 c3 c4 c5 c6 c7 c8 c9 c10;by_cases k1:kd=k
   ·by_cases k2:n1=nm
    ·have HE3:Hid (uJ (fs ls) k nm=true):=by have:=HE2.out;unfold Hid;rw[<-this];simp[iU,k1,k2]
     have b1:(kd==k)=true:=by simpa using k1
     have b2:(n1==nm)=true:=by simpa using k2
     clear HE2 k1 k2;go_wp2_with fail
     go_ret
     exact⟨zE HE3.out.symm,HB.out.alloc zG8 _⟩
    ·have HE3:Hid (((fs ls).drop (i+1)).any (iU k nm)=uJ (fs ls) k nm):=by have:=HE2.out;unfold Hid;rw[<-this];simp[iU,k2]
     have b1:(kd==k)=true:=by simpa using k1
     have b2:(n1==nm)=false:=by simpa using k2
     clear HE2 k1 k2;go_wp2_with fail
     go_roundw
     case rel=>exact⟨i+1,by omega,by go_num,zA (HB.out.alloc zG8 _),HE3⟩
     case measure=>simp[intOf];omega
   ·have HE3:Hid (((fs ls).drop (i+1)).any (iU k nm)=uJ (fs ls) k nm):=by have:=HE2.out;unfold Hid;rw[<-this];simp[iU,k1]
    have b1:(kd==k)=false:=by simpa using k1
    clear HE2 k1;go_wp2_with fail
    go_roundw
    case rel=>exact⟨i+1,by omega,by go_num,zA (HB.out.alloc zG8 _),HE3⟩
    case measure=>simp[intOf];omega
  ·have HE3:Hid (uJ (fs ls) k nm=false):=by have:=HE.out;rw[List.drop_eq_nil_of_le (by simp;omega)]at this;exact this.symm
   clear HE;go_wp2_with fail
   go_ret
   exact⟨zE HE3.out.symm,HB.out⟩
theorem Gf(k:Int)(ls:List zH)(i:Nat)(h:i<ls.length):kO k (ls.drop i)=(if (lA ls i).kind=k then 1 else 0)+kO k (ls.drop (i+1)):=by
 rw[List.drop_eq_getElem_cons h,kO];simp[lA,List.getD,h]
theorem zBS(k:Int)(ls:List zH):kO k ls<=ls.length:=by
 induction ls with
 | nil=>exact Nat.le_refl _
 | cons x r ih=>rw[kO,List.length_cons];split <;> omega
theorem BS(p:zH->Bool)(ls:List zH)(i:Nat)(h:i<ls.length):pA p (ls.drop i) i=if p (lA ls i) then i else pA p (ls.drop (i+1)) (i+1):=by
 rw[List.drop_eq_getElem_cons h,pA];simp[lA,List.getD,h]
theorem ZB(ls:List LX):(fs ls).length=ls.length:=by simp
theorem X7(w:World)(a:Option Addr)(c:Nat)(ls:List LX)(nm:Bs)(h:pB w a ls) :
 Calls Tryz.prog 220 #[.slice a ls.length c,.string ⟨nm.toArray⟩] w fun e w'=>e=.returned (.bool (jZ (fs ls) nm))/\Below w.heap.size w w':=by
 have HL:=zA h;have zGG:=h.few;clear h
 go_enter Tryz.func220,Tryz.ntmps220
 go_wp2_with fail
 go_loopw [9] (fun iv wr=>∃(i:Nat),i<=ls.length/\iv=.int .i64 i/\Hid (Below w.heap.size w wr)/\Hid (((fs ls).drop i).any (Qr nm)=jZ (fs ls) nm)) (fun iv _=>ls.length-(intOf iv).toNat)
 case atStart=>exact⟨0,Nat.zero_le _,rfl,zA (Below.refl _ _),zA rfl⟩
 case round =>
  obtain⟨i,hi,rfl,HB,HE⟩:=hrel;by_cases zFY:i<ls.length
  ·obtain⟨gl,sa,sn,sc,na,nn,nc,rfl,hgl,⟨c0,c1,c2,c3,c4,c5,c6,c7,c8,c9,c10⟩,_,_⟩:=(HL.out.below HB.out (Nat.le_refl _)).line zFY
   have hE:=HE.out;rw[aG _ rQ _ i (by simpa using zFY),show (fs ls).getD i rQ=lA (fs ls) i from rfl,tZ]at hE;have HE2:=zA hE;have zG8:=HB.out.size;clear HE hE;generalize (mW ls i).1=x at *;obtain⟨kd,n1,lo,hi',cc,S,N,ro,te,de,lw⟩:=x;simp only at c0 c1 c2 c3 c4 c5 c6 c7 c8 c9 c10;by_cases k1:kd=3
   ·by_cases k2:cc=nm
    ·have HE3:Hid (jZ (fs ls) nm=true):=by have:=HE2.out;unfold Hid;rw[<-this];simp[Qr,k1,k2]
     have b1:(kd==3)=true:=by simpa using k1
     have b2:(cc==nm)=true:=by simpa using k2
     clear HE2 k1 k2;go_wp2_with fail
     go_ret
     exact⟨zE HE3.out.symm,HB.out.alloc zG8 _⟩
    ·have HE3:Hid (((fs ls).drop (i+1)).any (Qr nm)=jZ (fs ls) nm):=by have:=HE2.out;unfold Hid;rw[<-this];simp[Qr,k2]
     have b1:(kd==3)=true:=by simpa using k1
     have b2:(cc==nm)=false:=by simpa using k2
     clear HE2 k1 k2;go_wp2_with fail
     go_roundw
     case rel=>exact⟨i+1,by omega,by go_num,zA (HB.out.alloc zG8 _),HE3⟩
     case measure=>simp[intOf];omega
   ·have HE3:Hid (((fs ls).drop (i+1)).any (Qr nm)=jZ (fs ls) nm):=by have:=HE2.out;unfold Hid;rw[<-this];simp[Qr,k1]
    have b1:(kd==3)=false:=by simpa using k1
    clear HE2 k1;go_wp2_with fail
    go_roundw
    case rel=>exact⟨i+1,by omega,by go_num,zA (HB.out.alloc zG8 _),HE3⟩
    case measure=>simp[intOf];omega
  ·have HE3:Hid (jZ (fs ls) nm=false):=by have:=HE.out;rw[List.drop_eq_nil_of_le (by simp;omega)]at this;exact this.symm
   clear HE;go_wp2_with fail
   go_ret
   exact⟨zE HE3.out.symm,HB.out⟩
theorem VB(w:World)(a:Option Addr)(c:Nat)(ls:List LX)(k:Int)(h:pB w a ls) :
 Calls Tryz.prog 159 #[.slice a ls.length c,.int .i64 k] w fun e w'=>e=.returned (.int .i64 (kO k (fs ls)))/\Below w.heap.size w w':=by
 have HL:=zA h;have zGG:=h.few;clear h
 go_enter Tryz.func159,Tryz.ntmps159
 go_wp2_with fail
 go_loopw [5,10] (fun nv iv wr=>∃(i n:Nat),i<=ls.length/\n<=i/\nv=.int .i64 n/\iv=.int .i64 i/\Hid (Below w.heap.size w wr)/\Hid (n+kO k ((fs ls).drop i)=kO k (fs ls))) (fun _ iv _=>ls.length-(intOf iv).toNat)
 case atStart=>exact⟨0,0,Nat.zero_le _,Nat.le_refl _,rfl,rfl,zA (Below.refl _ _),zA (by simp)⟩
 case round =>
  obtain⟨i,n,hi,hn,rfl,rfl,HB,HE⟩:=hrel;by_cases zFY:i<ls.length
  ·obtain⟨gl,sa,sn,sc,na,nn,nc,rfl,hgl,⟨c0,c1,c2,c3,c4,c5,c6,c7,c8,c9,c10⟩,_,_⟩:=(HL.out.below HB.out (Nat.le_refl _)).line zFY
   have hE:=HE.out;rw[Gf _ _ i (by simpa using zFY),tZ]at hE;have HE2:=zA hE;have zG8:=HB.out.size;clear HE hE;generalize (mW ls i).1=x at *;obtain⟨kd,n1,lo,hi',cc,S,N,ro,te,de,lw⟩:=x;simp only at c0 c1 c2 c3 c4 c5 c6 c7 c8 c9 c10;by_cases k1:kd=k
   ·have HE3:Hid (n+1+kO k ((fs ls).drop (i+1))=kO k (fs ls)):=by have:=HE2.out;rw[if_pos k1]at this;unfold Hid;omega
    have b1:(kd==k)=true:=by simpa using k1
    clear HE2 k1;go_wp2_with fail
    go_roundw
    case rel=>exact⟨i+1,n+1,by omega,by omega,by go_num,by go_num,zA (HB.out.alloc zG8 _),HE3⟩
    case measure=>simp[intOf];omega
   ·have HE3:Hid (n+kO k ((fs ls).drop (i+1))=kO k (fs ls)):=by have:=HE2.out;rw[if_neg k1]at this;unfold Hid;omega
    have b1:(kd==k)=false:=by simpa using k1
    clear HE2 k1;go_wp2_with fail
    go_roundw
    case rel=>exact⟨i+1,n,by omega,by omega,rfl,by go_num,zA (HB.out.alloc zG8 _),HE3⟩
    case measure=>simp[intOf];omega
  ·have HE3:Hid (n=kO k (fs ls)):=by have:=HE.out;rw[List.drop_eq_nil_of_le (by simp;omega)]at this;exact this
   clear HE;go_wp2_with fail
   go_ret
   exact⟨yA (by rw[HE3.out]),HB.out⟩
theorem BR(w:World)(a:Option Addr)(c:Nat)(ls:List LX)(nm:Bs)(h:pB w a ls) :
 Calls Tryz.prog 223 #[.slice a ls.length c,.string ⟨nm.toArray⟩] w fun e w'=>e=.returned (.int .i64 (vP (fs ls) nm))/\Below w.heap.size w w':=by
 have HL:=zA h;have zGG:=h.few;clear h
 go_enter Tryz.func223,Tryz.ntmps223
 go_wp2_with fail
 go_loopw [9] (fun iv wr=>∃(i:Nat),i<=ls.length/\iv=.int .i64 i/\Hid (Below w.heap.size w wr)/\Hid (pA (iU 3 nm) ((fs ls).drop i) i=vP (fs ls) nm)) (fun iv _=>ls.length-(intOf iv).toNat)
 case atStart=>exact⟨0,Nat.zero_le _,rfl,zA (Below.refl _ _),zA rfl⟩
 case round =>
  obtain⟨i,hi,rfl,HB,HE⟩:=hrel;by_cases zFY:i<ls.length
  ·obtain⟨gl,sa,sn,sc,na,nn,nc,rfl,hgl,⟨c0,c1,c2,c3,c4,c5,c6,c7,c8,c9,c10⟩,_,_⟩:=(HL.out.below HB.out (Nat.le_refl _)).line zFY
   have hE:=HE.out;rw[BS _ _ i (by simpa using zFY),tZ]at hE;have HE2:=zA hE;have zG8:=HB.out.size;clear HE hE;generalize (mW ls i).1=x at *;obtain⟨kd,n1,lo,hi',cc,S,N,ro,te,de,lw⟩:=x;simp only at c0 c1 c2 c3 c4 c5 c6 c7 c8 c9 c10;by_cases k1:kd=3
   ·by_cases k2:n1=nm
    ·have HE3:Hid (vP (fs ls) nm=i):=by have:=HE2.out;unfold Hid;rw[<-this];simp[iU,k1,k2]
     have b1:(kd==3)=true:=by simpa using k1
     have b2:(n1==nm)=true:=by simpa using k2
     clear HE2 k1 k2;go_wp2_with fail
     go_ret
     exact⟨yA (by rw[HE3.out]),HB.out.alloc zG8 _⟩
    ·have HE3:Hid (pA (iU 3 nm) ((fs ls).drop (i+1)) (i+1)=vP (fs ls) nm):=by have:=HE2.out;unfold Hid;rw[<-this];simp[iU,k2]
     have b1:(kd==3)=true:=by simpa using k1
     have b2:(n1==nm)=false:=by simpa using k2
     clear HE2 k1 k2;go_wp2_with fail
     go_roundw
     case rel=>exact⟨i+1,by omega,by go_num,zA (HB.out.alloc zG8 _),HE3⟩
     case measure=>simp[intOf];omega
   ·have HE3:Hid (pA (iU 3 nm) ((fs ls).drop (i+1)) (i+1)=vP (fs ls) nm):=by have:=HE2.out;unfold Hid;rw[<-this];simp[iU,k1]
    have b1:(kd==3)=false:=by simpa using k1
    clear HE2 k1;go_wp2_with fail
    go_roundw
    case rel=>exact⟨i+1,by omega,by go_num,zA (HB.out.alloc zG8 _),HE3⟩
    case measure=>simp[intOf];omega
  ·have HE3:Hid (vP (fs ls) nm=ls.length):=by have:=HE.out;rw[List.drop_eq_nil_of_le (by simp;omega)]at this;unfold Hid;rw[<-this];simp only[pA];omega
   clear HE;go_wp2_with fail
   go_ret
   exact⟨yA (by rw[HE3.out]),HB.out⟩
theorem zAZ(k:Int)(w:World):Calls Tryz.prog 160 #[.int .i64 k] w fun e w'=>e=.returned (.int .i64 (Z3 k))/\w'=w:=by
 by_cases h1:k=1
 ·subst h1
  go_enter Tryz.func160,Tryz.ntmps160
  go_wp2_with fail
  go_ret;exact⟨rfl,rfl⟩
 ·by_cases h2:k=2
  ·subst h2
   go_enter Tryz.func160,Tryz.ntmps160
   go_wp2_with fail
   go_ret;exact⟨rfl,rfl⟩
  ·by_cases h3:k=3
   ·subst h3
    go_enter Tryz.func160,Tryz.ntmps160
    go_wp2_with fail
    go_ret;exact⟨rfl,rfl⟩
   ·by_cases h4:k=4
    ·subst h4
     go_enter Tryz.func160,Tryz.ntmps160
     go_wp2_with fail
     go_ret;exact⟨rfl,rfl⟩
    ·have HR:Hid (Z3 k=0):=by unfold Hid Z3;rw[if_neg h1,if_neg h2,if_neg h3,if_neg h4]
     have b1:(k==1)=false:=by simpa using h1
     have b2:(k==2)=false:=by simpa using h2
     have b3:(k==3)=false:=by simpa using h3
     have b4:(k==4)=false:=by simpa using h4
     clear h1 h2 h3 h4
     go_enter Tryz.func160,Tryz.ntmps160
     go_wp2_with fail
     go_ret;exact⟨yA HR.out.symm,rfl⟩
structure G3(w:World)(a:Option Addr)(S:List xC):Prop where
 blk:0<S.length->∃g yO,a=some ⟨g,0,none⟩/\Y0 w g yO S
 few:S.length<=maxLen
theorem G3.below{w w':World}{B:Nat}{a:Option Addr}{S:List xC}(h:G3 w a S)(hb:Below B w w')(hB:w.heap.size<=B):G3 w' a S :=
 ⟨fun h0=>let ⟨g,yO,e,p⟩:=h.blk h0;⟨g,yO,e,p.below hb hB⟩,h.few⟩
structure kp(w:World)(a:Option Addr)(N:List yB):Prop where
 blk:0<N.length->∃g yO,a=some ⟨g,0,none⟩/\Y1 w g yO N
 few:N.length<=maxLen
theorem kp.below{w w':World}{B:Nat}{a:Option Addr}{N:List yB}(h:kp w a N)(hb:Below B w w')(hB:w.heap.size<=B):kp w' a N :=
 ⟨fun h0=>let ⟨g,yO,e,p⟩:=h.blk h0;⟨g,yO,e,p.below hb hB⟩,h.few⟩
end Go.Proofs.YtnbpdffdnphbeaaGreatDoor
