import Derived.Test.YtnbpdffdnphbeaaGreatDoorForm
set_option maxHeartbeats 1000000
namespace Go.Proofs.YtnbpdffdnphbeaaGreatDoor
variable{v:Value}{w:World}(ts:zG)
def uD:zG->Nat->Nat->List (Nat × Nat)
 | [],_,_=>[]
 | t::r,i,a=>if zS t.2=qQ then (a,i-a)::uD r (i+1) (i+1) else uD r (i+1) a
def qV(ts:zG):List (Nat × Nat):=uD ts 0 0
theorem XO:∀i a,(uD ts i a).length<=ts.length:=by
 induction ts with
 | nil=>intro i a;simp[uD]
 | cons t r ih=>intro i a;rw[uD];split <;> simp <;> have:=ih (i+1) (i+1) <;> have:=ih (i+1) a <;> omega
def nZ(ts:zG)(p:Nat × Nat):zG:=(ts.drop p.1).take p.2
def lU(n:Nat)(u:zG):Bs :=
 if zS (u.getD 0 (0,[])).2=zR then dD (u.take ((mE u).toNat+1))++[32]++(pW n (u.drop ((mE u).toNat+1))).1 else dD u
def Un(n:Nat)(u:zG):Prop :=
 0<u.length/\(zS (u.getD 0 (0,[])).2=zR->0<=mE u/\mE u+1<u.length/\qN n (u.drop ((mE u).toNat+1))=true)
def Xo(n:Nat)(ts:zG):List (Nat × Nat)->Bs->Bs
 | [],s=>s
 | p::r,s=>Xo n ts r (s++lU n (nZ ts p)++[59,10])
def Y3(ts:zG):List (Nat × Nat)->Nat
 | []=>0
 | p::r=>20*(eQ (nZ ts p)+1)+Y3 ts r
theorem Kz(n:Nat)(u:zG):(lU n u).length+2<=20*(eQ u+1):=by
 unfold lU;split
 ·have h1:=Qc (u.take ((mE u).toNat+1)) [] 0
  have h2:=vo n (u.drop ((mE u).toNat+1));have h3:=mF u ((mE u).toNat+1);simp only[dD,tq,p7,List.length_nil]at h1 ⊢;omega
 ·have h1:=Qc u [] 0
  simp only[dD];simp only[List.length_nil]at h1;omega
theorem zAI(m:Nat):∀(i a:Nat),ts.length-i=m->a<=i->Y3 ts (uD (ts.drop i) i a)<=20*eQ (ts.drop a):=by
 induction m with
 | zero =>
   intro i a h _;rw[tu (by omega),uD,Y3];omega
 | succ m ih =>
   intro i a h ha;rw[zJ ts i (by omega),uD];split
   ·rw[Y3]
    have h1:=ih (i+1) (i+1) (by omega) (t9 _);have h2:=mF (ts.drop a) (i-a);rw[List.drop_drop,show a+(i-a)=i by omega,zJ ts i (by omega),eQ]at h2;simp only[nZ];omega
   ·exact ih (i+1) a (by omega) (by omega)
theorem zm:Y3 ts (qV ts)<=20*eQ ts:=by
 have:=zAI ts ts.length 0 0 (by omega) (t9 _);simpa[qV] using this
theorem G4(m:Nat)(ts:zG):∀(i a:Nat),ts.length-i=m->a<=i->∀p∈uD (ts.drop i) i a,p.1+p.2<ts.length:=by
 induction m with
 | zero =>
   intro i a h _ p hp;rw[tu (by omega),uD]at hp;simp at hp
 | succ m ih =>
   intro i a h ha p hp;rw[zJ ts i (by omega),uD]at hp;split at hp
   ·rcases pi.1 hp with rfl|hp
    ·simp only;omega
    ·exact ih (i+1) (i+1) (by omega) (t9 _) p hp
   ·exact ih (i+1) a (by omega) (by omega) p hp
theorem Jx:∀p∈qV ts,p.1+p.2<ts.length:=by
 have:=G4 ts.length ts 0 0 (by omega) (t9 _);simpa[qV] using this
theorem FY(n:Nat):∀(l:Bs) (p:Nat),eQ (tC n l p)<=2*l.length:=by
 induction n with
 | zero=>intro l p;simp[tC,eQ]
 | succ n ih =>
   intro l p;simp only[tC];split
   ·simp[eQ]
   ·split
    ·have:=ih (l.drop 1) (p+1);rw[ty]at this;omega
    ·rename_i h0 _
     have h1:=ih (l.drop (uC l)) (p+uC l);have h2:=nF l;have h3:=K1 (l:=l) (by omega);rw[ty]at h1;simp only[eQ,p9];omega
theorem Fy(l:Bs):eQ (yR l 0)<=2*l.length:=by
 have:=FY l.length l 0;simpa[yR] using this
def Dp(n:Nat)(l:Bs):Bs:=Xo n (yR l 0) (qV (yR l 0)) []
open Go.RowKit
def X0(g cap:Nat)(p:Nat × Nat):Value:=.slice (some ⟨g,p.1*3,none⟩) p.2 (cap-p.1)
theorem jv:(Tryz.prog.info? 194).map (fun i=>(i.zero,i.size,i.bytes))=some (some (.slice none 0 0),1,24):=by kernel_rfl
theorem Gh{b b':Nat}{e:TypeId}{size:Nat}{n:Nat}{xs:List Value}(h:w.ownsRow b e size v n xs)(hb:b'<=b):w.ownsRow b' e size v n xs:=by
 refine⟨h.1,?_⟩;rcases h.2 with h1|⟨g,cap,yW,h1,h2,r⟩
 ·exact .inl h1
 ·exact .inr ⟨g,cap,yW,h1,tx hb h2,r⟩
theorem kL.below{w':World}{g o B:Nat}{ts:zG}(h:kL w g o ts)(hb:Below B w w')(hg:g<B):kL w' g o ts:=by
 intro i hi;obtain⟨a,b,c⟩:=h i hi;exact⟨by rw[hb.cell (p:=⟨g,_,none⟩) hg];exact a,by rw[hb.cell (p:=⟨g,_,none⟩) hg];exact b,by rw[hb.cell (p:=⟨g,_,none⟩) hg];exact c⟩
theorem zN{B:Nat}{e:TypeId}{size:Nat}{n:Nat}{xs:List Value}(zI8:w.ownsRow B e size v n xs):∀k,v.ownBlock=some k->B<=k:=by
 intro k hk;rcases zI8.2 with ⟨h1,_⟩|⟨g,cap,yW,h1,h2,_⟩
 ·rw[h1]at hk;simp[Value.ownBlock]at hk
 ·rw[h1]at hk;simp[Value.ownBlock]at hk;omega
def Fo(w w':World)(v:Value)(ts:zG):Prop:=∃g cap,kL w' g 0 ts/\ts.length<=cap/\cap<=maxLen/\w'.ownsRow w.heap.size 194 1 v (qV ts).length ((qV ts).map (X0 g cap))
theorem JP(l:Bs)(w:World)(hl:l.length<=4000) :
 Calls Tryz.prog 63 #[.string ⟨l.toArray⟩] w fun e w'=>∃v,e=.returned v/\Fo w w' v (yR l 0)/\Below w.heap.size w w':=by
 obtain⟨i0,hi0,hz0,hz1,hz2⟩:=dp jv;have HTok:=sJ (Qz l w hl);have zIW:=kY l 0;generalize yR l 0=ts at *
 go_enter Tryz.func63,Tryz.ntmps63
 go_wp2_with (go_at_call 109;refine HTok.out.mono ?_;rintro e w1 ⟨v,rfl,zI8,zIS⟩)
 clear HTok;obtain⟨B,hB⟩:∃B,B=w1.heap.size:=⟨_,rfl⟩;have HB:Hid (B=w1.heap.size):=hB;rcases V4 zI8 with ⟨rfl,rfl⟩|⟨g,cap,rfl,_,hg1,hcap,hmax,zIA⟩
 ·clear zI8 zIW hB
  go_loop [4,5,6] (fun ov av iv=>ov=.slice none 0 0/\av=.int .i64 0/\iv=.int .i64 0) (fun _ _ _=>0)
  case atStart=>exact⟨rfl,rfl,rfl⟩
  case round =>
   obtain⟨rfl,rfl,rfl⟩:=hrel;go_wp2_with fail
   go_ret
   exact⟨_,rfl,⟨0,0,(fun i hi=>by simp at hi),tr _,tr _,lk _ _ _ _⟩,zIS⟩
 ·have HS:Hid (kL w1 g 0 ts):=zIA
  have HG:Hid (g<w1.heap.size):=hg1;clear zI8 zIA hB hg1
  go_loopw [4,5,6] (fun ov av iv wr=>∃(i a:Nat) (ls:List (Nat × Nat)),i<=ts.length/\a<=i/\av=.int .i64 a/\iv=.int .i64 i/\ls.length<=i/\wr.ownsRow B 194 1 ov ls.length (ls.map (X0 g cap))/\Below B w1 wr/\Hid (ls++uD (ts.drop i) i a=qV ts)) (fun _ _ iv _=>ts.length-(intOf iv).toNat)
  case atStart=>exact⟨0,0,[],tr _,t9 _,rfl,rfl,t9 _,lk _ _ _ _,tj _ _,rfl⟩
  case round =>
   obtain⟨i,a,ls,hi,hai,rfl,rfl,hls,hownr,hbr,HI⟩:=hrel;by_cases zI6:i<ts.length
   ·obtain⟨_,_,hc2⟩:=(HS.out.below hbr (by rw[HB.out];exact HG.out)) i zI6
    have HD:Hid (ts.drop i=ts.getD i (0,[])::ts.drop (i+1)):=zJ ts i zI6;obtain⟨cl,hcl⟩:∃cl,zS (ts.getD i (0,[])).2=cl:=⟨_,rfl⟩;rw[hcl]at hc2;simp only[lu]at hc2
    have HI2:Hid (ls++(if cl=qQ then (a,i-a)::uD (ts.drop (i+1)) (i+1) (i+1) else uD (ts.drop (i+1)) (i+1) a)=qV ts):=by
     have:=HI.out;rw[HD.out,uD,hcl]at this;exact this
    have zJ6:B<=wr.heap.size:=by have h5:=hbr.size;have h6:=HB.out;omega
    clear HI HD hcl;by_cases k1:cl=qQ
    ·have HE:Hid ((ls++[(a,i-a)])++uD (ts.drop (i+1)) (i+1) (i+1)=qV ts):=by have:=HI2.out;rw[tl k1]at this;rw[Hid,mn];exact this
     have b1:(cl==[59])=true:=by rw[k1];rfl
     clear HI2 k1
     go_wp2_with (at_builtin;refine wpList_append_own _ rfl _ _ 116 rfl B 194 i0 _ 1 24 Tryz.underlying116 hi0 hz0 hz1 hz2 rfl (by decide) _ _ _ rfl (hownr.alloc _) ⟨wr.heap.size,0,none⟩ 1 1 [X0 g cap (a,i-a)] rfl rfl ?c1 ?c2 ?c3 ?c4 ?c5 ?_)
     case c1=>exact zZ _ _ _ _ rfl
     case c2=>intro u hu;simp at hu;subst hu;rfl
     case c3=>unfold maxLen;omega
     case c4=>omega
     case c5=>simp;omega
     intro v' w2 zI9 zI7 _;have hbel1:Below B w1 w2:=(hbr.alloc zJ6 _).grown zI7 (by simp;omega) (zN hownr);clear hownr hbr zI7
     go_wp2
     go_roundw
     case rel=>exact⟨i+1,i+1,ls++[(a,i-a)],by omega,by omega,by go_num,by go_num,by simp;omega,by simpa using zI9,hbel1,HE.out⟩
     case measure=>simp[intOf];omega
    ·have HE:Hid (ls++uD (ts.drop (i+1)) (i+1) a=qV ts):=by have:=HI2.out;rw[tg k1]at this;exact this
     have b1:(cl==[59])=false:=by simpa[qQ] using k1
     clear HI2 k1
     go_wp2
     go_roundw
     case rel=>exact⟨i+1,a,ls,by omega,by omega,rfl,by go_num,by omega,hownr,hbr,HE.out⟩
     case measure=>simp[intOf];omega
   ·have hd:ts.drop i=[]:=tu (by omega)
    have HE:Hid (ls=qV ts):=by have:=HI.out;rw[hd,uD,ce]at this;exact this
    clear hd HI
    go_wp2
    go_ret
    exact⟨_,rfl,⟨g,cap,HS.out.below hbr (by rw[HB.out];exact HG.out),hcap,hmax,by rw[<-HE.out];exact Gh hownr (by rw[HB.out];exact zIS.size)⟩,zIS.trans (hbr.mono (by rw[HB.out];exact zIS.size))⟩
theorem Cb{base g cap:Nat}{ls:List (Nat × Nat)}(h:w.ownsRow base 194 1 v ls.length (ls.map (X0 g cap))) :
 (v=.slice none 0 0/\ls=[])\/∃gl cl,v=.slice (some ⟨gl,0,none⟩) ls.length cl/\ls.length<=cl/\∀i,i<ls.length->w.cell? ⟨gl,i,none⟩=some (X0 g cap (ls.getD i (0,0))):=by
 rcases h.2 with ⟨h1,h2⟩|⟨gl,cl,yW,h1,h2,h3,h4,h5,h6,h7⟩
 ·exact .inl ⟨h1,mu h2⟩
 ·refine .inr ⟨gl,cl,h1,h4,fun i hi=>aP h3 h7 ?_⟩
  rw[List.getElem?_map];simp[List.getD,hi]
theorem Xw{ts:zG}{p:Nat × Nat}(h:p.1+p.2<ts.length):(nZ ts p).length=p.2:=by
 unfold nZ;rw[p9,ty];omega
end Go.Proofs.YtnbpdffdnphbeaaGreatDoor
