import Derived.Test.YtnbpdffdnphbeaaGreatDoorForm
set_option maxHeartbeats 1000000
namespace Go.Proofs.YtnbpdffdnphbeaaGreatDoor
variable{v:Value}{w:World}(ts:zG)
def uB:zG->Nat->Nat->List (Nat × Nat)
 | [],_,_=>[]
 | t::r,i,a=>if zR t.2=qN then (a,i-a)::uB r (i+1) (i+1) else uB r (i+1) a
def qR(ts:zG):List (Nat × Nat):=uB ts 0 0
theorem XJ:∀i a,(uB ts i a).length<=ts.length:=by
 induction ts with
 | nil=>intro i a;simp[uB]
 | cons t r ih=>intro i a;rw[uB];split <;> simp <;> have:=ih (i+1) (i+1) <;> have:=ih (i+1) a <;> omega
def nV(ts:zG)(p:Nat × Nat):zG:=(ts.drop p.1).take p.2
def lT(n:Nat)(u:zG):Bs :=
 if zR (u.getD 0 (0,[])).2=zQ then cZ (u.take ((mD u).toNat+1))++[32]++(pV n (u.drop ((mD u).toNat+1))).1 else cZ u
def Ui(n:Nat)(u:zG):Prop :=
 0<u.length/\(zR (u.getD 0 (0,[])).2=zQ->0<=mD u/\mD u+1<u.length/\qJ n (u.drop ((mD u).toNat+1))=true)
def Xh(n:Nat)(ts:zG):List (Nat × Nat)->Bs->Bs
 | [],s=>s
 | p::r,s=>Xh n ts r (s++lT n (nV ts p)++[59,10])
def Yy(ts:zG):List (Nat × Nat)->Nat
 | []=>0
 | p::r=>20*(eO (nV ts p)+1)+Yy ts r
theorem Kw(n:Nat)(u:zG):(lT n u).length+2<=20*(eO u+1):=by
 unfold lT;split
 ·have h1:=XX (u.take ((mD u).toNat+1)) [] 0
  have h2:=vl n (u.drop ((mD u).toNat+1));have h3:=mE u ((mD u).toNat+1);simp only[cZ,tq,p7,List.length_nil]at h1 ⊢;omega
 ·have h1:=XX u [] 0
  simp only[cZ];simp only[List.length_nil]at h1;omega
theorem zAO(m:Nat):∀(i a:Nat),ts.length-i=m->a<=i->Yy ts (uB (ts.drop i) i a)<=20*eO (ts.drop a):=by
 induction m with
 | zero =>
   intro i a h _;rw[tu (by omega),uB,Yy];omega
 | succ m ih =>
   intro i a h ha;rw[zJ ts i (by omega),uB];split
   ·rw[Yy]
    have h1:=ih (i+1) (i+1) (by omega) (t9 _);have h2:=mE (ts.drop a) (i-a);rw[List.drop_drop,show a+(i-a)=i by omega,zJ ts i (by omega),eO]at h2;simp only[nV];omega
   ·exact ih (i+1) a (by omega) (by omega)
theorem zf:Yy ts (qR ts)<=20*eO ts:=by
 have:=zAO ts ts.length 0 0 (by omega) (t9 _);simpa[qR] using this
theorem G0(m:Nat)(ts:zG):∀(i a:Nat),ts.length-i=m->a<=i->∀p∈uB (ts.drop i) i a,p.1+p.2<ts.length:=by
 induction m with
 | zero =>
   intro i a h _ p hp;rw[tu (by omega),uB]at hp;simp at hp
 | succ m ih =>
   intro i a h ha p hp;rw[zJ ts i (by omega),uB]at hp;split at hp
   ·rcases pi.1 hp with rfl|hp
    ·simp only;omega
    ·exact ih (i+1) (i+1) (by omega) (t9 _) p hp
   ·exact ih (i+1) a (by omega) (by omega) p hp
theorem Jq:∀p∈qR ts,p.1+p.2<ts.length:=by
 have:=G0 ts.length ts 0 0 (by omega) (t9 _);simpa[qR] using this
theorem FT(n:Nat):∀(l:Bs) (p:Nat),eO (tB n l p)<=2*l.length:=by
 induction n with
 | zero=>intro l p;simp[tB,eO]
 | succ n ih =>
   intro l p;simp only[tB];split
   ·simp[eO]
   ·split
    ·have:=ih (l.drop 1) (p+1);rw[ty]at this;omega
    ·rename_i h0 _
     have h1:=ih (l.drop (vZ l)) (p+vZ l);have h2:=nB l;have h3:=Ky (l:=l) (by omega);rw[ty]at h1;simp only[eO,p9];omega
theorem Fu(l:Bs):eO (yR l 0)<=2*l.length:=by
 have:=FT l.length l 0;simpa[yR] using this
def Di(n:Nat)(l:Bs):Bs:=Xh n (yR l 0) (qR (yR l 0)) []
open Go.RowKit
def Xt(g cap:Nat)(p:Nat × Nat):Value:=.slice (some ⟨g,p.1*3,none⟩) p.2 (cap-p.1)
theorem zA0:(Tryz.prog.info? 194).map (fun i=>(i.zero,i.size,i.bytes))=some (some (.slice none 0 0),1,24):=by kernel_rfl
theorem Ga{b b':Nat}{e:TypeId}{size:Nat}{n:Nat}{xs:List Value}(h:w.ownsRow b e size v n xs)(hb:b'<=b):w.ownsRow b' e size v n xs:=by
 refine⟨h.1,?_⟩;rcases h.2 with h1|⟨g,cap,yV,h1,h2,r⟩
 ·exact .inl h1
 ·exact .inr ⟨g,cap,yV,h1,tx hb h2,r⟩
theorem kI.below{w':World}{g o B:Nat}{ts:zG}(h:kI w g o ts)(hb:Below B w w')(hg:g<B):kI w' g o ts:=by
 intro i hi;obtain⟨a,b,c⟩:=h i hi;exact⟨by rw[hb.cell (p:=⟨g,_,none⟩) hg];exact a,by rw[hb.cell (p:=⟨g,_,none⟩) hg];exact b,by rw[hb.cell (p:=⟨g,_,none⟩) hg];exact c⟩
theorem zN{B:Nat}{e:TypeId}{size:Nat}{n:Nat}{xs:List Value}(zID:w.ownsRow B e size v n xs):∀k,v.ownBlock=some k->B<=k:=by
 intro k hk;rcases zID.2 with ⟨h1,_⟩|⟨g,cap,yV,h1,h2,_⟩
 ·rw[h1]at hk;simp[Value.ownBlock]at hk
 ·rw[h1]at hk;simp[Value.ownBlock]at hk;omega
def Fj(w w':World)(v:Value)(ts:zG):Prop:=∃g cap,kI w' g 0 ts/\ts.length<=cap/\cap<=maxLen/\w'.ownsRow w.heap.size 194 1 v (qR ts).length ((qR ts).map (Xt g cap))
theorem JL(l:Bs)(w:World)(hl:l.length<=4000) :
 Calls Tryz.prog 63 #[.string ⟨l.toArray⟩] w fun e w'=>∃v,e=.returned v/\Fj w w' v (yR l 0)/\Below w.heap.size w w':=by
 obtain⟨i0,hi0,hz0,hz1,hz2⟩:=dp zA0;have HTok:=sG (Qs l w hl);have zJ1:=kW l 0;generalize yR l 0=ts at *
 go_enter Tryz.func63,Tryz.ntmps63
 go_wp2_with (go_at_call 109;refine HTok.out.mono ?_;rintro e w1 ⟨v,rfl,zID,zIX⟩)
 clear HTok;obtain⟨B,hB⟩:∃B,B=w1.heap.size:=⟨_,rfl⟩;have HB:Hid (B=w1.heap.size):=hB;rcases Vx zID with ⟨rfl,rfl⟩|⟨g,cap,rfl,_,hg1,hcap,zJ3,zIF⟩
 ·clear zID zJ1 hB
  go_loop [4,5,6] (fun ov av iv=>ov=.slice none 0 0/\av=.int .i64 0/\iv=.int .i64 0) (fun _ _ _=>0)
  case atStart=>exact⟨rfl,rfl,rfl⟩
  case round =>
   obtain⟨rfl,rfl,rfl⟩:=hrel;go_wp2_with fail
   go_ret
   exact⟨_,rfl,⟨0,0,(fun i hi=>by simp at hi),tr _,tr _,lq _ _ _ _⟩,zIX⟩
 ·have HS:Hid (kI w1 g 0 ts):=zIF
  have HG:Hid (g<w1.heap.size):=hg1;clear zID zIF hB hg1
  go_loopw [4,5,6] (fun ov av iv wr=>∃(i a:Nat) (ls:List (Nat × Nat)),i<=ts.length/\a<=i/\av=.int .i64 a/\iv=.int .i64 i/\ls.length<=i/\wr.ownsRow B 194 1 ov ls.length (ls.map (Xt g cap))/\Below B w1 wr/\Hid (ls++uB (ts.drop i) i a=qR ts)) (fun _ _ iv _=>ts.length-(intOf iv).toNat)
  case atStart=>exact⟨0,0,[],tr _,t9 _,rfl,rfl,t9 _,lq _ _ _ _,tl _ _,rfl⟩
  case round =>
   obtain⟨i,a,ls,hi,hai,rfl,rfl,hls,hownr,hbr,HI⟩:=hrel;by_cases zIB:i<ts.length
   ·obtain⟨_,_,hc2⟩:=(HS.out.below hbr (by rw[HB.out];exact HG.out)) i zIB
    have HD:Hid (ts.drop i=ts.getD i (0,[])::ts.drop (i+1)):=zJ ts i zIB;obtain⟨cl,hcl⟩:∃cl,zR (ts.getD i (0,[])).2=cl:=⟨_,rfl⟩;rw[hcl]at hc2;simp only[l8]at hc2
    have HI2:Hid (ls++(if cl=qN then (a,i-a)::uB (ts.drop (i+1)) (i+1) (i+1) else uB (ts.drop (i+1)) (i+1) a)=qR ts):=by
     have:=HI.out;rw[HD.out,uB,hcl]at this;exact this
    have zJB:B<=wr.heap.size:=by have h5:=hbr.size;have h6:=HB.out;omega
    clear HI HD hcl;by_cases k1:cl=qN
    ·have HE:Hid ((ls++[(a,i-a)])++uB (ts.drop (i+1)) (i+1) (i+1)=qR ts):=by have:=HI2.out;rw[tj k1]at this;rw[Hid,mq];exact this
     have b1:(cl==[59])=true:=by rw[k1];rfl
     clear HI2 k1
     go_wp2_with (at_builtin;refine wpList_append_own _ rfl _ _ 116 rfl B 194 i0 _ 1 24 Tryz.underlying116 hi0 hz0 hz1 hz2 rfl (by decide) _ _ _ rfl (hownr.alloc _) ⟨wr.heap.size,0,none⟩ 1 1 [Xt g cap (a,i-a)] rfl rfl ?c1 ?c2 ?c3 ?c4 ?c5 ?_)
     case c1=>exact zZ _ _ _ _ rfl
     case c2=>intro u hu;simp at hu;subst hu;rfl
     case c3=>unfold maxLen;omega
     case c4=>omega
     case c5=>simp;omega
     intro v' w2 zIE zIC _;have hbel1:Below B w1 w2:=(hbr.alloc zJB _).grown zIC (by simp;omega) (zN hownr);clear hownr hbr zIC
     go_wp2
     go_roundw
     case rel=>exact⟨i+1,i+1,ls++[(a,i-a)],by omega,by omega,by go_num,by go_num,by simp;omega,by simpa using zIE,hbel1,HE.out⟩
     case measure=>simp[intOf];omega
    ·have HE:Hid (ls++uB (ts.drop (i+1)) (i+1) a=qR ts):=by have:=HI2.out;rw[tg k1]at this;exact this
     have b1:(cl==[59])=false:=by simpa[qN] using k1
     clear HI2 k1
     go_wp2
     go_roundw
     case rel=>exact⟨i+1,a,ls,by omega,by omega,rfl,by go_num,by omega,hownr,hbr,HE.out⟩
     case measure=>simp[intOf];omega
   ·have hd:ts.drop i=[]:=tu (by omega)
    have HE:Hid (ls=qR ts):=by have:=HI.out;rw[hd,uB,ce]at this;exact this
    clear hd HI
    go_wp2
    go_ret
    exact⟨_,rfl,⟨g,cap,HS.out.below hbr (by rw[HB.out];exact HG.out),hcap,zJ3,by rw[<-HE.out];exact Ga hownr (by rw[HB.out];exact zIX.size)⟩,zIX.trans (hbr.mono (by rw[HB.out];exact zIX.size))⟩
theorem BS{base g cap:Nat}{ls:List (Nat × Nat)}(h:w.ownsRow base 194 1 v ls.length (ls.map (Xt g cap))) :
 (v=.slice none 0 0/\ls=[])\/∃gl cl,v=.slice (some ⟨gl,0,none⟩) ls.length cl/\ls.length<=cl/\∀i,i<ls.length->w.cell? ⟨gl,i,none⟩=some (Xt g cap (ls.getD i (0,0))):=by
 rcases h.2 with ⟨h1,h2⟩|⟨gl,cl,yV,h1,h2,h3,h4,h5,h6,h7⟩
 ·exact .inl ⟨h1,mu h2⟩
 ·refine .inr ⟨gl,cl,h1,h4,fun i hi=>aQ h3 h7 ?_⟩
  rw[List.getElem?_map];simp[List.getD,hi]
theorem Xp{ts:zG}{p:Nat × Nat}(h:p.1+p.2<ts.length):(nV ts p).length=p.2:=by
 unfold nV;rw[p9,ty];omega
end Go.Proofs.YtnbpdffdnphbeaaGreatDoor
