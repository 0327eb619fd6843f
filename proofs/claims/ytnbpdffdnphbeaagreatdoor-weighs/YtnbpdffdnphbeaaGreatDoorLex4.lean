import Derived.Test.YtnbpdffdnphbeaaGreatDoorForm
set_option maxHeartbeats 1000000
namespace Go.Proofs.YtnbpdffdnphbeaaGreatDoor
def vY:zI->Nat->Nat->List (Nat × Nat)
 | [],_,_=>[]
 | t::r,i,a=>if zX t.2=qH then (a,i-a)::vY r (i+1) (i+1) else vY r (i+1) a
def qM(ts:zI):List (Nat × Nat):=vY ts 0 0
theorem iH(ts:zI):∀i a,(vY ts i a).length<=ts.length:=by
 induction ts with
 | nil=>intro i a;simp[vY]
 | cons t r ih=>intro i a;rw[vY];split <;> simp <;> have:=ih (i+1) (i+1) <;> have:=ih (i+1) a <;> omega
def oG(ts:zI)(p:Nat × Nat):zI:=(ts.drop p.1).take p.2
def lM(n:Nat)(u:zI):Bs :=
 if zX (u.getD 0 (0,[])).2=zW then dA (u.take ((pW u).toNat+1))++[32]++(pO n (u.drop ((pW u).toNat+1))).1 else dA u
def Vt(n:Nat)(u:zI):Prop :=
 0<u.length/\(zX (u.getD 0 (0,[])).2=zW->0<=pW u/\pW u+1<u.length/\qD n (u.drop ((pW u).toNat+1))=true)
def YL(n:Nat)(ts:zI):List (Nat × Nat)->Bs->Bs
 | [],s=>s
 | p::r,s=>YL n ts r (s++lM n (oG ts p)++[59,10])
def Yg(ts:zI):List (Nat × Nat)->Nat
 | []=>0
 | p::r=>20*(eV (oG ts p)+1)+Yg ts r
theorem JJ(n:Nat)(u:zI):(lM n u).length+2<=20*(eV u+1):=by
 unfold lM;split
 ·have h1:=XH (u.take ((pW u).toNat+1)) [] 0
  have h2:=GT n (u.drop ((pW u).toNat+1));have h3:=pX u ((pW u).toNat+1);simp only[dA,List.length_append,List.length_cons,List.length_nil]at h1 ⊢;omega
 ·have h1:=XH u [] 0
  simp only[dA];simp only[List.length_nil]at h1;omega
theorem qe(ts:zI)(m:Nat):∀(i a:Nat),ts.length-i=m->a<=i->Yg ts (vY (ts.drop i) i a)<=20*eV (ts.drop a):=by
 induction m with
 | zero =>
   intro i a h _;rw[List.drop_eq_nil_of_le (by omega),vY,Yg];omega
 | succ m ih =>
   intro i a h ha;rw[zO ts i (by omega),vY];split
   ·rw[Yg]
    have h1:=ih (i+1) (i+1) (by omega) (Nat.le_refl _);have h2:=pX (ts.drop a) (i-a);rw[List.drop_drop,show a+(i-a)=i by omega,zO ts i (by omega),eV]at h2;simp only[oG];omega
   ·exact ih (i+1) a (by omega) (by omega)
theorem Ge(ts:zI):Yg ts (qM ts)<=20*eV ts:=by
 have:=qe ts ts.length 0 0 (by omega) (Nat.le_refl _);simpa[qM] using this
theorem Fq(m:Nat)(ts:zI):∀(i a:Nat),ts.length-i=m->a<=i->∀p∈vY (ts.drop i) i a,p.1+p.2<ts.length:=by
 induction m with
 | zero =>
   intro i a h _ p hp;rw[List.drop_eq_nil_of_le (by omega),vY]at hp;simp at hp
 | succ m ih =>
   intro i a h ha p hp;rw[zO ts i (by omega),vY]at hp;split at hp
   ·rcases List.mem_cons.1 hp with rfl|hp
    ·simp only;omega
    ·exact ih (i+1) (i+1) (by omega) (Nat.le_refl _) p hp
   ·exact ih (i+1) a (by omega) (by omega) p hp
theorem QQ(ts:zI):∀p∈qM ts,p.1+p.2<ts.length:=by
 have:=Fq ts.length ts 0 0 (by omega) (Nat.le_refl _);simpa[qM] using this
theorem DH(n:Nat):∀(l:Bs) (p:Nat),eV (jS n l p)<=2*l.length:=by
 induction n with
 | zero=>intro l p;simp[jS,eV]
 | succ n ih =>
   intro l p;simp only[jS];split
   ·simp[eV]
   ·split
    ·have:=ih (l.drop 1) (p+1);rw[List.length_drop]at this;omega
    ·rename_i h0 _
     have h1:=ih (l.drop (vX l)) (p+vX l);have h2:=nT l;have h3:=JL (l:=l) (by omega);rw[List.length_drop]at h1;simp only[eV,List.length_take];omega
theorem Dv(l:Bs):eV (zP l 0)<=2*l.length:=by
 have:=DH l.length l 0;simpa[zP] using this
def Cx(n:Nat)(l:Bs):Bs:=YL n (zP l 0) (qM (zP l 0)) []
open Go.RowKit
def Xa(g cap:Nat)(p:Nat × Nat):Value:=.slice (some ⟨g,p.1*3,none⟩) p.2 (cap-p.1)
theorem ud:(Tryz.prog.info? 194).map (fun i=>(i.zero,i.size,i.bytes))=some (some (.slice none 0 0),1,24):=by kernel_rfl
theorem DN{w:World}{b b':Nat}{e:TypeId}{size:Nat}{v:Value}{n:Nat}{xs:List Value}(h:w.ownsRow b e size v n xs)(hb:b'<=b):w.ownsRow b' e size v n xs:=by
 refine⟨h.1,?_⟩;rcases h.2 with h1|⟨g,cap,yP,h1,h2,r⟩
 ·exact .inl h1
 ·exact .inr ⟨g,cap,yP,h1,Nat.le_trans hb h2,r⟩
theorem qT.below{w w':World}{g o B:Nat}{ts:zI}(h:qT w g o ts)(hb:Below B w w')(hg:g<B):qT w' g o ts:=by
 intro i hi;obtain⟨a,b,c⟩:=h i hi;exact⟨by rw[hb.cell (p:=⟨g,_,none⟩) hg];exact a,by rw[hb.cell (p:=⟨g,_,none⟩) hg];exact b,by rw[hb.cell (p:=⟨g,_,none⟩) hg];exact c⟩
theorem zZ{w:World}{B:Nat}{e:TypeId}{size:Nat}{v:Value}{n:Nat}{xs:List Value}(zG1:w.ownsRow B e size v n xs):∀k,v.ownBlock=some k->B<=k:=by
 intro k hk;rcases zG1.2 with ⟨h1,_⟩|⟨g,cap,yP,h1,h2,_⟩
 ·rw[h1]at hk;simp[Value.ownBlock]at hk
 ·rw[h1]at hk;simp[Value.ownBlock]at hk;omega
def Dj(w w':World)(v:Value)(ts:zI):Prop:=∃g cap,qT w' g 0 ts/\ts.length<=cap/\cap<=maxLen/\w'.ownsRow w.heap.size 194 1 v (qM ts).length ((qM ts).map (Xa g cap))
theorem Jp(l:Bs)(w:World)(hl:l.length<=4000) :
 Calls Tryz.prog 63 #[.string ⟨l.toArray⟩] w fun e w'=>∃v,e=.returned v/\Dj w w' v (zP l 0)/\Below w.heap.size w w':=by
 obtain⟨i0,hi0,hz0,hz1,hz2⟩:=info_parts ud;have HTok:=sP (iN l w hl);have zGN:=uU l 0;generalize zP l 0=ts at *
 go_enter Tryz.func63,Tryz.ntmps63
 go_wp2_with (go_at_call 109;refine HTok.out.mono ?_;rintro e w1 ⟨v,rfl,zG1,zGJ⟩)
 clear HTok;obtain⟨B,hB⟩:∃B,B=w1.heap.size:=⟨_,rfl⟩;have HB:Hid (B=w1.heap.size):=hB;rcases Xg zG1 with ⟨rfl,rfl⟩|⟨g,cap,rfl,_,hg1,hcap,zGO,zG4⟩
 ·clear zG1 zGN hB
  go_loop [4,5,6] (fun ov av iv=>ov=.slice none 0 0/\av=.int .i64 0/\iv=.int .i64 0) (fun _ _ _=>0)
  case atStart=>exact⟨rfl,rfl,rfl⟩
  case round =>
   obtain⟨rfl,rfl,rfl⟩:=hrel;go_wp2_with fail
   go_ret
   exact⟨_,rfl,⟨0,0,(fun i hi=>by simp at hi),Nat.zero_le _,Nat.zero_le _,World.ownsRow_nil _ _ _ _⟩,zGJ⟩
 ·have HS:Hid (qT w1 g 0 ts):=zG4
  have HG:Hid (g<w1.heap.size):=hg1;clear zG1 zG4 hB hg1
  go_loopw [4,5,6] (fun ov av iv wr=>∃(i a:Nat) (ls:List (Nat × Nat)),i<=ts.length/\a<=i/\av=.int .i64 a/\iv=.int .i64 i/\ls.length<=i/\wr.ownsRow B 194 1 ov ls.length (ls.map (Xa g cap))/\Below B w1 wr/\Hid (ls++vY (ts.drop i) i a=qM ts)) (fun _ _ iv _=>ts.length-(intOf iv).toNat)
  case atStart=>exact⟨0,0,[],Nat.zero_le _,Nat.le_refl _,rfl,rfl,Nat.le_refl _,World.ownsRow_nil _ _ _ _,Below.refl _ _,rfl⟩
  case round =>
   obtain⟨i,a,ls,hi,hai,rfl,rfl,hls,hownr,hbr,HI⟩:=hrel;by_cases zFZ:i<ts.length
   ·obtain⟨_,_,hc2⟩:=(HS.out.below hbr (by rw[HB.out];exact HG.out)) i zFZ
    have HD:Hid (ts.drop i=ts.getD i (0,[])::ts.drop (i+1)):=zO ts i zFZ;obtain⟨cl,zGM⟩:∃cl,zX (ts.getD i (0,[])).2=cl:=⟨_,rfl⟩;rw[zGM]at hc2;simp only[Nat.zero_add]at hc2
    have HI2:Hid (ls++(if cl=qH then (a,i-a)::vY (ts.drop (i+1)) (i+1) (i+1) else vY (ts.drop (i+1)) (i+1) a)=qM ts):=by
     have:=HI.out;rw[HD.out,vY,zGM]at this;exact this
    have hBw:B<=wr.heap.size:=by have h5:=hbr.size;have h6:=HB.out;omega
    clear HI HD zGM;by_cases k1:cl=qH
    ·have HE:Hid ((ls++[(a,i-a)])++vY (ts.drop (i+1)) (i+1) (i+1)=qM ts):=by have:=HI2.out;rw[if_pos k1]at this;rw[Hid,List.append_assoc];exact this
     have b1:(cl==[59])=true:=by rw[k1];rfl
     clear HI2 k1
     go_wp2_with (at_builtin;refine wpList_append_own _ rfl _ _ 116 rfl B 194 i0 _ 1 24 Tryz.underlying116 hi0 hz0 hz1 hz2 rfl (by decide) _ _ _ rfl (hownr.alloc _) ⟨wr.heap.size,0,none⟩ 1 1 [Xa g cap (a,i-a)] rfl rfl ?c1 ?c2 ?c3 ?c4 ?c5 ?_)
     case c1=>exact xI _ _ _ _ rfl
     case c2=>intro u hu;simp at hu;subst hu;rfl
     case c3=>unfold maxLen;omega
     case c4=>omega
     case c5=>simp;omega
     intro v' w2 zG2 zG0 _;have hbel1:Below B w1 w2:=(hbr.alloc hBw _).grown zG0 (by simp;omega) (zZ hownr);clear hownr hbr zG0
     go_wp2
     go_roundw
     case rel=>exact⟨i+1,i+1,ls++[(a,i-a)],by omega,by omega,by go_num,by go_num,by simp;omega,by simpa using zG2,hbel1,HE.out⟩
     case measure=>simp[intOf];omega
    ·have HE:Hid (ls++vY (ts.drop (i+1)) (i+1) a=qM ts):=by have:=HI2.out;rw[if_neg k1]at this;exact this
     have b1:(cl==[59])=false:=by simpa[qH] using k1
     clear HI2 k1
     go_wp2
     go_roundw
     case rel=>exact⟨i+1,a,ls,by omega,by omega,rfl,by go_num,by omega,hownr,hbr,HE.out⟩
     case measure=>simp[intOf];omega
   ·have hd:ts.drop i=[]:=List.drop_eq_nil_of_le (by omega)
    have HE:Hid (ls=qM ts):=by have:=HI.out;rw[hd,vY,List.append_nil]at this;exact this
    clear hd HI
    go_wp2
    go_ret
    exact⟨_,rfl,⟨g,cap,HS.out.below hbr (by rw[HB.out];exact HG.out),hcap,zGO,by rw[<-HE.out];exact DN hownr (by rw[HB.out];exact zGJ.size)⟩,zGJ.trans (hbr.mono (by rw[HB.out];exact zGJ.size))⟩
theorem UX{w:World}{base g cap:Nat}{v:Value}{ls:List (Nat × Nat)}(h:w.ownsRow base 194 1 v ls.length (ls.map (Xa g cap))) :
 (v=.slice none 0 0/\ls=[])\/∃gl cl,v=.slice (some ⟨gl,0,none⟩) ls.length cl/\ls.length<=cl/\∀i,i<ls.length->w.cell? ⟨gl,i,none⟩=some (Xa g cap (ls.getD i (0,0))):=by
 rcases h.2 with ⟨h1,h2⟩|⟨gl,cl,yP,h1,h2,h3,h4,h5,h6,h7⟩
 ·exact .inl ⟨h1,List.eq_nil_of_length_eq_zero h2⟩
 ·refine .inr ⟨gl,cl,h1,h4,fun i hi=>aW h3 h7 ?_⟩
  rw[List.getElem?_map];simp[List.getD,hi]
theorem YU{ts:zI}{p:Nat × Nat}(h:p.1+p.2<ts.length):(oG ts p).length=p.2:=by
 unfold oG;rw[List.length_take,List.length_drop];omega
end Go.Proofs.YtnbpdffdnphbeaaGreatDoor
