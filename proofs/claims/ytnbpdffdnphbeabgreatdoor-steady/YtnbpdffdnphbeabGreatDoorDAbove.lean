import Derived.Test.YtnbpdffdnphbeabGreatDoorMState
open Go.Proofs.Tryz
set_option maxHeartbeats 2000000
namespace Go.Proofs.YtnbpdffdnphbeabGreatDoor
open Go.RowKit
variable{ls:List zE}{r:Nat}{x:zE}(ins:List Bs)(H:Nat)(cs:List Bs)
def ZI(ins cs:List Bs)(s:vH):Jm:=⟨λnm=>jO s.has (zQ cs nm),λnm=>tQ s.inputs (zQ ins nm)⟩
theorem Mc(s:vH)(hs:List Bool)(x:zJ):VK (lF ins cs x) s hs=Vd (ZI ins cs s) hs x:=by
 unfold VK Vd lF;simp only;by_cases h1:x.kind=1
 ·rw[tr h1,tr h1]
 rw[tj h1,tj h1];by_cases h2:x.kind=2
 ·rw[tr h2,tr h2]
 rw[tj h2,tj h2];by_cases h3:x.kind=3
 ·rw[tr h3,tr h3]
 rw[tj h3,tj h3];by_cases h4:x.kind=4
 ·rw[tr h4,tr h4]
 rw[tj h4,tj h4];by_cases h5:x.kind=5
 ·rw[tr h5,tr h5];unfold BV ZI;rw[tr h5]
 rw[tj h5,tj h5];by_cases h6:x.kind=6
 ·rw[tr h6,tr h6];unfold BV ZI;rw[tj h5,tr (.inl h6)]
 rw[tj h6,tj h6];by_cases h7:x.kind=7
 ·rw[tr h7,tr h7]
  have e1:BV ins cs x=zQ ins x.name:=by unfold BV;rw[tj h5,tr (.inr h7)]
  have e2:(if decide (x.other≠[])=true then tQ s.inputs (wo ins x) else x.num)=(if x.other=[] then x.num else (ZI ins cs s).inp x.other):=by
   by_cases ho:x.other=[]
   ·simp[ho]
   ·simp only[ho,ne_eq,not_false_eq_true,decide_true,dj,if_false];unfold wo ZI;rw[tj ho]
  unfold J1 Ay;simp only;rw[e1,e2,show (ZI ins cs s).inp x.name=tQ s.inputs (zQ ins x.name) from rfl];generalize tQ s.inputs (zQ ins x.name)=p;generalize (if x.other=[] then x.num else (ZI ins cs s).inp x.other)=q;by_cases k1:p<q
  ·rw[tr k1,tr k1];rfl
  ·rw[tj k1,tj k1]
   by_cases k2:p=q
   ·rw[i6,tr k2];rfl
   ·rw[u',tj k2];rfl
 ·rw[tj h7,tj h7]
theorem MM(s:vH)(N:List zJ):∀hs,fD s (N.map (lF ins cs)) hs=VL (ZI ins cs s) N hs:=by
 induction N with
 | nil=>intro hs;rfl
 | cons x r ih=>intro hs;rw[cf,fD,VL,Mc,ih]
theorem fF(l:List Bs)(nm:Bs) : -1<=zQ l nm/\zQ l nm<l.length:=by
 have:=YQ nm l 0;unfold zQ;omega
theorem all_map{α β:Type}(f:α->β)(p:β->Bool)(l:List α):(l.map f).all p=l.all λx=>p (f x):=by
 induction l with
 | nil=>rfl
 | cons x r ih=>rw[cf,ff,ff,ih]
theorem Kx{α:Type}{p q:α->Bool}{l:List α}(h:∀x∈l,p x=q x):l.all p=l.all q:=by
 induction l with
 | nil=>rfl
 | cons x r ih=>rw[ff,ff,h x (by simp),ih λy hy=>h y (by simp[hy])]
def Ab(w:World)(b o:Nat)(G:List Bool):Prop:=∀k,k<64->w.cell? ⟨b,o+k,none⟩=some (.bool (G.getD k false))
theorem Ab.below{w w':World}{b o:Nat}{G:List Bool}(h:Ab w b o G)(hb:Below w.heap.size w w'):Ab w' b o G:=λk hk=>by
 rw[hb.cell (p:=⟨b,o+k,none⟩) (yJ (h k hk))];exact h k hk
def Ym(G:List Bool)(a b:Int):Bool:=(decide (0<=a)&&decide (a<8))&&((decide (0<=b)&&decide (b<8))&&gA G a.toNat b.toNat)
theorem Lv(w:World)(g o:Nat)(G:List Bool)(a b:Int)(h:Ab w g o G) :
 Calls prog 140 #[.pointer (some ⟨g,o,none⟩),.int .i64 a,.int .i64 b] w λe w'=>e=.returned (.bool (Ym G a b))/\w'=w:=by
 have HA:Hid (Ym G a b=((decide (0<=a)&&decide (a<8))&&((decide (0<=b)&&decide (b<8))&&gA G a.toNat b.toNat))):=rfl;have HP:=zA (λk w=>dK k w);generalize Ym G a b=aI at *;by_cases ka:0<=a/\a<8
 ·by_cases kb:0<=b/\b<8
  ·obtain⟨na,rfl⟩:∃n:Nat,a=(n:Int):=⟨a.toNat,by omega⟩
   obtain⟨nb,rfl⟩:∃n:Nat,b=(n:Int):=⟨b.toNat,by omega⟩;have aF:Hid (aI=gA G na nb):=by have:=HA.out;rw[tz ka.1,tz ka.2,tz kb.1,tz kb.2]at this;simpa[Hid] using this
   have hc:=h (na*8+nb) (by omega);rw[<-dg]at hc;have aY:Hid (aI=G.getD (na*8+nb) false):=aF;have aH:Hid (∀w:World,Calls prog 158 #[.int .i64 (na:Int)] w λe w'=>e=.returned (.bool true)/\w'=w):=λw=>by have:=HP.out (na:Int) w;rw[tz ka.1,tz ka.2]at this;exact this
   have aM:Hid (∀w:World,Calls prog 158 #[.int .i64 (nb:Int)] w λe w'=>e=.returned (.bool true)/\w'=w):=λw=>by have:=HP.out (nb:Int) w;rw[tz kb.1,tz kb.2]at this;exact this
   have la:na<8:=(by omega);have lb:nb<8:=(by omega);clear HA aF HP h ka kb;generalize G.getD (na*8+nb) false=z at *
   go_enter func140,ntmps140
   go_wp2_with fail
   refine(aH.out _).mono ?_;rintro e w' ⟨rfl,hw⟩;obtain rfl:=hw.symm;go_wp2_with fail
   refine(aM.out _).mono ?_;rintro e w' ⟨rfl,hw⟩;obtain rfl:=hw.symm;go_wp2_with fail
   go_ret
   exact⟨zG aY.out.symm,rfl⟩
  ·have hb:(decide (0<=b)&&decide (b<8))=false:=by
    rcases db b 0 with h1|h1
    ·rw[ty (by omega)];rfl
    ·rw[ty (show ¬b<8 by omega)];simp
   have aF:Hid (aI=false):=(by have:=HA.out;rw[hb]at this;simpa[Hid] using this);have aH:Hid (∀w:World,Calls prog 158 #[.int .i64 a] w λe w'=>e=.returned (.bool true)/\w'=w):=λw=>by have:=HP.out a w;rw[tz ka.1,tz ka.2]at this;exact this
   have aM:Hid (∀w:World,Calls prog 158 #[.int .i64 b] w λe w'=>e=.returned (.bool false)/\w'=w):=λw=>by have:=HP.out b w;rw[hb]at this;exact this
   clear HA HP h hb ka kb
   go_enter func140,ntmps140
   go_wp2_with fail
   refine(aH.out _).mono ?_;rintro e w' ⟨rfl,hw⟩;obtain rfl:=hw.symm;go_wp2_with fail
   refine(aM.out _).mono ?_;rintro e w' ⟨rfl,hw⟩;obtain rfl:=hw.symm;go_wp2_with fail
   go_ret
   exact⟨zG aF.out.symm,rfl⟩
 ·have ha:(decide (0<=a)&&decide (a<8))=false:=by
   rcases db a 0 with h1|h1
   ·rw[ty (by omega)];rfl
   ·rw[ty (show ¬a<8 by omega)];simp
  have aF:Hid (aI=false):=by have:=HA.out;rw[ha]at this;simpa[Hid] using this
  have aH:Hid (∀w:World,Calls prog 158 #[.int .i64 a] w λe w'=>e=.returned (.bool false)/\w'=w):=λw=>by have:=HP.out a w;rw[ha]at this;exact this
  clear HA HP h ha ka
  go_enter func140,ntmps140
  go_wp2_with fail
  refine(aH.out _).mono ?_;rintro e w' ⟨rfl,hw⟩;obtain rfl:=hw.symm;go_wp2_with fail
  go_ret
  exact⟨zG aF.out.symm,rfl⟩
theorem iA(w:World)(b o:Nat)(G:List Bool)(x y:Int)(h:Ab w b (o+3) G) :
 Calls prog 94 #[.pointer (some ⟨b,o,none⟩),.int .i64 x,.int .i64 y] w λe w'=>e=.returned (.bool (Ym G x y))/\w'=w:=by
 have HG:=zA (Lv w b (o+3) G x y h);clear h;generalize Ym G x y=z at *
 go_enter func94,ntmps94
 go_wp2_with fail
 refine HG.out.mono ?_;rintro e w' ⟨rfl,hw⟩;obtain rfl:=hw.symm;go_wp2_with fail
 go_ret
 exact⟨rfl,rfl⟩
structure jN(ls:List zE):Prop where
 many:∀i,i<ls.length->mA ls i=false
 err:∀i,i<ls.length->bY ls i=0
 iy:jA (kW (zX ls) ls gZ)=false
 ord:jA (qN (vQ ls) ls gZ)=false
theorem Er(h:(uE ls).1=0):jN ls:=by
 revert h
 unfold uE
 cases hm:nK ls ls.length 0 with
 | some i=>intro h;exact M' (show (3:Int)=0 from h)
 | none =>
   have aG:=λi (hi:i<ls.length)=>Ds ls.length 0 hm i (p8) (by omega);simp only;unfold QJ
   cases he:eC ls ls.length 0 with
   | some i =>
     intro h;exfalso
     have h1:bY ls i=0:=h
     have:∀n i j,eC ls n i=some j->bY ls j≠0:=by
      intro n
      induction n with
      | zero=>intro i j h;simp[eC]at h
      | succ n ih=>intro i j h;rw[eC]at h;split at h
                   ·exact ih _ _ h
                   ·rename_i aR;obtain rfl:=Option.some.inj h;exact aR
     exact this _ _ _ he h1
   | none =>
     have aL:=λi (hi:i<ls.length)=>ql ls.length 0 he i (p8) (by omega);simp only;unfold XP;intro h
     cases hr:jA (kW (zX ls) ls gZ) with
     | true=>rw[hr,tr rfl]at h;exact M' (show (7:Int)=0 from h)
     | false =>
       rw[hr,i6]at h
       cases hs:jA (qN (vQ ls) ls gZ) with
       | true=>rw[hs,tr rfl]at h;exact M' (show (7:Int)=0 from h)
       | false=>exact⟨aG,aL,hr,hs⟩
theorem jN.rules(h:jN ls):vS 3 ls<=8:=qb h.many
theorem D9(ls:List zE):(zX ls).length<=vS 3 ls:=by have:=(Kd ls [] (by simp)).2.2;simpa[zX] using this
theorem jN.aa(h:jN ls):(zX ls).length<=8:=tu (D9 ls) h.rules
theorem vo(ls:List zE)(nm:Bs):nm∈zX ls ↔ mQ ls nm=true:=by
 have:=(Kd ls [] (by simp)).2.1 nm;unfold zX mQ;simpa using this
theorem Bj(l:List Bs)(nm:Bs):0<=zQ l nm ↔ nm∈l:=by
 have:=nW nm l 0;unfold zQ;constructor
 ·intro h;exact Classical.not_not.1 λhn=>by have:=this.2 hn;omega
 ·intro h;rcases db (kJ nm l 0) 0 with h1|h1
  ·exact x' h (this.1 h1)
  ·exact h1
theorem R5(ls:List zE)(nm:Bs):nm∈qE ls ↔ (kX ls 1 nm=true\/kX ls 2 nm=true):=by
 rw[nN];simp only[pd,mu,kX,mw,Xs,ma,ml];constructor
 ·rintro⟨x,⟨h1,h2|h2⟩,h3⟩
  ·exact .inl ⟨x,h1,h2,h3⟩
  ·exact .inr ⟨x,h1,h2,h3⟩
 ·rintro(⟨x,h1,h2,h3⟩|⟨x,h1,h2,h3⟩)
  ·exact⟨x,⟨h1,.inl h2⟩,h3⟩
  ·exact⟨x,⟨h1,.inr h2⟩,h3⟩
theorem Vg(h:x∈ls):∃i,i<ls.length/\lA ls i=x:=by
 obtain⟨i,hi,rfl⟩:=dz h;exact⟨i,hi,by simp[lA,List.getD,hi]⟩
theorem jN.apart(h:jN ls){nm:Bs}(h1:nm∈qE ls):mQ ls nm=false:=by
 rw[nN]at h1;obtain⟨x,hx,rfl⟩:=pd.1 h1;obtain⟨hm,hk⟩:=mu.1 hx;obtain⟨i,hi,rfl⟩:=Vg hm;have he:=h.err i hi
 have aA:nO ls i=0:=by
  unfold bY at he;rcases(cr hk:(lA ls i).kind=1\/(lA ls i).kind=2) with k|k
  ·rw[tr k]at he
   unfold Zu at he;by_cases h0:nO ls i=0
   ·exact h0
   ·rw[tj h0]at he;exact he
  ·rw[i6,tr k]at he;exact he
 unfold nO at aA
 cases hc:mQ ls (lA ls i).name with
 | false=>rfl
 | true=>rw[hc,Bool.or_true,Bool.or_true,tr rfl]at aA;exact M' aA
structure Abs where
 n:Nat
 head:Nat->Nat
 LJ:Nat->Nat->Bool
 app:Nat->(Nat->Bool)->Bool
 sum:Nat->(Nat->Int)->Int
 Hg:Nat->Nat
 nm:Nat->Nat->Prop
 su:∀r f g,r<n->(∀c,nm r c->f c=g c)->app r f=app r g
 Hi:∀r f g,r<n->(∀c,nm r c->f c=g c)->sum r f=sum r g
 Hj:∀r c,r<n->nm r c->Hg c<Hg (head r)
 Hm:∀k r,k<n->r<n->LJ k r=true->head k=head r
structure Hear where
 has:Nat->Bool
 val:Nat->Int
 ap:Nat->Bool
 vd:Nat->Int
 st:Nat->Int
 av:Nat->Int
def h0:Hear:=⟨λ_=>false,λ_=>0,λ_=>false,λ_=>0,λ_=>0,λ_=>0⟩
def aE(ls:List zE):List zE:=ls.filter λx=>decide (x.kind=3)
theorem Qp(ls:List zE):vQ ls=(aE ls).map zE.name:=by
 have key:∀(ls:List zE) acc,sL ls acc=acc++(ls.filter λx=>decide (x.kind=3)).map zE.name:=by
  intro ls
  induction ls with
  | nil=>intro acc;simp[sL]
  | cons x r ih=>intro acc;rw[sL,ih];by_cases h:x.kind=3 <;> simp[h]
 unfold vQ aE;rw[key];simp
theorem JN(ls:List zE):uJ ins cs ls=(aE ls).map (qT ins cs):=by
 unfold uJ aE;rw[zx];simp
theorem Iz(h:x∈aE ls):x∈ls/\x.kind=3:=by
 have:=mu.1 h;exact⟨this.1,by simpa using this.2⟩
theorem Mm(ls:List zE):(aE ls).length=vS 3 ls:=by
 unfold aE
 induction ls with
 | nil=>rfl
 | cons x r ih=>rw[vS];by_cases h:x.kind=3 <;> simp[h,ih];omega
theorem IL(h:r<(aE ls).length):(aE ls).getD r Jn∈aE ls:=by simp[List.getD,h]
theorem Gk(f:Nat->Bool)(a:Int):jO ((List.range H).map f) a=(decide (0<=a)&&(decide (a<H)&&f a.toNat)):=by
 unfold jO;by_cases h0:0<=a
 ·by_cases h1:a<H
  ·rw[tz h0,tz h1]
   simp only[pt,nl,tz h1,bm];simp[List.getD,show a.toNat<H by omega]
  ·rw[ty h1]
   simp only[pt,nl,ty h1,Bool.false_and]
 ·rw[ty h0];rfl
theorem Uy(f:Nat->Int)(a:Int):tQ ((List.range H).map f) a=if 0<=a/\a<H then f a.toNat else 0:=by
 unfold tQ;simp only[pt,nl];by_cases h:0<=a/\a<H
 ·rw[tr h,tr h];simp[List.getD,show a.toNat<H by omega]
 ·rw[tj h,tj h]
def Al(r:xN)(c:Nat):Prop:=(∃p∈r.sum,p.kind=3/\p.place=(c:Int))\/∃y∈r.guard,y.kind=5/\y.place=(c:Int)
theorem Fe(r:xN)(H:Nat)(inp v v':List Int)(f g:Nat->Bool)(h:∀c,Al r c->f c=g c):kY r ⟨inp,(List.range H).map f,v⟩=kY r ⟨inp,(List.range H).map g,v'⟩:=by
 have hT:∀a:Int,(∀c:Nat,a=(c:Int)->Al r c)->jO ((List.range H).map f) a=jO ((List.range H).map g) a:=λa ha=>by
  rw[Gk,Gk];by_cases h0:0<=a
  ·rw[h a.toNat (ha a.toNat (by omega))]
  ·rw[ty h0];rfl
 have h1:tF ⟨inp,(List.range H).map f,v⟩ r.sum=tF ⟨inp,(List.range H).map g,v'⟩ r.sum:=by
  unfold tF
  exact Kx λp hp=>by
   by_cases k:p.kind=3
   ·rw[hT p.place λc e=>.inl ⟨p,hp,k,e⟩]
   ·rw[ty k];rfl
 have h2:∀(N:List kP) hs,(∀y∈N,y∈r.guard)->fD ⟨inp,(List.range H).map f,v⟩ N hs=fD ⟨inp,(List.range H).map g,v'⟩ N hs:=by
  intro N
  induction N with
  | nil=>intro hs _;rfl
  | cons y t ih =>
    intro hs hy;rw[fD,fD]
    have e:VK y ⟨inp,(List.range H).map f,v⟩ hs=VK y ⟨inp,(List.range H).map g,v'⟩ hs:=by
     unfold VK;by_cases k:y.kind=5
     ·simp only[k]
      exact hT y.place λc e=>.inr ⟨y,hy y (by simp),k,e⟩
     ·simp only[k,if_false];rfl
    rw[e];exact ih _ λz hz=>hy z (by simp[hz])
 unfold kY;rw[h1,h2 r.guard [] λy hy=>hy]
theorem Cv(r:xN)(H:Nat)(inp:List Int)(v v':List Bool)(f g:Nat->Int)(h:∀c,Al r c->f c=g c):Eh ⟨inp,v,(List.range H).map f⟩ r.sum=Eh ⟨inp,v',(List.range H).map g⟩ r.sum:=by
 have key:∀(l:List iD) n,(∀p∈l,p∈r.sum)->JK ⟨inp,v,(List.range H).map f⟩ l n=JK ⟨inp,v',(List.range H).map g⟩ l n:=by
  intro l
  induction l with
  | nil=>intro n _;rfl
  | cons p t ih =>
    intro n hp;rw[JK,JK]
    have e:FF ⟨inp,v,(List.range H).map f⟩ p=FF ⟨inp,v',(List.range H).map g⟩ p:=by
     unfold FF;by_cases k:p.kind=3
     ·simp only[k]
      rw[Uy,Uy];by_cases h0:0<=p.place/\p.place<H
      ·rw[tr h0,tr h0,h p.place.toNat (.inl ⟨p,hp p (by simp),k,by omega⟩)]
      ·rw[tj h0,tj h0]
     ·simp only[k,if_false]
    rw[e];exact ih _ λz hz=>hp z (by simp[hz])
 exact key r.sum 0 λp hp=>hp
def Kf(ls:List zE)(r:Nat):Nat:=(zQ (zX ls) ((aE ls).getD r Jn).ae).toNat
theorem uk(h:r<(aE ls).length):zQ (zX ls) ((aE ls).getD r Jn).ae=(Kf ls r:Int)/\Kf ls r<(zX ls).length:=by
 have hm:=Iz (IL h);have h1:0<=zQ (zX ls) ((aE ls).getD r Jn).ae:=(Bj _ _).2 ((vo _ _).2 (mw.2 ⟨_,hm.1,by unfold Gm;rw[tz hm.2];simp⟩));have h2:=fF (zX ls) ((aE ls).getD r Jn).ae;unfold Kf;omega
def vl(ls:List zE)(r:Nat):xN:=qT (qE ls) (zX ls) ((aE ls).getD r Jn)
theorem Mh(h:jN ls){c:Nat}(hr:r<(aE ls).length)(hn:Al (vl ls r) c):c<(zX ls).length/\sJ (kW (zX ls) ls gZ) c<sJ (kW (zX ls) ls gZ) (Kf ls r):=by
 have h8:=h.aa;obtain⟨hm,hk⟩:=Iz (IL hr);obtain⟨hf,aC⟩:=uk hr;have hl:(kW (zX ls) ls gZ).length=64:=by rw[nJ];exact yX
 have hc:(((aE ls).getD r Jn).sum.any (λy=>decide (zQ (zX ls) y.name=(c:Int))) || ((aE ls).getD r Jn).nd.any (λy=>decide (y.kind=5)&&decide (zQ (zX ls) y.name=(c:Int))))=true/\c<(zX ls).length:=by
  rcases hn with ⟨p,hp,k,e⟩|⟨y,hy,k,e⟩
  ·obtain⟨q,hq,rfl⟩:=pd.1 hp
   have aD:rm (qE ls) q=3:=k;have aB:wu (qE ls) (zX ls) q=(c:Int):=e;unfold rm at aD;unfold wu at aB;by_cases h0:q.name=[]
   ·rw[tr h0]at aD;exact M' aD
   ·rw[tj h0]at aD aB
    by_cases h1:zQ (qE ls) q.name<0
    ·rw[tr h1]at aB
     exact⟨by rw[ce];exact .inl (mw.2 ⟨q,hq,by simpa using aB⟩),by have:=fF (zX ls) q.name;omega⟩
    ·rw[tj h1]at aD;exact M' aD
  ·obtain⟨q,hq,rfl⟩:=pd.1 hy
   have aO:q.kind=5:=k;have aB:BV (qE ls) (zX ls) q=(c:Int):=e;unfold BV at aB;rw[tr aO]at aB;exact⟨by rw[ce];exact .inr (mw.2 ⟨q,hq,by simp[aO,aB]⟩),by have:=fF (zX ls) q.name;omega⟩
 refine⟨hc.2,Rl hl h.iy (by omega) (by omega) ?_⟩;rw[U4 _ _ (by omega) (by omega) _ yX,Ih,bt];exact mw.2 ⟨_,hm,by unfold wg;rw[hk,hf,hc.1];simp⟩
theorem Qu(h:jN ls):(qE ls).Nodup:=by
 have key:∀n,n<=ls.length->(qE (ls.take n)).Nodup:=by
  intro n
  induction n with
  | zero=>intro _;simp[qE,yC,nM]
  | succ n ih =>
    intro hn;have ih:=ih (by omega);rw[nN,oF ls n (by omega),fb,bj];rw[nN]at ih;by_cases hk:(lA ls n).kind=1\/(lA ls n).kind=2
    ·rw[List.filter_cons_of_pos (by simpa using hk),List.filter_nil,List.nodup_append]
     refine⟨ih,by simp,λa ha b hb=>?_⟩;simp only[cf,List.map_nil,pr]at hb;subst hb;intro e;subst e;have hm:=(R5 (ls.take n) (lA ls n).name).1 (by rw[nN];exact ha);have he:=h.err n (by omega)
     have aA:nO ls n=0:=by
      unfold bY at he;rcases hk with k|k
      ·rw[tr k]at he
       unfold Zu at he;by_cases h0:nO ls n=0
       ·exact h0
       ·rw[tj h0]at he;exact he
      ·rw[i6,tr k]at he;exact he
     unfold nO at aA;rcases hm with hm|hm
     ·rw[hm,Bool.true_or,tr rfl]at aA;exact M' aA
     ·rw[hm,Bool.true_or,Bool.or_true,tr rfl]at aA;exact M' aA
    ·rw[List.filter_cons_of_neg (by simpa using hk),List.filter_nil];simpa using ih
 have:=key ls.length (tg _)
 rwa [co]at this
theorem Q8{α β:Type}(f:α->β)(l:List α)(j:Nat)(d:α)(d':β)(h:j<l.length):(l.map f).getD j d'=f (l.getD j d):=by simp[List.getD,h]
def jk(ls:List zE):List zE:=ls.filter λx=>decide (x.kind=1\/x.kind=2)
theorem Vt(h:x∈jk ls):x.kind=1\/x.kind=2:=cr (mu.1 h).2
theorem Qy(ls:List zE):qE ls=(jk ls).map zE.name:=nN ls
theorem Qw(ls:List zE):yC ls=(jk ls).map bE:=by unfold yC;rw[Qv,lu];rfl
end Go.Proofs.YtnbpdffdnphbeabGreatDoor
