import Derived.Test.YtnbpdffdnphbeabGreatDoorMRowF
open Go.Proofs.Tryz
set_option maxHeartbeats 2000000
namespace Go.Proofs.YtnbpdffdnphbeabGreatDoor
open Go.RowKit
variable(l:Bs)(w:World)
def Zg(l:Bs):Int:=if (rO l).1=0 then 9 else if (rO l).1=7 then 0 else (rO l).1
def eL(l:Bs):List Bs:=if (rO l).1=7 then XQ (yZ l).1 else []
theorem Zo(B:Nat):w.ownsRow B 9 1 (.slice none 0 0) 0 []:=⟨rfl,.inl ⟨rfl,rfl⟩⟩
theorem QZ(k:Int)(hk:k=1\/k=2)(p:Int)(hR:Calls prog 55 #[.string ⟨l.toArray⟩] w λe w'=>e=.returned (jE (.slice none 0 0) k p)/\Below w.heap.size w w') :
 Calls prog 35 #[.string ⟨l.toArray⟩] w λe w'=>e=.returned (.tuple #[.slice none 0 0,.int .i64 k])/\Below w.heap.size w w':=by
 have HR:=zA hR;have e1:(k != 0)=true:=by rcases hk with rfl|rfl <;> rfl
 clear hR hk
 go_enter func35,ntmps35
 go_wp2_with fail
 refine HR.out.mono ?_;rintro e w1 ⟨rfl,hb⟩;have HB:=zA hb;have hs:=hb.size;clear hb HR;unfold jE;go_wp2_with fail
 go_quiet (fail)
 go_wp2_with fail
 go_ret2
 exact⟨rfl,xQ (HB.out.alloc hs _) _⟩
theorem Ja(aA:l.length<=maxLen)(hg:l.length<=4000->(yZ l).2.2=false->∀x∈(yZ l).1,bG x)(hm:l.length<=4000->(yZ l).1.length<=10000) :
 Calls prog 35 #[.string ⟨l.toArray⟩] w λe w'=>∃v,e=.returned (.tuple #[v,.int .i64 (Zg l)])/\w'.ownsRow w.heap.size 9 1 v (eL l).length (xG (eL l))/\Below w.heap.size w w':=by
 by_cases hl:4000<l.length
 ·have e:rO l=(1,0):=by unfold rO;rw[tr hl]
  have e1:Zg l=1:=by unfold Zg;rw[e];rfl
  have e2:eL l=[]:=by unfold eL;rw[e];rfl
  rw[e1,e2];refine(QZ l w 1 (.inl rfl) 0 (bT l w aA hl)).mono ?_;rintro e w' ⟨h1,h2⟩;exact⟨_,h1,Zo _ _,h2⟩
 ·have hR:=lR l w (by omega)
  have hg:=hg (by omega);have hm:=hm (by omega);cases hf:(yZ l).2.2
  ·have e:rO l=uE (yZ l).1:=by unfold rO;rw[tj hl,hf]
   have aG:Hid (Zg l=if (uE (yZ l).1).1=0 then 9 else if (uE (yZ l).1).1=7 then 0 else (uE (yZ l).1).1):=(by unfold Hid Zg;rw[e]);have aD:Hid (eL l=if (uE (yZ l).1).1=7 then XQ (yZ l).1 else []):=(by unfold Hid eL;rw[e]);have hg:=hg hf;have HR:=zA hR
   have aU:Hid (∀w' e,lP w w' l e->∃lv ls,e=.returned (jE lv 0 0)/\ls.map Prod.fst=(yZ l).1/\wV w' w.heap.size lv ls):=by
    intro w' e h;unfold lP at h;rw[hf]at h;exact h
   generalize Zg l=aB at *;generalize eL l=aC at *;generalize (yZ l).1=F at *;have HG:=zA hg;have aV:=zA hm;clear hR hg hm hf e;generalize aR:uE F=ck at *;have aX:=zA aR;clear aR;obtain⟨aF,ae⟩:=ck;obtain⟨rl,aM⟩:∃rl,rl=XQ F:=⟨_,rfl⟩;have aT:=zA aM;rw[<-aM]at aD;clear aM
   go_enter func35,ntmps35
   go_wp2_with fail
   refine HR.out.mono ?_;rintro e w1 ⟨aQ,hb⟩;obtain⟨lv,ls,rfl,aH,aI⟩:=aU.out _ _ aQ;have HB:=zA hb;have hs:=hb.size;have aa:ls.length<=10000:=by have h9:=gk List.length aH;rw[pt]at h9;rw[h9];exact aV.out
   obtain⟨la,lc,rfl,aZ,aN⟩:=Dz aI (λx hx=>HG.out _ (by rw[<-aH];exact pd.2 ⟨x,hx,rfl⟩)) aa
   have aW:Hid (∀o,Calls prog 56 #[.slice la ls.length lc] (w1.alloc o) λe w'=>e=.returned (cO (aF,ae))/\Below (w1.alloc o).heap.size (w1.alloc o) w'):=λo=>by
    have:=VG (w1.alloc o) la lc ls aZ (aN.below (fk (tg _) o) (tg _));rw[show fs ls=F from aH,aX.out]at this;exact this
   have af:Hid (∀w',Below w1.heap.size w1 w'->Calls prog 57 #[.slice la ls.length lc] w' λe w''=>∃v,e=.returned v/\w''.ownsRow w'.heap.size 9 1 v rl.length (xG rl)/\Below w'.heap.size w' w''):=λw' hb=>by
    have:=NJ w' la lc ls (aN.below hb (tg _));rw[show fs ls=F from aH,<-aT.out]at this;exact this
   clear hb aQ aI aN aH HR aU HG aV aX aT;unfold jE;go_wp2_with fail
   refine(aW.out _).mono ?_;rintro e w2 ⟨rfl,aJ⟩
   have aY:Hid (∀o,Below w1.heap.size w1 ((w2.alloc o))):=λo=>by
    have h1:=((tl w1.heap.size w1).alloc (tg _) _).trans (aJ.mono (by simp));exact h1.alloc h1.size o
   have q2:w2.cell? ⟨w1.heap.size,0,none⟩=some (.slice la ls.length lc):=by
    rw[aJ.cell (p:=⟨w1.heap.size,0,none⟩) (zY _ _)];exact(zC (zF _ _) 0).trans rfl
   have ai:w1.heap.size<w2.heap.size:=tq (zY _ _) aJ.size;have aK:Hid (Below w.heap.size w w2):=(HB.out.alloc hs _).trans (aJ.mono (by simp;omega));have aL:=aK.out.size;clear aW aJ;unfold cO;by_cases k0:aF=0
   ·subst k0
    have A1:Hid (aB=9):=(by have:=aG.out;rw[tr rfl]at this;exact this);have A2:Hid (aC=[]):=(by have:=aD.out;rw[i6]at this;exact this);clear aG aD;go_wp2_with fail
    go_ret2
    refine⟨_,KP A1.out.symm,?_,aK.out.alloc aL _⟩;rw[A2.out];exact Zo _ _
   ·have b0:(aF==0)=false:=by simpa using k0
    by_cases k7:aF=7
    ·subst k7
     have A1:Hid (aB=0):=(by have:=aG.out;rw[i6,tr rfl]at this;exact this);have A2:Hid (aC=rl):=(by have:=aD.out;rw[tr rfl]at this;exact this);clear aG aD k0 b0;go_wp2_with fail
     refine(af.out _ (aY.out _)).mono ?_;rintro e w3 ⟨v3,rfl,aP,aS⟩;have ah:Hid (Below w.heap.size w w3):=(aK.out.alloc aL _).trans (aS.mono (by simp;omega));have ag:=zA (yN (b':=w.heap.size) aP (by simp;omega));clear aS aP;go_wp2_with fail
     go_ret2
     refine⟨_,KP A1.out.symm,?_,ah.out⟩;rw[A2.out];exact ag.out
    ·have A1:Hid (aB=aF):=by have:=aG.out;rw[tj k0,tj k7]at this;exact this
     have A2:Hid (aC=[]):=(by have:=aD.out;rw[tj k7]at this;exact this);have b7:(aF != 7)=true:=(by simpa using k7);clear aG aD k0 k7;go_wp2_with fail
     go_quiet (fail)
     go_wp2_with fail
     go_ret2
     refine⟨_,KP A1.out.symm,?_,xQ (aK.out.alloc aL _) _⟩;rw[A2.out];exact Zo _ _
  ·have e:rO l=(2,((yB (rB l) (yZ l).2.1).p:Int)):=by unfold rO;rw[tj hl,hf]
   have e1:Zg l=2:=(by unfold Zg;rw[e];rfl);have e2:eL l=[]:=(by unfold eL;rw[e];rfl);rw[e1,e2];refine(QZ l w 2 (.inr rfl) ((yB (rB l) (yZ l).2.1).p:Int) (hR.mono ?_)).mono ?_
   ·rintro e w' ⟨h1,h2⟩
    unfold lP at h1;rw[hf]at h1;exact⟨h1,h2⟩
   ·rintro e w' ⟨h1,h2⟩
    exact⟨_,h1,Zo _ _,h2⟩
def Ap(w w':World)(e:Ending):Prop:=(∃v,e=.returned v)/\Below w.heap.size w w'
theorem YG{l:Bs}(h:l.length<=4000):zFV 4001 l:=(yu h (by decide)).1
theorem Pj(aA:l.length<=maxLen):Calls prog 35 #[.string ⟨l.toArray⟩] w λe w'=>Ap w w' e :=
 (Ja l w aA (λh1 h2=>(YG h1).gm h2) (λh1=>(YG h1).many)).mono λ_ _ ⟨_,h1,_,h3⟩=>⟨⟨_,h1⟩,h3⟩
theorem j3(aA:l.length<=maxLen):Calls prog 37 #[.string ⟨l.toArray⟩] w λe w'=>Ap w w' e :=
 (BJ l w aA (λh1 h2=>(YG h1).gm h2) (λh1=>(YG h1).many)).mono λ_ _ ⟨h1,h3⟩=>⟨⟨_,h1⟩,h3⟩
theorem Pk(aA:l.length<=maxLen)(hv:IZ w):Calls prog 38 #[.string ⟨l.toArray⟩] w λe w'=>Ap w w' e :=
 (Fk 4001 l w aA hv (λh=>YG h)).mono λ_ _ ⟨h1,h3⟩=>⟨⟨_,h1⟩,h3⟩
theorem QU(aA:l.length<=maxLen):(∃k:Int,k≠0/\∀w,Calls prog 50 #[.string ⟨l.toArray⟩] w λe w'=>e=.returned (.agg (tR xD xD xD gZ k))/\Below w.heap.size w w')\/∃F,BN F/\∀w,Calls prog 50 #[.string ⟨l.toArray⟩] w λe w'=>lO F w w' e:=by
 by_cases hl:4000<l.length
 ·exact .inl ⟨1,by decide,λw=>Jb l w 1 (.inl rfl) 0 (λo=>bT l (w.alloc o) aA hl)⟩
 ·have aO:l.length<=4000:=by omega
  have hp:=YG aO;cases hf:(yZ l).2.2
  ·have hR:=λw=>K1 l w aO hf (hp.gm hf) hp.many (Md aO hf) FT
   by_cases hk:(uE (yZ l).1).1=0
   ·exact .inr ⟨_,Iu (Er hk) (hp.gm hf),λw=>(hR w).mono λe w' h=>h.2 hk⟩
   ·exact .inl ⟨_,hk,λw=>(hR w).mono λe w' h=>h.1 hk⟩
  ·refine .inl ⟨2,by decide,λw=>Jb l w 2 (.inr rfl) ((yB (rB l) (yZ l).2.1).p:Int) (λo=>(lR l (w.alloc o) (by omega)).mono ?_)⟩
   rintro e w' ⟨h1,h2⟩;unfold lP at h1;rw[hf]at h1;exact⟨h1,h2⟩
theorem kz(aA:l.length<=maxLen):Calls prog 29 #[.string ⟨l.toArray⟩] w λe w'=>Ap w w' e:=by
 rcases QU l aA with ⟨k,hk,hR⟩|⟨F,hm,hR⟩
 ·exact(BI l w k hk (hR w)).mono λ_ _ ⟨h1,h2⟩=>⟨⟨_,h1⟩,h2⟩
 ·refine(dE l w F hm (hR w)).mono ?_
  rintro e w' ⟨rs,-,hb,⟨rfl,-⟩|⟨i,j,f,g,la,sa,sc,rfl,-⟩⟩
  ·exact⟨⟨_,rfl⟩,hb⟩
  ·exact⟨⟨_,rfl⟩,hb⟩
theorem Ph(b:Bool)(w:World)(aA:l.length<=maxLen):Calls prog 27 #[.string ⟨l.toArray⟩,.bool b] w λe w'=>Ap w w' e:=by
 cases b
 ·rcases QU l aA with ⟨k,hk,hR⟩|⟨F,hm,hR⟩
  ·exact(Fl l w k hk (hR w)).mono λ_ _ ⟨h1,h2⟩=>⟨⟨_,h1⟩,h2⟩
  ·refine(BG l w F (hR w)).mono ?_
   rintro e w' ⟨b,rfl,-,hb⟩;exact⟨⟨_,rfl⟩,hb⟩
 ·rcases QU l aA with ⟨k,hk,hR⟩|⟨F,hm,hR⟩
  ·exact(BH l w k hk (hR w)).mono λ_ _ ⟨h1,h2⟩=>⟨⟨_,h1⟩,h2⟩
  ·refine(iB l w F hm (hR w)).mono ?_
   rintro e w' ⟨rs,-,hb,⟨b,rfl,-⟩|⟨rfl,-⟩⟩
   ·exact⟨⟨_,rfl⟩,hb⟩
   ·exact⟨⟨_,rfl⟩,hb⟩
def A8:Bs:=[114,117,108,101,32,97,58,32,99,97,32,61,32,99,98,32,119,104,101,110,32,97,108,119,97,121,115,59,32,114,117,108,101,32,98,58,32,99,98,32,61,32,99,97,32,119,104,101,110,32,97,108,119,97,121,115,59]
def A9:Bs:=[32,114,117,108,101,32,99,58,32,99,99,32,61,32,99,99,32,119,104,101,110,32,97,108,119,97,121,115,59,32,114,117,108,101,32,100,58,32,99,100,32,61,32,49,32,119,104,101,110,32,104,97,115,32,99,100,59]
theorem Ln:Zg (A8++A9)=0:=by decide +kernel
theorem Lm:eL (A8++A9)=[[99,97],[99,98]]:=by decide +kernel
theorem VT:Calls prog 35 #[.string ⟨(A8++A9).toArray⟩] w λe w'=>∃v,e=.returned (.tuple #[v,.int .i64 0])/\w'.ownsRow w.heap.size 9 1 v 2 (xG [[99,97],[99,98]])/\Below w.heap.size w w':=by
 have hl:(A8++A9).length<=4000:=by decide
 have:=Ja (A8++A9) w (by decide) (λ_ h2=>(YG hl).gm h2) (λ_=>(YG hl).many);rw[Ln,Lm]at this;exact this
end Go.Proofs.YtnbpdffdnphbeabGreatDoor
