import Derived.Test.YtnbpdffdnphbeaaGreatDoorCkErr2
namespace Go.Proofs.YtnbpdffdnphbeaaGreatDoor
variable{us:List zG}{a b:Nat}(names:List Bs)(u:zG)(f:Int)(nm:Bs)(ls:List zF)(N:List zX)(d:Bs)(S:List yX)
def cY(us:List zG):Nat->Nat->List Bs->List Bs
 | 0,_,acc=>acc
 | n+1,i,acc=>cY us n (i+1) (if cA (uA us i) 0=zQ/\zV us zQ 3 (tA (uA us i) 3)=(i:Int) then acc++[tA (uA us i) 3] else acc)
def jB(us:List zG):List Bs:=cY us us.length 0 []
def sD(us:List zG):Nat->Nat->List Bs->List Bs
 | 0,_,acc=>acc
 | n+1,i,acc=>sD us n (i+1) (if cA (uA us i) 0=zQ then acc++[tA (uA us i) 1] else acc)
def pS(us:List zG):List Bs:=sD us us.length 0 []
def Kl(u:zG)(d:Bs)(k:Nat):Bool:=decide (cA u k=yT)&&(decide (tA u k=d)&&(decide (k<wC u) || decide (cA u (k-1)=[104,97,115])))
def Jj(u:zG)(d:Bs):Nat->Nat->Bool
 | 0,_=>false
 | n+1,k=>Kl u d k || Jj u d n (k+1)
def qt(c d:Bs)(u:zG):Bool:=decide (cA u 0=zQ)&&(decide (tA u 3=c)&&Jj u d (u.length-5) 5)
def cU(us:List zG)(c d:Bs):Bool:=us.any (qt c d)
def qi(x y:Bs)(u:zG):Bool:=decide (cA u 0=tW)&&(decide (tA u 1=x)&&decide (tA u 2=y))
def rW(us:List zG)(x y:Bs):Bool:=us.any (qi x y)
def rL(us:List zG)(rules:Bool)(x y:Bs):Bool:=match rules with|true=>rW us x y|false=>cU us x y
def jG(us:List zG)(rules:Bool)(names:List Bs)(i k:Nat):Bool:=rL us rules (names.getD i []) (names.getD k [])
def YO(us:List zG)(rules:Bool):List Bs:=match rules with|true=>pS us|false=>jB us
def dZ(us:List zG)(rules:Bool):Bool:=wN (jG us rules (YO us rules)) (YO us rules).length
def zHX(c d:Bs)(x:zF):Bool:=decide (x.kind=3)&&(decide (x.conc=c)&&((x.sum.flatMap rR).any (fun y=>decide (y.2=d)) || (tD x.nd).any (fun y=>decide (y.1=1)&&decide (y.2=d))))
def zHF(x y:Bs)(l:zF):Bool:=decide (l.kind=4)&&(decide (l.name=x)&&decide (l.lower=y))
theorem Gm(n:Nat):∀k,wC u<k->k+n=u.length->Jj u d n k=(qT (cA u (k-1)) (u.drop k) []).any (fun y=>decide (y.1=1)&&decide (y.2=d)):=by
 induction n with
 | zero=>intro k _ h;rw[tu (by omega)];rfl
 | succ n ih =>
   intro k hk h;have zIB:k<u.length:=by omega
   rw[zJ u k zIB,qT,Jj,X4,ih (k+1) (by omega) (by omega),show k+1-1=k by omega,df];show (Kl u d k || _)=((if cA u k=yT then [(mU (cA u (k-1)) (D4 u k),tA u k)] else []).any _ || (qT (cA u k) (u.drop (k+1)) []).any _);congr 1
   unfold Kl;rw[th (show ¬k<wC u by omega),pm];by_cases hc:cA u k=yT
   ·rw[tj hc,tm hc]
    have e:decide (mU (cA u (k-1)) (D4 u k)=1)=decide (cA u (k-1)=[104,97,115]):=by
     unfold mU;by_cases hh:cA u (k-1)=[104,97,115]
     ·rw[tj hh,tm hh];rfl
     ·rw[tg hh,th hh];split <;> rfl
    simp only[mt,List.any_nil,Bool.or_false,md,e];exact Bool.and_comm _ _
   ·rw[tg hc,th hc];rfl
theorem zCX{w:Nat}(hw:wC u=w)(hwl:w<u.length)(n:Nat):∀k,k+n=w->Jj u d (u.length-k) k=((cI ((u.take w).drop k)).any (fun y=>decide (y.2=d)) || Jj u d (u.length-w) w):=by
 induction n with
 | zero=>intro k h;obtain rfl:k=w:=by omega
         rw[tu (by rw[p9];omega)];rfl
 | succ n ih =>
   intro k h;have zIB:k<(u.take w).length:=by rw[p9];omega
   have e0:(u.take w).getD k (0,[])=u.getD k (0,[]):=by rw[List.getD,List.getD,List.getElem?_take_of_lt (by omega)]
   rw[show u.length-k=(u.length-(k+1))+1 by omega,Jj,ih (k+1) (by omega),zJ (u.take w) k zIB,e0,cI,df,<-Bool.or_assoc];congr 2
   show Kl u d k=(if cA u k=yT then [(0,tA u k)] else []).any _;unfold Kl;rw[tm (show k<wC u by omega),dq,Bool.and_true];by_cases hc:cA u k=yT
   ·rw[tj hc,tm hc];simp
   ·rw[tg hc,th hc];rfl
theorem xy:∀(k j:Nat),mR u k=some j->k<=j/\cA u (j-k)=xO:=by
 induction u with
 | nil=>intro k j h;simp[mR]at h
 | cons t r ih =>
   intro k j h;rw[mR]at h;split at h
   ·rename_i ht
    obtain rfl:=co h;exact⟨t9 _,by rw[bj];exact ht⟩
   ·obtain⟨h1,h2⟩:=ih (k+1) j h
    refine⟨by omega,?_⟩;rw[show j-k=(j-(k+1))+1 by omega];exact h2
theorem zCW{x:zF}{u:zG}(h:LT x u)(c d:Bs):qt c d u=zHX c d x:=by
 unfold qt zHX;rw[bp.2 h.k3];by_cases hk:cA u 0=zQ
 ·obtain⟨w,hw⟩:=h.rule hk
  have h1:=hw.wlo;have h2:=hw.whi;have hcw:cA u w=xO:=by have:=(xy u 0 w hw.whenAt).2;simpa using this
  rw[hw.conc,zCX u d hw.wAt (by omega) (w-5) 5 (by omega),hw.needs,show u.length-w=(u.length-(w+1))+1 by omega,Jj];have e:Kl u d w=false:=by unfold Kl;rw[hcw,th (by decide)];rfl
  rw[e,pm,Gm u d _ (w+1) (by rw[hw.wAt];omega) (by omega),show w+1-1=w by omega,hcw,hw.needs2]
 ·rw[th hk];rfl
theorem D2{x:zF}{u:zG}(h:LT x u)(a b:Bs):qi a b u=zHF a b x:=by
 unfold qi zHF;rw[bp.2 h.k4,h.name];rcases h.kind with ⟨k,_⟩|⟨k,_⟩|⟨_,_,_,d⟩|⟨k,_⟩
 ·rw[th (fun e=>by rw[(h.k4).2 e]at k;exact absurd k (by decide))];rfl
 ·rw[th (fun e=>by rw[(h.k4).2 e]at k;exact absurd k (by decide))];rfl
 ·rw[d]
 ·rw[th (fun e=>by rw[(h.k4).2 e]at k;exact absurd k (by decide))];rfl
theorem aN(l:List Bs):∀i:Nat,vY nm l i<0 ↔ nm ∉ l:=by
 induction l with
 | nil=>intro i;simp[vY]
 | cons x r ih =>
   intro i;rw[vY];split
   ·rename_i h;subst h;simp
   ·rename_i h;rw[ih,pi,not_or];exact⟨fun h1=>⟨fun e=>h e.symm,h1⟩,fun h1=>h1.2⟩
theorem Jw(l:List Bs):l.Nodup->∀(i a:Nat),vY nm l i=((i+a:Nat):Int) ↔ a<l.length/\l.getD a []=nm:=by
 induction l with
 | nil=>intro _ i a;simp[vY];omega
 | cons x r ih =>
   intro hn i a;rw[List.nodup_cons]at hn;rw[vY];split
   ·rename_i h
    subst h
    cases a with
    | zero=>simp
    | succ a =>
      constructor
      ·intro h;omega
      ·rintro⟨h1,h2⟩
       exfalso
       apply hn.1
       rw[<-h2];have h3:a<r.length:=by simpa using h1
       have:(x::r).getD (a+1) []=r[a]:=by simp[List.getD,h3]
       rw[this];exact List.getElem_mem h3
   ·rename_i h
    cases a with
    | zero =>
      constructor
      ·intro h1
       have:=Yv nm r (i+1);exfalso
       have h2:0<=vY nm r (i+1):=by rw[h1];omega
       have h3:=ih hn.2 (i+1);obtain⟨b,hb⟩:=bq h2
       have hge:∀(l:List Bs) (j:Nat),0<=vY nm l j->(j:Int)<=vY nm l j:=by
        intro l
        induction l with
        | nil=>intro j hj;simp[vY]at hj
        | cons y s ihs=>intro j hj;rw[vY]at hj ⊢;split
                        ·omega
                        ·rename_i hy;rw[tg hy]at hj;have:=ihs (j+1) hj;omega
       have:=hge r (i+1) h2;omega
      ·rintro⟨_,h2⟩;exact absurd (by simpa using h2) h
    | succ a =>
      rw[show i+(a+1)=i+1+a by omega,ih hn.2 (i+1) a];simp
theorem Uq{names:List Bs}(hn:names.Nodup)(nm:Bs)(a:Nat):zH names nm=(a:Int) ↔ a<names.length/\names.getD a []=nm:=by
 have:=Jw nm names hn 0 a
 rwa [l8]at this
theorem aK:∀(acc:List Bs),acc.Nodup->(uR ls acc).Nodup/\(∀nm,nm∈uR ls acc ↔ (nm∈acc\/ls.any (KX nm)=true))/\(uR ls acc).length<=acc.length+uW 3 ls:=by
 induction ls with
 | nil=>intro acc h;exact⟨h,fun nm=>by simp[uR],by simp[uR,uW]⟩
 | cons x r ih =>
   intro acc h;rw[uR,uW];by_cases hk:x.kind=3
   ·rw[tj hk]
    by_cases hf:zH acc x.conc<0
    ·rw[tj ⟨hk,hf⟩]
     have hnm:=(aN x.conc acc 0).1 hf;obtain⟨h1,h2,h3⟩:=ih (acc++[x.conc]) (by rw[List.nodup_append];exact⟨h,by simp,fun a ha b hb=>by rw[pu.1 hb];exact fun e=>hnm (e ▸ ha)⟩);refine⟨h1,fun nm=>?_,by rw[tq,pd]at h3;omega⟩;rw[h2,mt,mz,pt,pu];unfold KX;rw[tm hk,md,pr];constructor
     ·rintro((h|h)|h)
      ·exact .inl h
      ·exact .inr (.inl h.symm)
      ·exact .inr (.inr h)
     ·rintro(h|h|h)
      ·exact .inl (.inl h)
      ·exact .inl (.inr h.symm)
      ·exact .inr h
    ·rw[tg (fun h=>hf h.2)]
     have hnm:x.conc∈acc:=by
      rcases Classical.em (x.conc∈acc) with h1|h1
      ·exact h1
      ·exact absurd ((aN x.conc acc 0).2 h1) hf
     obtain⟨h1,h2,h3⟩:=ih acc h;refine⟨h1,fun nm=>?_,by omega⟩;rw[h2,mt,mz];unfold KX;rw[tm hk,md,pr];constructor
     ·rintro(h|h)
      ·exact .inl h
      ·exact .inr (.inr h)
     ·rintro(h|h|h)
      ·exact .inl h
      ·exact .inl (h ▸ hnm)
      ·exact .inr h
   ·rw[tg (fun h=>hk h.1),tg hk]
    obtain⟨h1,h2,h3⟩:=ih acc h;refine⟨h1,fun nm=>?_,by omega⟩;rw[h2,mt];unfold KX;rw[th hk];simp
theorem C3(xs ys:List zF):∀acc,uR (xs++ys) acc=uR ys (uR xs acc):=by
 induction xs with
 | nil=>intro acc;rfl
 | cons x r ih=>intro acc;rw[bw,uR,ih,uR]
theorem pG(i:Nat)(h:i<ls.length):ls.take (i+1)=ls.take i++[lA ls i]:=by
 rw[dj,pe h];simp[lA,List.getD,h]
theorem XV{ls:List zF}(hA:yQ ls us):jB us=zS ls:=by
 have hl:=hA.len
 have key:∀n i,i+n=us.length->cY us n i (uR (ls.take i) [])=zS ls:=by
  intro n
  induction n with
  | zero=>intro i h;rw[cY,cf (by omega)];rfl
  | succ n ih =>
    intro i h;rw[cY,<-ih (i+1) (by omega),pG ls i (by omega),C3];congr 1
    rw[uR,uR];have hx:=hA.get i (by omega);obtain⟨_,h2,_⟩:=aK (ls.take i) [] List.nodup_nil;by_cases hk:cA (uA us i) 0=zQ
    ·obtain⟨w,hw⟩:=hx.rule hk
     rw[hw.conc];have hk3:=hx.k3.2 hk
     have e:zV us zQ 3 (lA ls i).conc=(i:Int) ↔ zH (uR (ls.take i) []) (lA ls i).conc<0:=by
      have f1:=sJ (aG zQ 3 (lA ls i).conc) us 0 i;have f2:=sJ (aG zQ 3 (lA ls i).conc) us 0 (i+1)
      have hself:(us.take (i+1)).any (aG zQ 3 (lA ls i).conc)=true:=by
       refine mj.2 ⟨uA us i,?_,?_⟩
       ·have:(us.take (i+1))[i]? = some (uA us i):=by rw[List.getElem?_take_of_lt (by omega),pe (by omega)];simp[uA,List.getD,show i<us.length by omega]
        exact List.mem_of_getElem? this
       ·unfold aG;rw[hw.conc,tm hk];simp
      have f3:=f2.2 hself;have e1:(us.take i).any (aG zQ 3 (lA ls i).conc)=(ls.take i).any (KX (lA ls i).conc):=(bD (hA.take i) (fun x u hx=>VW hx (lA ls i).conc)).symm;rw[e1]at f1;unfold zH;rw[aN,h2];unfold zV;constructor
      ·intro h9 h10
       have h11:(ls.take i).any (KX (lA ls i).conc)=true:=by rcases h10 with h10|h10;exact absurd h10 (by simp);exact h10
       have:=f1.2 h11;omega
      ·intro h9
       have h10:¬(ls.take i).any (KX (lA ls i).conc)=true:=fun h=>h9 (.inr h);have h11:¬(0<=vR (aG zQ 3 (lA ls i).conc) us 0/\vR (aG zQ 3 (lA ls i).conc) us 0<((0:Nat):Int)+(i:Int)):=fun h=>h10 (f1.1 h);omega
     by_cases hf:zH (uR (ls.take i) []) (lA ls i).conc<0
     ·rw[tj ⟨hk,e.2 hf⟩,tj ⟨hk3,hf⟩]
     ·rw[tg (fun h=>hf (e.1 h.2)),tg (fun h=>hf h.2)]
    ·rw[tg (fun h=>hk h.1),tg (fun h=>hk (hx.k3.1 h.1))]
 have:=key us.length 0 (by omega);rw[List.take_zero]at this;exact this
theorem Jr(xs ys:List zF):∀acc,jI (xs++ys) acc=jI ys (jI xs acc):=by
 induction xs with
 | nil=>intro acc;rfl
 | cons x r ih=>intro acc;rw[bw,jI,ih,jI]
theorem ZH{ls:List zF}(hA:yQ ls us):pS us=xH ls:=by
 have hl:=hA.len
 have key:∀n i,i+n=us.length->sD us n i (jI (ls.take i) [])=xH ls:=by
  intro n
  induction n with
  | zero=>intro i h;rw[sD,cf (by omega)];rfl
  | succ n ih =>
    intro i h;rw[sD,<-ih (i+1) (by omega),pG ls i (by omega),Jr];congr 1
    rw[jI,jI];have hx:=hA.get i (by omega);by_cases hk:cA (uA us i) 0=zQ
    ·rw[tj hk,tj (hx.k3.2 hk),hx.name]
    ·rw[tg hk,tg (fun h=>hk (hx.k3.1 h))]
 have:=key us.length 0 (by omega);rw[List.take_zero]at this;exact this
theorem Qp{G:List Bool}(hl:G.length=64)(f t:Int)(ha:a<8)(hb:b<8):gA (oO G f t) a b=(gA G a b || (decide (f=(a:Int))&&decide (t=(b:Int)))):=by
 unfold oO;by_cases h:(0<=f/\f<8)/\(0<=t/\t<8)
 ·rw[tj h,C9 hl (by omega)]
  congr 1
  have e:decide (a*8+b=f.toNat*8+t.toNat)=(decide (f=(a:Int))&&decide (t=(b:Int))):=by
   rw[ct,tz,pr,pr,pr];omega
  exact e
 ·rw[tg h]
  have:(decide (f=(a:Int))&&decide (t=(b:Int)))=false:=by
   rw[fk,bk,bk];omega
  rw[this,Bool.or_false]
theorem Jg:∀G,(cG names f S G).length=G.length:=by
 induction S with
 | nil=>intro G;rfl
 | cons x r ih=>intro G;rw[cG,ih,cO]
theorem Gk:∀G,(mS names f N G).length=G.length:=by
 induction N with
 | nil=>intro G;rfl
 | cons x r ih=>intro G;rw[mS,ih];split
                ·rw[cO]
                ·rfl
theorem FW(ha:a<8)(hb:b<8):∀G,G.length=64->gA (cG names f S G) a b=(gA G a b || (decide (f=(a:Int))&&S.any (fun x=>decide (zH names x.name=(b:Int))))):=by
 induction S with
 | nil=>intro G _;simp[cG]
 | cons x r ih =>
   intro G hl;rw[cG,ih _ (by rw[cO,hl]),Qp hl f _ ha hb,mt];cases gA G a b <;> cases decide (f=(a:Int)) <;> cases decide (zH names x.name=(b:Int)) <;> simp
theorem Gl(ha:a<8)(hb:b<8):∀G,G.length=64->gA (mS names f N G) a b=(gA G a b || (decide (f=(a:Int))&&N.any (fun x=>decide (x.kind=5)&&decide (zH names x.name=(b:Int))))):=by
 induction N with
 | nil=>intro G _;simp[mS]
 | cons x r ih =>
   intro G hl;rw[mS];by_cases hk:x.kind=5
   ·rw[tj hk,ih _ (by rw[cO,hl]),Qp hl f _ ha hb,mt,tm hk]
    cases gA G a b <;> cases decide (f=(a:Int)) <;> cases decide (zH names x.name=(b:Int)) <;> simp
   ·rw[tg hk,ih _ hl,mt,th hk];simp
def zEG(names:List Bs)(a b:Nat)(x:zF):Bool:=decide (x.kind=3)&&(decide (zH names x.conc=(a:Int))&&(x.sum.any (fun y=>decide (zH names y.name=(b:Int))) || x.nd.any (fun y=>decide (y.kind=5)&&decide (zH names y.name=(b:Int)))))
theorem kf(ha:a<8)(hb:b<8):∀G,G.length=64->gA (pZ names ls G) a b=(gA G a b || ls.any (zEG names a b)):=by
 induction ls with
 | nil=>intro G _;simp[pZ]
 | cons x r ih =>
   intro G hl;rw[pZ,mt];by_cases hk:x.kind=3
   ·have ex:zEG names a b x=(decide (zH names x.conc=(a:Int))&&(x.sum.any (fun y=>decide (zH names y.name=(b:Int))) || x.nd.any (fun y=>decide (y.kind=5)&&decide (zH names y.name=(b:Int))))):=by
     unfold zEG;rw[tm hk,md]
    rw[tj hk,ih _ (by rw[Gk,Jg,hl]),Gl _ _ _ ha hb _ (by rw[Jg,hl]),FW _ _ _ ha hb _ hl,ex];generalize r.any (zEG names a b)=R;generalize x.sum.any (fun y=>decide (zH names y.name=(b:Int)))=s;generalize x.nd.any (fun y=>decide (y.kind=5)&&decide (zH names y.name=(b:Int)))=n;cases gA G a b <;> cases decide (zH names x.conc=(a:Int)) <;> cases s <;> cases n <;> simp
   ·have ex:zEG names a b x=false:=by unfold zEG;rw[th hk];rfl
    rw[tg hk,ih _ hl,ex,pm]
def zF1(labs:List Bs)(a b:Nat)(x:zF):Bool:=decide (x.kind=4)&&(decide (zH labs x.name=(a:Int))&&decide (zH labs x.lower=(b:Int)))
theorem V0(labs:List Bs)(ls:List zF)(ha:a<8)(hb:b<8):∀G,G.length=64->gA (kZ labs ls G) a b=(gA G a b || ls.any (zF1 labs a b)):=by
 induction ls with
 | nil=>intro G _;simp[kZ]
 | cons x r ih =>
   intro G hl;rw[kZ,mt];by_cases hk:x.kind=4
   ·rw[tj hk,ih _ (by rw[cO,hl]),Qp hl _ _ ha hb]
    unfold zF1;rw[tm hk];cases gA G a b <;> cases decide (zH labs x.name=(a:Int)) <;> cases decide (zH labs x.lower=(b:Int)) <;> simp
   ·rw[tg hk,ih _ hl]
    have:zF1 labs a b x=false:=by unfold zF1;rw[th hk];rfl
    rw[this,pm]
theorem C7:gA gZ a b=false:=by
 unfold gA gZ;simp only[l9,List.getElem?_replicate];split <;> rfl
theorem qc{d:Bs}(hd:d≠[]):(S.flatMap rR).any (fun y=>decide (y.2=d))=S.any (fun x=>decide (x.name=d)):=by
 induction S with
 | nil=>rfl
 | cons x r ih =>
   rw[ff,df,ih,mt];congr 1
   unfold rR;by_cases h:x.name=[]
   ·rw[tj h,h,th (fun e=>hd e.symm)];rfl
   ·rw[tg h];simp
theorem qs:(tD N).any (fun y=>decide (y.1=1)&&decide (y.2=d))=N.any (fun x=>decide (x.kind=5)&&decide (x.name=d)):=by
 induction N with
 | nil=>rfl
 | cons x r ih =>
   unfold tD at ih ⊢;rw[ff,df,ih,mt];congr 1
   unfold V3;by_cases h5:x.kind=5
   ·rw[tj h5,tm h5];simp
   ·rw[tg h5,th h5]
    split
    ·simp
    ·split
     ·split <;> simp
     ·rfl
theorem zI6{names:List Bs}(hn:names.Nodup)(zIM:b<names.length->names.getD b []≠[])(x:zF):zEG names a b x=(decide (a<names.length)&&(decide (b<names.length)&&zHX (names.getD a []) (names.getD b []) x)):=by
 unfold zEG zHX
 have e:∀(nm:Bs) (k:Nat),decide (zH names nm=(k:Int))=(decide (k<names.length)&&decide (nm=names.getD k [])):=fun nm k=>by
  rw[ct,tz,pr,pr,pr,Uq hn];exact⟨fun h=>⟨h.1,h.2.symm⟩,fun h=>⟨h.1,h.2.symm⟩⟩
 simp only[e];by_cases hb:b<names.length
 ·rw[tm hb,qc _ (zIM hb),qs]
  simp only[md];cases decide (x.kind=3) <;> cases decide (a<names.length) <;> simp
 ·rw[th hb]
  simp
theorem zF0{labs:List Bs}(hn:labs.Nodup)(x:zF):zF1 labs a b x=(decide (a<labs.length)&&(decide (b<labs.length)&&zHF (labs.getD a []) (labs.getD b []) x)):=by
 unfold zF1 zHF
 have e:∀(nm:Bs) (k:Nat),decide (zH labs nm=(k:Int))=(decide (k<labs.length)&&decide (nm=labs.getD k [])):=fun nm k=>by
  rw[ct,tz,pr,pr,pr,Uq hn];exact⟨fun h=>⟨h.1,h.2.symm⟩,fun h=>⟨h.1,h.2.symm⟩⟩
 rw[e,e];cases decide (x.kind=4) <;> cases decide (a<labs.length) <;> cases decide (b<labs.length) <;> simp
theorem aR(p:Bool)(q:zF->Bool)(ls:List zF):ls.any (fun x=>p&&q x)=(p&&ls.any q):=by
 induction ls with
 | nil=>simp
 | cons x r ih=>rw[mt,ih,mt];cases p <;> simp
theorem BF{ls:List zF}(hA:yQ ls us)(h8:uW 3 ls<=8):dZ us false=jW (pZ (zS ls) ls gZ):=by
 obtain⟨hn,hmem,zIH⟩:=aK ls [] List.nodup_nil;have hl8:(zS ls).length<=8:=by unfold zS;simp at zIH;omega
 have zIM:∀b,b<(zS ls).length->(zS ls).getD b []≠[]:=by
  intro b hb e;have h1:(zS ls).getD b []∈zS ls:=by simp[List.getD,hb]
  rw[e]at h1;have h2:=(hmem []).1 h1;rcases h2 with h2|h2
  ·simp at h2
  ·obtain⟨x,hx,hc⟩:=mj.1 h2
   unfold KX at hc;rw[tz,pr,pr]at hc
   have hex:∀ {ls:List zF} {us:List zG},yQ ls us->x∈ls->∃u,LT x u:=by
    intro ls
    induction ls with
    | nil=>intro us _ h;simp at h
    | cons y r ih =>
      intro us hA h
      cases us with
      | nil=>exact absurd hA id
      | cons u us =>
        rcases pi.1 h with rfl|h
        ·exact⟨u,hA.1⟩
        ·exact ih hA.2 h
   obtain⟨u,hu⟩:=hex hA hx;obtain⟨w,hw⟩:=hu.rule (hu.k3.1 hc.1);exact hw.ne hc.2
 unfold dZ YO;simp only[XV hA];refine Jb (by rw[Zd];exact xP) hl8 (fun a b ha hb=>?_);rw[kf _ _ ha hb _ xP,C7,pm]
 have e1:ls.any (zEG (zS ls) a b)=(decide (a<(zS ls).length)&&(decide (b<(zS ls).length)&&ls.any (zHX ((zS ls).getD a []) ((zS ls).getD b [])))):=by
  rw[<-aR,<-aR];congr 1
  funext x
  exact zI6 hn (zIM b) x
 rw[e1];unfold KW jG rL cU;simp only;rw[<-bD hA (fun x u hx=>(zCW hx _ _).symm),tz,tz,pr,pr]
theorem XM:∀acc,(jI ls acc).length=acc.length+uW 3 ls/\(∀nm,nm∈jI ls acc ↔ (nm∈acc\/vP ls 3 nm=true)):=by
 induction ls with
 | nil=>intro acc;exact⟨by simp[jI,uW],fun nm=>by simp[jI,vP]⟩
 | cons x r ih =>
   intro acc;rw[jI,uW];by_cases hk:x.kind=3
   ·rw[tj hk,tj hk]
    obtain⟨h1,h2⟩:=ih (acc++[x.name]);refine⟨by rw[h1,tq,pd];omega,fun nm=>?_⟩;rw[h2,pt,pu];unfold vP;rw[mt,mz];unfold Zn;rw[tm hk,md,pr];constructor
    ·rintro((h|h)|h)
     ·exact .inl h
     ·exact .inr (.inl h.symm)
     ·exact .inr (.inr h)
    ·rintro(h|h|h)
     ·exact .inl (.inl h)
     ·exact .inl (.inr h.symm)
     ·exact .inr h
   ·rw[tg hk,tg hk]
    obtain⟨h1,h2⟩:=ih acc;refine⟨by omega,fun nm=>?_⟩;rw[h2];unfold vP;rw[mt];have:Zn 3 nm x=false:=by unfold Zn;rw[th hk];rfl
    rw[this,pm]
theorem XL(h:∀i,i<ls.length->(lA ls i).kind=3->vP (ls.take i) 3 (lA ls i).name=false):(xH ls).Nodup:=by
 have key:∀n,n<=ls.length->(jI (ls.take n) []).Nodup:=by
  intro n
  induction n with
  | zero=>intro _;simp[jI]
  | succ n ih =>
    intro hn;rw[pG ls n (by omega),Jr,jI,jI];split
    ·rename_i hk
     rw[List.nodup_append];refine⟨ih (by omega),by simp,fun a ha b hb=>?_⟩;rw[pu.1 hb];intro e;subst e;have:=((XM (ls.take n) []).2 (lA ls n).name).1 ha;rcases this with h1|h1
     ·simp at h1
     ·rw[h n (by omega) hk]at h1;exact absurd h1 (by decide)
    ·exact ih (by omega)
 have:=key ls.length (t9 _);rw[lp]at this;exact this
theorem FO{ls:List zF}(hA:yQ ls us)(h8:uW 3 ls<=8)(hn:(xH ls).Nodup):dZ us true=jW (kZ (xH ls) ls gZ):=by
 have zIH:=(XM ls []).1;have hl8:(xH ls).length<=8:=by unfold xH;simp at zIH;omega
 unfold dZ YO;simp only[ZH hA];refine Jb (by rw[cH];exact xP) hl8 (fun a b ha hb=>?_);rw[V0 _ _ ha hb _ xP,C7,pm]
 have e1:ls.any (zF1 (xH ls) a b)=(decide (a<(xH ls).length)&&(decide (b<(xH ls).length)&&ls.any (zHF ((xH ls).getD a []) ((xH ls).getD b [])))):=by
  rw[<-aR,<-aR];congr 1
  funext x
  exact zF0 hn x
 rw[e1];unfold KW jG rL rW;simp only;rw[<-bD hA (fun x u hx=>(D2 hx _ _).symm),tz,tz,pr,pr]
end Go.Proofs.YtnbpdffdnphbeaaGreatDoor
