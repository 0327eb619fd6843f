import Derived.Test.YtnbpdffdnphbeabGreatDoorPtok
import Derived.Deep.RegionHeld3
import Derived.Deep.DrawnRows
set_option maxHeartbeats 1000000
namespace Go.Proofs.YtnbpdffdnphbeabGreatDoor
variable{p:Addr}{f:Bool}{xs:List Value}{size n B a R cap g:Nat}{e:TypeId}{v:Value}{w' w:World}
def aH(l:Bs):Nat->Nat->Nat->List Bs
 | 0,_,_=>[]
 | n+1,a,i=>if i=l.length\/l.getD i 0=32 then (l.drop a).take (i-a)::aH l n (i+1) (i+1) else aH l n a (i+1)
theorem GY(l s:Bs)(n:Nat):∀a i,zJR l s n a i=decide (s∈aH l n a i):=by
 induction n with
 | zero=>intro a i;simp[zJR,aH]
 | succ n ih =>
   intro a i;rw[zJR,aH];split
   ·rw[ih]
    split
    ·rename_i h;simp[h]
    ·rename_i h
     have h2:¬s=(l.drop a).take (i-a):=fun e=>h e.symm;simp[h2]
   ·exact ih _ _
theorem GW(l s:Bs):lG l s=decide (s∈aH l (l.length+1) 0 0):=GY l s _ 0 0
theorem Fa:aH kW (kW.length+1) 0 0=[[46,46],[60,61],[33,61],[62,61]]:=by decide
theorem GV(s:Bs)(h:s.length=2):lG kW s=vJ s:=by
 rw[GW,Fa,vJ,<-List.elem_eq_contains,List.elem_eq_mem];congr 1
 simp only[kh,l6,ff,or_false,eq_iff_iff];constructor
 ·rintro(rfl|rfl|rfl|rfl) <;> decide
 ·rintro(rfl|rfl|rfl|rfl|rfl|rfl|rfl|rfl|rfl|rfl|rfl|rfl|rfl|rfl) <;> first|(exfalso;revert h;decide)|decide
open Go.RowKit
theorem kf(l:Bs)(p:Nat)(w:World)(hl:l.length<=4000)(hp:p<l.length)(hk:so (l.getD p 0)=0) :
 Calls Tryz.prog 148 #[.string ⟨l.toArray⟩,.int .i64 p] w fun e w'=>e=.returned (uS (yJ ((l.drop p).take (uT (l.drop p)))) ((l.drop p).take (uT (l.drop p))) (kL ((l.drop p).take (uT (l.drop p)))) p)/\Below w.heap.size w w':=by
 have hh:∀n,1<=n->so (((l.drop p).take n).getD 0 0)=0:=by
  intro n hn1;simp only[List.getD,df,List.getElem?_drop,l9];rw[tl (by omega)];exact hk
 have hpk:∀n,1<=n->yJ ((l.drop p).take n)=if vJ ((l.drop p).take n)=true then 4 else 1:=by
  intro n hn;unfold yJ;rw[tb (by rw[hh n hn];decide),tb (by rw[hh n hn];decide)]
 have hpv:∀n,1<=n->kL ((l.drop p).take n)=0:=by
  intro n hn;unfold kL;rw[tb];rw[hpk n hn];split <;> decide
 have zL6:uT (l.drop p)=if UE (l.drop p)=true then 2 else 1:=by unfold uT;rw[cE,l9,tl hk]
 have htwo:UE (l.drop p)=(decide (p+2<=l.length)&&vJ ((l.drop p).take 2)):=by
  unfold UE;by_cases h2:p+2<=l.length
  ·rw[GV _ (by rw[cd,dj];omega)];congr 1;simp;omega
  ·have:¬ 1<(l.drop p).length:=by rw[dj];omega
   simp[h2];intro;omega
 obtain⟨t2,ht2⟩:∃t,(l.drop p).take 2=t:=⟨_,rfl⟩;obtain⟨t1,ht1⟩:∃t,(l.drop p).take 1=t:=⟨_,rfl⟩;have hx2:(ByteArray.mk l.toArray).extract p (p+2)=⟨t2.toArray⟩:=by rw[ByteArray.extract_mk,<-ht2,show p+2-p=2 by omega]
 have hx1:(ByteArray.mk l.toArray).extract p (p+1)=⟨t1.toArray⟩:=by rw[ByteArray.extract_mk,<-ht1,show p+1-p=1 by omega]
 have one:vJ t1=true\/vJ t1=false:=by cases vJ t1 <;> simp
 by_cases h2:p+2<=l.length
 ·cases hm2:vJ t2
  ·have hl1:uT (l.drop p)=1:=by rw[zL6,htwo,ht2,hm2];simp
   rw[hl1,hpv 1 (by omega),hpk 1 (by omega),ht1];have HM2:=zA hm2;clear hh hpk hpv zL6 htwo ht2 ht1 hl1 hm2 hk;rcases one with hm1|hm1
   ·rw[hm1];have HM1:=zA hm1;clear hm1
    go_enter Tryz.func148,Tryz.ntmps148
    go_wp2_with fail
    refine(lD t2 false HM2.out _).mono ?_;rintro e w' ⟨rfl,hw⟩;obtain rfl:=hw.symm;go_wp2_with fail
    refine(lD t1 true HM1.out _).mono ?_;rintro e w' ⟨rfl,hw⟩;obtain rfl:=hw.symm;go_wp2_with fail
    refine pe (v:=uS 4 t1 0 p) (by simp[results,Tryz.results148,go_sem,uS]) rfl ⟨rfl,?_⟩;exact gb (j1 _) _
   ·rw[hm1];have HM1:=zA hm1;clear hm1
    go_enter Tryz.func148,Tryz.ntmps148
    go_wp2_with fail
    refine(lD t2 false HM2.out _).mono ?_;rintro e w' ⟨rfl,hw⟩;obtain rfl:=hw.symm;go_wp2_with fail
    refine(lD t1 false HM1.out _).mono ?_;rintro e w' ⟨rfl,hw⟩;obtain rfl:=hw.symm;go_wp2_with fail
    refine pe (v:=uS 1 t1 0 p) (by simp[results,Tryz.results148,go_sem,uS]) rfl ⟨rfl,?_⟩;exact gb (j1 _) _
  ·have hl1:uT (l.drop p)=2:=by rw[zL6,htwo,ht2,hm2];simp[h2]
   rw[hl1,hpv 2 (by omega),hpk 2 (by omega),ht2,hm2];have HM2:=zA hm2;clear hh hpk hpv zL6 htwo ht2 ht1 hl1 hm2 hk one
   go_enter Tryz.func148,Tryz.ntmps148
   go_wp2_with fail
   refine(lD t2 true HM2.out _).mono ?_;rintro e w' ⟨rfl,hw⟩;obtain rfl:=hw.symm;go_wp2_with fail
   refine pe (v:=uS 4 t2 0 p) (by simp[results,Tryz.results148,go_sem,uS]) rfl ⟨rfl,?_⟩;exact gb (j1 _) _
 ·have hl1:uT (l.drop p)=1:=by rw[zL6,htwo];simp[h2]
  rw[hl1,hpv 1 (by omega),hpk 1 (by omega),ht1];clear hh hpk hpv zL6 htwo ht2 ht1 hl1 hk hx2;rcases one with hm1|hm1
  ·rw[hm1];have HM1:=zA hm1;clear hm1
   go_enter Tryz.func148,Tryz.ntmps148
   go_wp2_with fail
   refine(lD t1 true HM1.out _).mono ?_;rintro e w' ⟨rfl,hw⟩;obtain rfl:=hw.symm;go_wp2_with fail
   refine pe (v:=uS 4 t1 0 p) (by simp[results,Tryz.results148,go_sem,uS]) rfl ⟨rfl,?_⟩;exact gb (j1 _) _
  ·rw[hm1];have HM1:=zA hm1;clear hm1
   go_enter Tryz.func148,Tryz.ntmps148
   go_wp2_with fail
   refine(lD t1 false HM1.out _).mono ?_;rintro e w' ⟨rfl,hw⟩;obtain rfl:=hw.symm;go_wp2_with fail
   refine pe (v:=uS 1 t1 0 p) (by simp[results,Tryz.results148,go_sem,uS]) rfl ⟨rfl,?_⟩;exact gb (j1 _) _
theorem zBD{W w1:World}(hb:Below W.heap.size W w1):(∀b o,b<W.heap.size->w1.cell? ⟨b,o,none⟩=W.cell? ⟨b,o,none⟩)/\(∀b o,b<W.heap.size->w1.frozen? ⟨b,o,none⟩=W.frozen? ⟨b,o,none⟩) :=
 ⟨fun b o h=>hb.cell (p:=⟨b,o,none⟩) h,fun b o h=>hb.frozen (p:=⟨b,o,none⟩) h⟩
theorem vw(c:UInt8):so c=0\/so c=1\/so c=2\/so c=3:=by
 unfold so Q8;split <;> (try split) <;> (try split) <;> simp
theorem KB(l:Bs)(p:Nat)(w:World)(hl:l.length<=4000)(hp:p<l.length)(hk:¬so (l.getD p 0)=3) :
 Calls Tryz.prog 102 #[.string ⟨l.toArray⟩,.int .i64 p] w fun e w'=>e=.returned (uS (yJ ((l.drop p).take (uT (l.drop p)))) ((l.drop p).take (uT (l.drop p))) (kL ((l.drop p).take (uT (l.drop p)))) p)/\Below w.heap.size w w':=by
 have hw:=fun w h=>yf l p w hl hp h;have hnu:=fun w h=>By l p w hl hp h;have hm:=fun w h=>kf l p w hl hp h;generalize (l.drop p).take (uT (l.drop p))=t at *;generalize yJ t=k at *;generalize kL t=v at *;have HL:=zA (fun b=>Z6 (l:=l) (b:=b) (i:=p));have HD:=zA (fun b=>XN (l:=l) (b:=b) (i:=p));rcases vw (l.getD p 0) with h|h|h|h
 ·have HM:=zA (fun w=>hm w h)
  have h1:=HL.out false (by rw[h];rfl);have h2:=HD.out false (by rw[h];rfl);have H1:=zA h1;have H2:=zA h2;clear hw hnu hm HL HD h hk h1 h2
  go_enter Tryz.func102,Tryz.ntmps102
  go_wp2_with fail
  refine(jM _ false (H1.out _) _).mono ?_;rintro e w' ⟨rfl,hw⟩;obtain rfl:=hw.symm;go_wp2_with fail
  refine(tX _ false (H2.out _) _).mono ?_;rintro e w' ⟨rfl,hw⟩;obtain rfl:=hw.symm;go_wp2_with fail
  refine(HM.out _).mono ?_;rintro e w2 ⟨rfl,hb⟩;obtain⟨hc,hf⟩:=zBD hb;have HB:=zA hb;clear hb;unfold uS;go_wp2_with fail
  refine pe (v:=uS k t v p) (by simp[results,Tryz.results102,go_sem,uS,hc]) rfl ⟨rfl,?_⟩;exact((((((gb (j1 _) _).trans (HB.out.mono (by simp))).setCell (j1 _) _).setCell (j1 _) _).setCell (j1 _) _).setCell (j1 _) _)
 ·have HM:=zA (fun w=>hw w h)
  have h1:=HL.out true (by rw[h];rfl);have h2:=HD.out false (by rw[h];rfl);have H1:=zA h1;clear hw hnu hm HL HD h hk h1 h2
  go_enter Tryz.func102,Tryz.ntmps102
  go_wp2_with fail
  refine(jM _ true (H1.out _) _).mono ?_;rintro e w' ⟨rfl,hw⟩;obtain rfl:=hw.symm;go_wp2_with fail
  refine(HM.out _).mono ?_;rintro e w2 ⟨rfl,hb⟩;obtain⟨hc,hf⟩:=zBD hb;have HB:=zA hb;clear hb;unfold uS;go_wp2_with fail
  refine pe (v:=uS k t v p) (by simp[results,Tryz.results102,go_sem,uS,hc]) rfl ⟨rfl,?_⟩;exact((((((gb (j1 _) _).trans (HB.out.mono (by simp))).setCell (j1 _) _).setCell (j1 _) _).setCell (j1 _) _).setCell (j1 _) _)
 ·have HM:=zA (fun w=>hnu w h)
  have h1:=HL.out false (by rw[h];rfl);have h2:=HD.out true (by rw[h];rfl);have H1:=zA h1;have H2:=zA h2;clear hw hnu hm HL HD h hk h1 h2
  go_enter Tryz.func102,Tryz.ntmps102
  go_wp2_with fail
  refine(jM _ false (H1.out _) _).mono ?_;rintro e w' ⟨rfl,hw⟩;obtain rfl:=hw.symm;go_wp2_with fail
  refine(tX _ true (H2.out _) _).mono ?_;rintro e w' ⟨rfl,hw⟩;obtain rfl:=hw.symm;go_wp2_with fail
  refine(HM.out _).mono ?_;rintro e w2 ⟨rfl,hb⟩;obtain⟨hc,hf⟩:=zBD hb;have HB:=zA hb;clear hb;unfold uS;go_wp2_with fail
  refine pe (v:=uS k t v p) (by simp[results,Tryz.results102,go_sem,uS,hc]) rfl ⟨rfl,?_⟩;exact((((((gb (j1 _) _).trans (HB.out.mono (by simp))).setCell (j1 _) _).setCell (j1 _) _).setCell (j1 _) _).setCell (j1 _) _)
 ·exact absurd h hk
theorem Xt(c:Int)(b:Bool)(h:rF c=b)(w:World) :
 Calls Tryz.prog 101 #[.int .u8 c] w fun e w'=>e=.returned (.bool b)/\w'=w:=by subst h;exact V6 c w
theorem zBB(c:UInt8):rF (c.toNat:Int)=decide (so c=3):=by
 unfold rF so Q8;by_cases h:(c.toNat:Int)=32\/(c.toNat:Int)=10
 ·rw[tb (by omega),tb (by omega),tl h];simpa using h
 ·rw[tb h]
  have:¬(if (97:Int)<=c.toNat/\(c.toNat:Int)<=122 then (1:Int) else if (48:Int)<=c.toNat/\(c.toNat:Int)<=57 then 2 else 0)=3:=by split <;> (try split) <;> decide
  simp only[this,decide_false,bp,mq];omega
theorem Uk{l:Bs}{b:Bool}{i:Nat}(h:decide (so (l.getD i 0)=3)=b):∀h:i<(ByteArray.mk l.toArray).size,rF (((ByteArray.mk l.toArray)[i]'h).toNat:Int)=b:=by
 intro h0;rw[JR,zBB,h]
theorem uV(h:w.ownsRow B e size v n xs)(hb:Below w.heap.size w w'):w'.ownsRow B e size v n xs:=by
 refine⟨h.1,?_⟩;rcases h.2 with h1|⟨g,cap,yK,h1,h2,h3,r⟩
 ·exact .inl h1
 ·refine .inr ⟨g,cap,yK,h1,h2,?_,r⟩
  have hg:g<w.heap.size:=by
   rcases md g w.heap.size with h|h
   ·exact h
   ·rw[mc h]at h3;cases h3
  rw[hb.block g hg];exact h3
theorem jl:(Tryz.prog.info? 187).map (fun i=>(i.zero,i.size,i.bytes))=some (some (.agg #[.int .i64 0,.string ⟨#[]⟩,.int .i64 0,.int .i64 0]),4,40):=by kernel_rfl
theorem zZ(zL1:w.ownsRow B e size v n xs):∀k,v.ownBlock=some k->B<=k/\k<w.heap.size:=by
 intro k hk;rcases zL1.2 with ⟨h1,_⟩|⟨g,cap,yK,h1,h2,h3,_⟩
 ·rw[h1]at hk;simp[Value.ownBlock]at hk
 ·rw[h1]at hk;simp[Value.ownBlock]at hk
  subst hk;refine⟨h2,?_⟩;rcases md g w.heap.size with h|h
  ·exact h
  ·rw[mc h]at h3;cases h3
theorem qT(w:World)(cs:Array Value)(T:TypeId)(l:List Value)(h:cs.toList=l){H:Nat}(hH:w.heap.size=H) :
 ∀j u,l[j]? = some u->(w.alloc (.cells cs T)).cell? ((⟨H,0,none⟩:Addr).add j)=some u:=by
 subst hH;exact zM w cs T l h
theorem Ql(zL1:w.ownsRow B e size v n xs):∀k,v.ownBlock=some k->B<=k :=
 fun k hk=>(zZ zL1 k hk).1
theorem Uw(l:Bs)(w:World)(hl:l.length<=4000) :
 Calls Tryz.prog 70 #[.string ⟨l.toArray⟩] w fun e w'=>∃v,e=.returned v/\w'.ownsRow w.heap.size 187 4 v ((vM l 0).length+1) (ZT (vM l 0)++Ka l.length)/\Below w.heap.size w w':=by
 obtain⟨i0,hi0,hz0,hz1,hz2⟩:=info_parts jl;obtain⟨B,hB⟩:∃B,B=w.heap.size:=⟨_,rfl⟩;have HB:Hid (B=w.heap.size):=hB;rw[<-hB];clear hB
 go_enter Tryz.func70,Tryz.ntmps70
 go_wp2_with fail
 have h0:(w.alloc (.cells #[] 187)).ownsRow B 187 4 (.slice (some ⟨w.heap.size,0,none⟩) 0 0) 0 (ZT []) :=
  ⟨rfl,.inr ⟨w.heap.size,0,#[],rfl,by rw[HB.out];exact j1 _,heap_alloc_new w _,j1 _,by simp[maxLen],rfl,rfl⟩⟩
 have hb0:Below B w (w.alloc (.cells #[] 187)):=gb (by rw[HB.out];exact j1 _) _;have H0:=zA h0;have HB0:=zA hb0;clear h0 hb0
 go_loopw [3,4] (fun lv av wr=>∃(p:Nat) (ts:sS),p<=l.length/\av=.int .i64 p/\wr.ownsRow B 187 4 lv ts.length (ZT ts)/\Below B w wr/\Hid (ts++vM l p=vM l 0)) (fun _ av _=>l.length-(intOf av).toNat)
 case atStart=>exact⟨0,[],p7 _,rfl,H0.out,HB0.out,rfl⟩
 case round =>
  obtain⟨p,ts,hp,rfl,zL1,hbel,hH⟩:=hrel;clear H0 HB0;have hBw:B<=wr.heap.size:=by have h5:=hbel.size;have h6:=HB.out;omega
  have hts0:ts.length<=4000:=by
   have h1:=congrArg List.length hH.out;have h2:=aJ l 0;simp only[tm]at h1;omega
  by_cases zKZ:p<l.length
  ·by_cases hk:so (l.getD p 0)=3
   ·have HF:Hid (ts++vM l (p+1)=vM l 0):=by have:=hH.out;rw[J0 zKZ hk]at this;exact this
    have HQ:=zA (Uk (b:=true) (by rw[hk];rfl):∀h:p<(ByteArray.mk l.toArray).size,rF (((ByteArray.mk l.toArray)[p]'h).toNat:Int)=true);clear hk hH
    go_wp2_with (go_at_call 101;refine(Xt _ true (HQ.out _) _).mono ?_;rintro e w' ⟨rfl,hw⟩;obtain rfl:=hw.symm)
    go_roundw
    case rel=>exact⟨p+1,ts,by omega,by go_num,zL1,hbel,HF.out⟩
    case measure=>simp[intOf];omega
   ·have HQ:=zA (Uk (b:=false) (by simp only[hk,decide_false]):∀h:p<(ByteArray.mk l.toArray).size,rF (((ByteArray.mk l.toArray)[p]'h).toNat:Int)=false)
    have zLM:=zA (fun w=>KB l p w hl zKZ hk);have hF:=hH.out;rw[UF zKZ hk]at hF;have hn1:=Xp (l.drop p);have hn2:=zEH (l:=l.drop p) (by rw[dj];omega);rw[dj]at hn2;have htl:((l.drop p).take (uT (l.drop p))).length=uT (l.drop p):=by rw[cd,dj];omega
    generalize (l.drop p).take (uT (l.drop p))=t at *;generalize uT (l.drop p)=n at *;have HF:Hid ((ts++[(p,t)])++vM l (p+n)=vM l 0):=by rw[Hid,pt];exact hF
    have hpt:zDG (p,t)=[.int .i64 (yJ t),.string ⟨t.toArray⟩,.int .i64 (kL t),.int .i64 p]:=rfl;generalize hkk:yJ t=k at *;generalize hvv:kL t=v at *;have HPT:=zA hpt;clear hk hH hF hkk hvv hpt;subst htl;go_wp2_with fail
    refine(Xt _ false (HQ.out _) _).mono ?_;rintro e w' ⟨rfl,hw⟩;obtain rfl:=hw.symm;go_wp2_with fail
    refine(zLM.out _).mono ?_;rintro e w2 ⟨rfl,hb2⟩;have zLG:=uV zL1 hb2;have hbel2:=hbel.trans (hb2.mono hBw);have HG:=zA (zZ zL1);have hsz2:=hb2.size;clear zL1 hbel hb2 HQ zLM;unfold uS
    go_wp2_with (at_builtin;refine wpList_append_own _ rfl _ _ 175 rfl B 187 i0 _ 4 40 Tryz.underlying175 hi0 hz0 hz1 hz2 rfl (by decide) _ _ _ rfl ((zLG.alloc _).alloc _) ⟨w2.heap.size+1,0,none⟩ 1 1 (zDG (p,t)) rfl rfl ?c1 ?c2 ?c3 ?c4 ?c5 ?_)
    case c1=>rw[HPT.out];exact qT _ _ _ _ rfl (by simp)
    case c2=>rw[HPT.out];intro u hu;simp at hu;rcases hu with rfl|rfl|rfl|rfl <;> rfl
    case c3=>unfold maxLen;omega
    case c4=>omega
    case c5=>simp;omega
    intro v' w3 zLK zL2 _
    have hcell:w3.cell? ⟨w2.heap.size,1,none⟩=some (.string ⟨t.toArray⟩):=by
     rw[zL2.cell_far ⟨w2.heap.size,1,none⟩ (by simp;omega) (by
      intro h;have h2:=(HG.out w2.heap.size h.symm).2;omega)]
     simp[World.cell?_alloc_past]
    have hbel3:Below B w w3:=((hbel2.alloc (by omega) _).alloc (by simp;omega) _).grown zL2 (by simp;omega) (fun k hk=>(HG.out k hk).1);clear zLG hbel2 zL2 HG
    go_wp2
    go_roundw
    case rel=>exact⟨p+t.length,ts++[(p,t)],by omega,by go_num,by rw[Ce];simpa using zLK,hbel3,HF.out⟩
    case measure=>simp[intOf];omega
  ·have HF:Hid (ts=vM l 0):=by have:=hH.out;rw[UG zKZ,mt]at this;exact this
   clear hH
   go_wp2_with (at_builtin;refine wpList_append_own _ rfl _ _ 175 rfl B 187 i0 _ 4 40 Tryz.underlying175 hi0 hz0 hz1 hz2 rfl (by decide) _ _ _ rfl (zL1.alloc _) ⟨wr.heap.size,0,none⟩ 1 1 (Ka l.length) rfl rfl ?c1 ?c2 ?c3 ?c4 ?c5 ?_)
   case c1=>exact zM _ _ _ _ rfl
   case c2=>intro u hu;simp[Ka]at hu;rcases hu with rfl|rfl|rfl|rfl <;> rfl
   case c3=>unfold maxLen;omega
   case c4=>omega
   case c5=>simp;omega
   intro v' w3 zLK zL2 _;have hbel3:Below B w w3:=(hbel.alloc hBw _).grown zL2 (by simp;omega) (Ql zL1);clear zL1 hbel zL2
   go_wp2
   go_ret
   exact⟨_,rfl,by rw[<-HF.out];exact zLK,hbel3⟩
structure PT where
 k:Int
 s:Bs
 v:Int
 p:Nat
variable{P:List PT}
def pz:PT:=⟨0,[],0,0⟩
def yK(P:List PT)(i:Nat):PT:=P.getD i pz
structure zC(B R:Nat)(w w':World):Prop where
 os:w'.os=w.os
 tape:w'.tape=w.tape
 output:w'.output=w.output
 size:w.heap.size<=w'.heap.size
 block:∀k,k<B->k≠R->w'.heap[k]? = w.heap[k]?
theorem zC.refl(B R:Nat)(w:World):zC B R w w:=⟨rfl,rfl,rfl,j1 _,fun _ _ _=>rfl⟩
theorem zC.trans{a b c:World}(h:zC B R a b)(k:zC B R b c):zC B R a c :=
 ⟨k.os.trans h.os,k.tape.trans h.tape,k.output.trans h.output,p8 h.size k.size,fun i hi hr=>(k.block i hi hr).trans (h.block i hi hr)⟩
theorem zC.mono{B':Nat}(h:zC B R w w')(hB:B'<=B):zC B' R w w':=⟨h.os,h.tape,h.output,h.size,fun k hk hr=>h.block k (tj hk hB) hr⟩
theorem zC.of_below(h:Below B w w'):zC B R w w':=⟨h.os,h.tape,h.output,h.size,fun k hk _=>h.block k hk⟩
theorem zC.drew{a:World}(h:zC B R a w):zC B R a w.drew:=⟨h.os,h.tape,h.output,h.size,h.block⟩
theorem zC.alloc{a:World}(h:zC B R a w)(hB:B<=w.heap.size)(o:Obj):zC B R a (w.alloc o) :=
 h.trans ⟨rfl,rfl,rfl,by simp,fun k hk _=>li _ _ _ (by omega)⟩
theorem zC.setCell{a:World}(h:zC B R a w)(hp:B<=p.block\/p.block=R)(u:Value):zC B R a (w.setCell p u) :=
 h.trans ⟨rfl,rfl,rfl,by simp[World.setCell],fun k hk hr=>lk _ _ _ _ (by omega)⟩
theorem zC.cell(h:zC B R w w')(hp:p.block<B)(hr:p.block≠R):w'.cell? p=w.cell? p:=bm (w:=w) (h.block p.block hp hr)
theorem zC.frozen(h:zC B R w w')(hp:p.block<B)(hr:p.block≠R):w'.frozen? p=w.frozen? p:=dk (w:=w) (h.block p.block hp hr)
def Yh(w:World)(g:Nat)(P:List PT):Prop:=∀i,i<P.length ->
 w.cell? ⟨g,i*4,none⟩=some (.int .i64 (yK P i).k)/\w.cell? ⟨g,i*4+1,none⟩=some (.string ⟨(yK P i).s.toArray⟩)/\w.cell? ⟨g,i*4+2,none⟩=some (.int .i64 (yK P i).v)/\w.cell? ⟨g,i*4+3,none⟩=some (.int .i64 (yK P i).p)
def jJ(g cap:Nat)(P:List PT)(a:Nat)(f:Bool):Obj:=.cells #[.slice (some ⟨g,0,none⟩) P.length cap,.int .i64 a,.bool f] 178 (0,0)
structure yE(w:World)(R g cap:Nat)(P:List PT)(a:Nat)(f:Bool):Prop where
 blk:w.heap[R]? = some (jJ g cap P a f)
 tok:Yh w g P
 gR:g≠R
 glt:g<w.heap.size
 at':a<P.length
 cap1:P.length<=cap
 cap2:cap<=maxLen
 many:P.length<=4001
 endk:∀i,i<P.length->(yK P i).k≠0->i+1<P.length
theorem yE.rlt(h:yE w R g cap P a f):R<w.heap.size:=by
 rcases md R w.heap.size with h1|h1
 ·exact h1
 ·have:=h.blk;rw[mc h1]at this;cases this
theorem Yh.keeps(h:Yh w g P)(hk:zC B R w w')(hg:g<B)(hr:g≠R):Yh w' g P:=by
 intro i hi;obtain⟨a,b,c,d⟩:=h i hi;exact⟨by rw[hk.cell (p:=⟨g,_,none⟩) hg hr];exact a,by rw[hk.cell (p:=⟨g,_,none⟩) hg hr];exact b,by rw[hk.cell (p:=⟨g,_,none⟩) hg hr];exact c,by rw[hk.cell (p:=⟨g,_,none⟩) hg hr];exact d⟩
theorem yE.keeps{a':Nat}{f':Bool}(h:yE w R g cap P a f)(hb:w'.heap[R]? = some (jJ g cap P a' f'))(hk:zC w.heap.size R w w')(ha:a'<P.length):yE w' R g cap P a' f' :=
 ⟨hb,h.tok.keeps hk h.glt h.gR,h.gR,tj h.glt hk.size,ha,h.cap1,h.cap2,h.many,h.endk⟩
theorem yE.cells(h:yE w R g cap P a f) :
 w.cell? ⟨R,0,none⟩=some (.slice (some ⟨g,0,none⟩) P.length cap)/\w.cell? ⟨R,1,none⟩=some (.int .i64 a)/\w.cell? ⟨R,2,none⟩=some (.bool f):=by
 have hb:=h.blk;unfold jJ at hb;refine⟨?_,?_,?_⟩ <;> simp[World.cell?,hb]
theorem yE.notFrozen(h:yE w R g cap P a f)(o:Nat):w.frozen? ⟨R,o,none⟩=false:=by
 have hb:=h.blk;unfold jJ at hb;simp[World.frozen?,hb]
theorem um(h:w.heap[R]? = some (jJ g cap P a f)):(w.setCell ⟨R,1,none⟩ (.int .i64 ((a:Int)+1))).heap[R]? = some (jJ g cap P (a+1) f):=by
 unfold jJ at h ⊢;rw[tr w R 1 _ _ _ h];simp
theorem Df(h:w.heap[R]? = some (jJ g cap P a f)):(w.setCell ⟨R,2,none⟩ (.bool true)).heap[R]? = some (jJ g cap P a true):=by
 unfold jJ at h ⊢;rw[tr w R 2 _ _ _ h];simp
theorem lB{o x:Obj}(hR:R<w.heap.size)(h:w.heap[R]? = some x):(w.alloc o).heap[R]? = some x:=by
 rw[li _ _ _ hR];exact h
theorem zL(w:World)(a:Addr)(v:Value):(w.setCell a v).heap.size=w.heap.size:=by simp[World.setCell]
theorem J7(h:w.heap[R]? = some (jJ g cap P a f))(hR:R<w.heap.size)(x:Obj):((w.setCell ⟨R,1,none⟩ (.int .i64 ((a:Int)+1))).alloc x).drew.heap[R]? = some (jJ g cap P (a+1) f) :=
 lB (w:=w.setCell ⟨R,1,none⟩ (.int .i64 ((a:Int)+1))) (by rw[zL];exact hR) (um h)
theorem nV(w:World)(R o:Nat)(v:Value)(x:Obj):zC w.heap.size R w ((w.setCell ⟨R,o,none⟩ v).alloc x).drew :=
 (((zC.refl _ _ _).setCell (p:=⟨R,o,none⟩) (.inr rfl) v).alloc (by rw[zL];exact j1 _) x).drew
def Us(b:Bool)(a:Nat):Nat:=match b with|true=>a+1|false=>a
def tF(P:List PT)(t:Bs)(a:Nat)(f:Bool):Bool := !f&&decide ((yK P a).k=4)&&decide ((yK P a).s=t)
theorem zDU(w:World)(R g cap:Nat)(P:List PT)(a:Nat)(f:Bool)(h:yE w R g cap P a f)(kd:Int) :
 Calls Tryz.prog 71 #[.pointer (some ⟨R,0,none⟩),.int .i64 kd] w fun e w'=>e=.returned (.bool ((yK P a).k==kd))/\yE w' R g cap P a f/\zC w.heap.size R w w':=by
 obtain⟨c0,c1,_⟩:=h.cells;obtain⟨t0,_,_,_⟩:=h.tok a h.at';have i1:(0:Int)<=(a:Int):=by omega
 have i2:(a:Int)<(P.length:Int):=by have:=h.at';omega
 have HC:=zA h;clear h
 go_enter Tryz.func71,Tryz.ntmps71
 go_wp2_with fail
 go_region_held3 (fun w'=>w'.cell? ⟨R,0,none⟩=some (.slice (some ⟨g,0,none⟩) P.length cap)/\w'.cell? ⟨R,1,none⟩=some (.int .i64 a)/\w'.cell? ⟨g,a*4,none⟩=some (.int .i64 (yK P a).k)) (go_keep) (fail)
 go_wp2_with fail
 go_ret
 exact⟨rfl,HC.out.keeps HC.out.blk (zC.refl _ _ _).drew HC.out.at',(zC.refl _ _ _).drew⟩
attribute [local go_sem ↓] Go.wp_at_zero Go.wp_at_succ
theorem bF{o x:Obj}(hR:R<w.heap.size)(h:w.heap[R]? = some x):(w.alloc o).drew.heap[R]? = some x:=by
 show (w.alloc o).heap[R]? = _;rw[li _ _ _ hR];exact h
theorem Dc(w:World)(R g cap:Nat)(P:List PT)(a:Nat)(f:Bool)(h:yE w R g cap P a f)(t:Bs) :
 Calls Tryz.prog 103 #[.pointer (some ⟨R,0,none⟩),.string ⟨t.toArray⟩] w fun e w'=>e=.returned (.bool (tF P t a f))/\yE w' R g cap P (Us (tF P t a f) a) f/\zC w.heap.size R w w':=by
 obtain⟨c0,c1,c2⟩:=h.cells;obtain⟨t0,t1,t2,t3⟩:=h.tok a h.at';have i1:(0:Int)<=(a:Int):=by omega
 have i2:(a:Int)<(P.length:Int):=by have:=h.at';omega
 have hm:=h.many;have hR:=h.rlt;have hg:=h.glt;have hfz:=h.notFrozen;have hek:=h.endk a h.at';have n1:=World.new_ne w ⟨R,0,none⟩ c0;have n2:=World.new_ne w ⟨g,a*4,none⟩ t0;have HC:=zA h;have HS:Hid (tF P t a f=(!f&&decide ((yK P a).k=4)&&decide ((yK P a).s=t))):=rfl;generalize yK P a=x at *;obtain⟨xk,xs,xv,xp⟩:=x;simp only at t0 t1 t2 t3 HS hek;generalize tF P t a f=b at *;clear h
 cases f with
 | true =>
   have HB:Hid (b=false):=by unfold Hid;rw[HS.out];rfl
   clear HS hek
   go_enter Tryz.func103,Tryz.ntmps103
   go_wp2_with fail
   go_region_held3 (fun w'=>w'.cell? ⟨R,0,none⟩=some (.slice (some ⟨g,0,none⟩) P.length cap)/\w'.cell? ⟨R,1,none⟩=some (.int .i64 a)/\w'.cell? ⟨g,a*4,none⟩=some (.int .i64 xk)/\w'.cell? ⟨g,a*4+1,none⟩=some (.string ⟨xs.toArray⟩)/\w'.cell? ⟨g,a*4+2,none⟩=some (.int .i64 xv)/\w'.cell? ⟨g,a*4+3,none⟩=some (.int .i64 xp)) (go_keep) (fail)
   go_wp2_with fail
   go_ret
   refine⟨zF HB.out.symm,?_,?_⟩
   ·rw[HB.out]
    exact HC.out.keeps (bF hR HC.out.blk) ((zC.refl _ _ _).alloc (j1 _) _).drew HC.out.at'
   ·exact((zC.refl _ _ _).alloc (j1 _) _).drew
 | false =>
   by_cases hk:xk=4
   ·have k1:(xk != 4)=false:=by simp[hk]
    by_cases hx:xs=t
    ·have HB:Hid (b=true):=by unfold Hid;rw[HS.out,hk,hx];simp
     have e1:(!xs==t)=false:=by simp[hx]
     have hek2:=hek (by rw[hk];decide);clear HS hek hk hx
     go_enter Tryz.func103,Tryz.ntmps103
     go_wp2_with fail
     go_region_held3 (fun w'=>w'.cell? ⟨R,0,none⟩=some (.slice (some ⟨g,0,none⟩) P.length cap)/\w'.cell? ⟨R,1,none⟩=some (.int .i64 a)/\w'.cell? ⟨g,a*4,none⟩=some (.int .i64 xk)/\w'.cell? ⟨g,a*4+1,none⟩=some (.string ⟨xs.toArray⟩)/\w'.cell? ⟨g,a*4+2,none⟩=some (.int .i64 xv)/\w'.cell? ⟨g,a*4+3,none⟩=some (.int .i64 xp)) (go_keep) (fail)
     go_wp2_with fail
     go_ret
     refine⟨zF HB.out.symm,?_,?_⟩
     ·rw[HB.out]
      exact HC.out.keeps (J7 HC.out.blk hR _) (nV _ _ _ _ _) hek2
     ·exact nV _ _ _ _ _
    ·have HB:Hid (b=false):=by unfold Hid;rw[HS.out];simp[hx]
     have e1:(!xs==t)=true:=by simp[hx]
     clear HS hek hk hx
     go_enter Tryz.func103,Tryz.ntmps103
     go_wp2_with fail
     go_region_held3 (fun w'=>w'.cell? ⟨R,0,none⟩=some (.slice (some ⟨g,0,none⟩) P.length cap)/\w'.cell? ⟨R,1,none⟩=some (.int .i64 a)/\w'.cell? ⟨g,a*4,none⟩=some (.int .i64 xk)/\w'.cell? ⟨g,a*4+1,none⟩=some (.string ⟨xs.toArray⟩)/\w'.cell? ⟨g,a*4+2,none⟩=some (.int .i64 xv)/\w'.cell? ⟨g,a*4+3,none⟩=some (.int .i64 xp)) (go_keep) (fail)
     go_wp2_with fail
     go_ret
     refine⟨zF HB.out.symm,?_,?_⟩
     ·rw[HB.out]
      exact HC.out.keeps (bF hR HC.out.blk) ((zC.refl _ _ _).alloc (j1 _) _).drew HC.out.at'
     ·exact((zC.refl _ _ _).alloc (j1 _) _).drew
   ·have HB:Hid (b=false):=by unfold Hid;rw[HS.out];simp[hk]
    have k1:(xk != 4)=true:=by simp[hk]
    clear HS hek hk
    go_enter Tryz.func103,Tryz.ntmps103
    go_wp2_with fail
    go_region_held3 (fun w'=>w'.cell? ⟨R,0,none⟩=some (.slice (some ⟨g,0,none⟩) P.length cap)/\w'.cell? ⟨R,1,none⟩=some (.int .i64 a)/\w'.cell? ⟨g,a*4,none⟩=some (.int .i64 xk)/\w'.cell? ⟨g,a*4+1,none⟩=some (.string ⟨xs.toArray⟩)/\w'.cell? ⟨g,a*4+2,none⟩=some (.int .i64 xv)/\w'.cell? ⟨g,a*4+3,none⟩=some (.int .i64 xp)) (go_keep) (fail)
    go_wp2_with fail
    go_ret
    refine⟨zF HB.out.symm,?_,?_⟩
    ·rw[HB.out]
     exact HC.out.keeps (bF hR HC.out.blk) ((zC.refl _ _ _).alloc (j1 _) _).drew HC.out.at'
    ·exact((zC.refl _ _ _).alloc (j1 _) _).drew
attribute [local go_sem ↓] Go.wp_at_zero Go.wp_at_succ
theorem zD6{P:List PT}{t:Bs}{a:Nat}{f:Bool}(h:tF P t a f=true):f=false:=by
 unfold tF at h;cases f
 ·rfl
 ·simp at h
theorem yE.fails(h:yE w R g cap P a f)(hw:w'=w.setCell ⟨R,2,none⟩ (.bool true)):yE w' R g cap P a true:=by
 subst hw;exact h.keeps (Df h.blk) ((zC.refl _ _ _).setCell (p:=⟨R,2,none⟩) (.inr rfl) _) h.at'
theorem zCA(w:World)(R g cap:Nat)(P:List PT)(a:Nat)(f:Bool)(h:yE w R g cap P a f)(t:Bs) :
 Calls Tryz.prog 107 #[.pointer (some ⟨R,0,none⟩),.string ⟨t.toArray⟩] w fun e w'=>e=.returned (.tuple #[])/\yE w' R g cap P (Us (tF P t a f) a) (!tF P t a f)/\zC w.heap.size R w w':=by
 have HS:=zA (Dc w R g cap P a f h t);have hsf := @zD6 P t a f;generalize tF P t a f=b at *;clear h
 cases b with
 | true =>
   have HF:=zA (hsf rfl);clear hsf
   go_enter Tryz.func107,Tryz.ntmps107
   go_wp2_with fail
   refine HS.out.mono ?_;rintro e w1 ⟨rfl,hc,hk⟩;have HC:=zA hc;have HK:=zA hk;clear hc hk;go_wp2_with fail
   go_end0
   have hc:=HC.out;rw[HF.out]at hc;exact⟨rfl,hc,HK.out⟩
 | false =>
   clear hsf
   go_enter Tryz.func107,Tryz.ntmps107
   go_wp2_with fail
   refine HS.out.mono ?_;rintro e w1 ⟨rfl,hc,hk⟩;have c2:=hc.cells.2.2;have hfz:=hc.notFrozen 2;have HC:=zA hc;have HK:=zA hk;clear hc hk;go_wp2_with fail
   go_end0
   exact⟨rfl,HC.out.fails rfl,HK.out.setCell (p:=⟨R,2,none⟩) (.inr rfl) _⟩
def qR(P:List PT)(kd:Int)(a:Nat)(f:Bool):Bool := !f&&decide ((yK P a).k=kd)
def tk(b:Bool)(x:PT):PT:=match b with|true=>x|false=>pz
def Qg(x:PT):Value:=.agg #[.int .i64 x.k,.string ⟨x.s.toArray⟩,.int .i64 x.v,.int .i64 x.p]
theorem qB(w:World)(R o:Nat)(v:Value)(x y:Obj):zC w.heap.size R w (((w.setCell ⟨R,o,none⟩ v).alloc x).alloc y).drew :=
 ((((zC.refl _ _ _).setCell (p:=⟨R,o,none⟩) (.inr rfl) v).alloc (by rw[zL];exact j1 _) x).alloc (by simp) y).drew
theorem oH(h:w.heap[R]? = some (jJ g cap P a f))(hR:R<w.heap.size)(x y:Obj):(((w.setCell ⟨R,2,none⟩ (.bool true)).alloc x).alloc y).drew.heap[R]? = some (jJ g cap P a true) :=
 lB (w:=(w.setCell ⟨R,2,none⟩ (.bool true)).alloc x) (by simp;omega) (lB (w:=w.setCell ⟨R,2,none⟩ (.bool true)) (by rw[zL];exact hR) (Df h))
theorem Qk(h:w.heap[R]? = some (jJ g cap P a f))(hR:R<w.heap.size)(x y:Obj):(((w.setCell ⟨R,1,none⟩ (.int .i64 ((a:Int)+1))).alloc x).alloc y).drew.heap[R]? = some (jJ g cap P (a+1) f) :=
 lB (w:=(w.setCell ⟨R,1,none⟩ (.int .i64 ((a:Int)+1))).alloc x) (by simp;omega) (lB (w:=w.setCell ⟨R,1,none⟩ (.int .i64 ((a:Int)+1))) (by rw[zL];exact hR) (um h))
theorem CQ(w:World)(R g cap:Nat)(P:List PT)(a:Nat)(f:Bool)(h:yE w R g cap P a f)(kd:Int)(hkd:kd≠0) :
 Calls Tryz.prog 180 #[.pointer (some ⟨R,0,none⟩),.int .i64 kd] w fun e w'=>e=.returned (Qg (tk (qR P kd a f) (yK P a)))/\yE w' R g cap P (Us (qR P kd a f) a) (!qR P kd a f)/\zC w.heap.size R w w':=by
 obtain⟨c0,c1,c2⟩:=h.cells;obtain⟨t0,t1,t2,t3⟩:=h.tok a h.at';have i1:(0:Int)<=(a:Int):=by omega
 have i2:(a:Int)<(P.length:Int):=by have:=h.at';omega
 have hm:=h.many;have hR:=h.rlt;have hg:=h.glt;have hfz:=h.notFrozen;have hek:=h.endk a h.at';have n1:=World.new_ne w ⟨R,0,none⟩ c0;have n2:=World.new_ne w ⟨g,a*4,none⟩ t0;have HC:=zA h;have HS:Hid (qR P kd a f=(!f&&decide ((yK P a).k=kd))):=rfl;generalize yK P a=x at *;obtain⟨xk,xs,xv,xp⟩:=x;simp only at t0 t1 t2 t3 HS hek;generalize qR P kd a f=b at *;clear h
 cases f with
 | true =>
   have HB:Hid (b=false):=by unfold Hid;rw[HS.out];rfl
   clear HS hek hkd
   go_enter Tryz.func180,Tryz.ntmps180
   go_wp2_with fail
   go_region_held3 (fun w'=>w'.cell? ⟨R,0,none⟩=some (.slice (some ⟨g,0,none⟩) P.length cap)/\w'.cell? ⟨R,1,none⟩=some (.int .i64 a)/\w'.cell? ⟨g,a*4,none⟩=some (.int .i64 xk)/\w'.cell? ⟨g,a*4+1,none⟩=some (.string ⟨xs.toArray⟩)/\w'.cell? ⟨g,a*4+2,none⟩=some (.int .i64 xv)/\w'.cell? ⟨g,a*4+3,none⟩=some (.int .i64 xp)) (go_keep) (fail)
   go_wp2_with fail
   refine pe (v:=Qg pz) (by simp[results,Tryz.results180,go_sem,Qg,pz]) rfl ⟨by rw[HB.out];rfl,?_,qB _ _ _ _ _ _⟩;rw[HB.out];exact HC.out.keeps (oH HC.out.blk hR _ _) (qB _ _ _ _ _ _) (HC.out.at')
 | false =>
   by_cases hx:xk=kd
   ·have HB:Hid (b=true):=by unfold Hid;rw[HS.out,hx];simp
    have hek2:=hek (by rw[hx];exact hkd);have e1:(xk != kd)=false:=by simp[hx]
    clear HS hek hkd hx
    go_enter Tryz.func180,Tryz.ntmps180
    go_wp2_with fail
    go_region_held3 (fun w'=>w'.cell? ⟨R,0,none⟩=some (.slice (some ⟨g,0,none⟩) P.length cap)/\w'.cell? ⟨R,1,none⟩=some (.int .i64 a)/\w'.cell? ⟨g,a*4,none⟩=some (.int .i64 xk)/\w'.cell? ⟨g,a*4+1,none⟩=some (.string ⟨xs.toArray⟩)/\w'.cell? ⟨g,a*4+2,none⟩=some (.int .i64 xv)/\w'.cell? ⟨g,a*4+3,none⟩=some (.int .i64 xp)) (go_keep) (fail)
    go_wp2_with fail
    refine pe (v:=Qg ⟨xk,xs,xv,xp⟩) (by simp[results,Tryz.results180,go_sem,Qg]) rfl ⟨by rw[HB.out];rfl,?_,qB _ _ _ _ _ _⟩;rw[HB.out];exact HC.out.keeps (Qk HC.out.blk hR _ _) (qB _ _ _ _ _ _) hek2
   ·have HB:Hid (b=false):=by unfold Hid;rw[HS.out];simp[hx]
    have e1:(xk != kd)=true:=by simp[hx]
    clear HS hek hkd hx
    go_enter Tryz.func180,Tryz.ntmps180
    go_wp2_with fail
    go_region_held3 (fun w'=>w'.cell? ⟨R,0,none⟩=some (.slice (some ⟨g,0,none⟩) P.length cap)/\w'.cell? ⟨R,1,none⟩=some (.int .i64 a)/\w'.cell? ⟨g,a*4,none⟩=some (.int .i64 xk)/\w'.cell? ⟨g,a*4+1,none⟩=some (.string ⟨xs.toArray⟩)/\w'.cell? ⟨g,a*4+2,none⟩=some (.int .i64 xv)/\w'.cell? ⟨g,a*4+3,none⟩=some (.int .i64 xp)) (go_keep) (fail)
    go_wp2_with fail
    refine pe (v:=Qg pz) (by simp[results,Tryz.results180,go_sem,Qg,pz]) rfl ⟨by rw[HB.out];rfl,?_,qB _ _ _ _ _ _⟩;rw[HB.out];exact HC.out.keeps (oH HC.out.blk hR _ _) (qB _ _ _ _ _ _) (HC.out.at')
theorem zDY(w:World)(R g cap:Nat)(P:List PT)(a:Nat)(f:Bool)(h:yE w R g cap P a f) :
 Calls Tryz.prog 149 #[.pointer (some ⟨R,0,none⟩)] w fun e w'=>e=.returned (.string ⟨(tk (qR P 2 a f) (yK P a)).s.toArray⟩)/\yE w' R g cap P (Us (qR P 2 a f) a) (!qR P 2 a f)/\zC w.heap.size R w w':=by
 have HS:=zA (CQ w R g cap P a f h 2 (by decide));generalize tk (qR P 2 a f) (yK P a)=x at *;obtain⟨xk,xs,xv,xp⟩:=x;simp only[Qg]at HS;generalize qR P 2 a f=b at *;clear h;have hfd:∀w:World,(Instr.field 187 (.agg #[.int .i64 xk,.string ⟨xs.toArray⟩,.int .i64 xv,.int .i64 xp]) 1).run Tryz.prog w=.ok (.string ⟨xs.toArray⟩) w:=fun _=>by kernel_rfl
 go_enter Tryz.func149,Tryz.ntmps149
 go_wp2_with fail
 refine HS.out.mono ?_;rintro e w1 ⟨rfl,hc,hk⟩;have HC:=zA hc;have HK:=zA hk;clear hc hk;go_wp2_with fail
 go_ret
 exact⟨rfl,HC.out,HK.out⟩
theorem FM(w:World)(R g cap:Nat)(P:List PT)(a:Nat)(f:Bool)(h:yE w R g cap P a f) :
 Calls Tryz.prog 150 #[.pointer (some ⟨R,0,none⟩)] w fun e w'=>e=.returned (.int .i64 (tk (qR P 3 a f) (yK P a)).v)/\yE w' R g cap P (Us (qR P 3 a f) a) (!qR P 3 a f)/\zC w.heap.size R w w':=by
 have HS:=zA (CQ w R g cap P a f h 3 (by decide));generalize tk (qR P 3 a f) (yK P a)=x at *;obtain⟨xk,xs,xv,xp⟩:=x;simp only[Qg]at HS;generalize qR P 3 a f=b at *;clear h;have hfd:∀w:World,(Instr.field 187 (.agg #[.int .i64 xk,.string ⟨xs.toArray⟩,.int .i64 xv,.int .i64 xp]) 2).run Tryz.prog w=.ok (.int .i64 xv) w:=fun _=>by kernel_rfl
 go_enter Tryz.func150,Tryz.ntmps150
 go_wp2_with fail
 refine HS.out.mono ?_;rintro e w1 ⟨rfl,hc,hk⟩;have HC:=zA hc;have HK:=zA hk;clear hc hk;go_wp2_with fail
 go_ret
 exact⟨rfl,HC.out,HK.out⟩
end Go.Proofs.YtnbpdffdnphbeabGreatDoor
