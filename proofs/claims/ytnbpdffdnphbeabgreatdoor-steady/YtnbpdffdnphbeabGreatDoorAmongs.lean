import Derived.Test.YtnbpdffdnphbeabGreatDoorPtok
import Derived.Deep.RegionHeld3
import Derived.Deep.DrawnRows
open Go.Proofs.Tryz
set_option maxHeartbeats 1000000
namespace Go.Proofs.YtnbpdffdnphbeabGreatDoor
variable{p:Addr}{f:Bool}{xs:List Value}{a cap size R g n B:Nat}{e:TypeId}{v:Value}{w w':World}
def oD(l:Bs):Nat->Nat->Nat->List Bs
 | 0,_,_=>[]
 | n+1,a,i=>if i=l.length\/l.getD i 0=32 then (l.drop a).take (i-a)::oD l n (i+1) (i+1) else oD l n a (i+1)
theorem j5(l s:Bs)(n:Nat):∀a i,Ad l s n a i=decide (s∈oD l n a i):=by
 induction n with
 | zero=>intro a i;simp[Ad,oD]
 | succ n ih =>
   intro a i;rw[Ad,oD];split
   ·rw[ih]
    split
    ·rename_i h;simp[h]
    ·rename_i h
     have h2:¬s=(l.drop a).take (i-a):=λe=>h e.symm;simp[h2]
   ·exact ih _ _
theorem Y3(l s:Bs):mI l s=decide (s∈oD l (l.length+1) 0 0):=j5 l s _ 0 0
theorem GN:oD jY (jY.length+1) 0 0=[[46,46],[60,61],[33,61],[62,61]]:=by decide
theorem Cd:oD aN (aN.length+1) 0 0=Gg:=by decide
theorem VP:oD ZO (ZO.length+1) 0 0=U9:=by decide
theorem Ff(s:Bs):mI aN s=qC s:=by
 rw[Y3,Cd,qC,<-List.elem_eq_contains,List.elem_eq_mem]
theorem BA(s:Bs):mI ZO s=vE s:=by
 rw[Y3,VP,vE,<-List.elem_eq_contains,List.elem_eq_mem]
theorem j4(s:Bs)(h:s.length=2):mI jY s=vE s:=by
 rw[Y3,GN,vE,<-List.elem_eq_contains,List.elem_eq_mem];congr 1
 simp only[U9,pi,lq,df,eq_iff_iff];constructor
 ·rintro(rfl|rfl|rfl|rfl) <;> decide
 ·rintro(rfl|rfl|rfl|rfl|rfl|rfl|rfl|rfl|rfl|rfl|rfl|rfl|rfl|rfl) <;> first|(exfalso;revert h;decide)|decide
open Go.RowKit
theorem R4(l:Bs)(p:Nat)(w:World)(hl:l.length<=4000)(hp:p<l.length)(hk:so (l.getD p 0)=0) :
 Calls prog 148 #[.string ⟨l.toArray⟩,.int .i64 p] w λe w'=>e=.returned (qG (yG ((l.drop p).take (uP (l.drop p)))) ((l.drop p).take (uP (l.drop p))) (kM ((l.drop p).take (uP (l.drop p)))) p)/\Below w.heap.size w w':=by
 have hh:∀n,1<=n->so (((l.drop p).take n).getD 0 0)=0:=by
  intro n ax;simp only[List.getD,dw,List.getElem?_drop,lh];rw[u'];exact hk
 have aK:∀n,1<=n->yG ((l.drop p).take n)=if vE ((l.drop p).take n)=true then 4 else 1:=by
  intro n hn;unfold yG;rw[tj (by rw[hh n hn];decide),tj (by rw[hh n hn];decide)]
 have aR:∀n,1<=n->kM ((l.drop p).take n)=0:=by
  intro n hn;unfold kM;rw[tj];rw[aK n hn];split <;> decide
 have aP:uP (l.drop p)=if Cj (l.drop p)=true then 2 else 1:=by unfold uP;rw[dO,lh,tr hk]
 have aB:Cj (l.drop p)=(decide (p+2<=l.length)&&vE ((l.drop p).take 2)):=by
  unfold Cj;by_cases h2:p+2<=l.length
  ·rw[j4 _ (by rw[cq,cp];omega)];congr 1;simp;omega
  ·have:¬ 1<(l.drop p).length:=by rw[cp];omega
   simp[h2];intro;omega
 obtain⟨t2,aJ⟩:∃t,(l.drop p).take 2=t:=⟨_,rfl⟩;obtain⟨t1,ht1⟩:∃t,(l.drop p).take 1=t:=⟨_,rfl⟩;have hx2:(ByteArray.mk l.toArray).extract p (p+2)=⟨t2.toArray⟩:=by rw[ByteArray.extract_mk,<-aJ,show p+2-p=2 by omega]
 have hx1:(ByteArray.mk l.toArray).extract p (p+1)=⟨t1.toArray⟩:=by rw[ByteArray.extract_mk,<-ht1,show p+1-p=1 by omega]
 have one:vE t1=true\/vE t1=false:=by cases vE t1 <;> simp
 by_cases h2:p+2<=l.length
 ·cases aL:vE t2
  ·have aH:uP (l.drop p)=1:=by rw[aP,aB,aJ,aL];simp
   rw[aH,aR 1 (by omega),aK 1 (by omega),ht1];have aW:=zA aL;clear hh aK aR aP aB aJ ht1 aH aL hk;rcases one with aA|aA
   ·rw[aA];have aO:=zA aA;clear aA
    go_enter func148,ntmps148
    go_wp2_with fail
    refine(bP t2 false aW.out _).mono ?_;rintro e w' ⟨rfl,hw⟩;obtain rfl:=hw.symm;go_wp2_with fail
    refine(bP t1 true aO.out _).mono ?_;rintro e w' ⟨rfl,hw⟩;obtain rfl:=hw.symm;go_wp2_with fail
    refine pe (v:=qG 4 t1 0 p) (by simp[results,results148,go_sem,qG]) rfl ⟨rfl,?_⟩;exact fk (tg _) _
   ·rw[aA];have aO:=zA aA;clear aA
    go_enter func148,ntmps148
    go_wp2_with fail
    refine(bP t2 false aW.out _).mono ?_;rintro e w' ⟨rfl,hw⟩;obtain rfl:=hw.symm;go_wp2_with fail
    refine(bP t1 false aO.out _).mono ?_;rintro e w' ⟨rfl,hw⟩;obtain rfl:=hw.symm;go_wp2_with fail
    refine pe (v:=qG 1 t1 0 p) (by simp[results,results148,go_sem,qG]) rfl ⟨rfl,?_⟩;exact fk (tg _) _
  ·have aH:uP (l.drop p)=2:=by rw[aP,aB,aJ,aL];simp[h2]
   rw[aH,aR 2 (by omega),aK 2 (by omega),aJ,aL];have aW:=zA aL;clear hh aK aR aP aB aJ ht1 aH aL hk one
   go_enter func148,ntmps148
   go_wp2_with fail
   refine(bP t2 true aW.out _).mono ?_;rintro e w' ⟨rfl,hw⟩;obtain rfl:=hw.symm;go_wp2_with fail
   refine pe (v:=qG 4 t2 0 p) (by simp[results,results148,go_sem,qG]) rfl ⟨rfl,?_⟩;exact fk (tg _) _
 ·have aH:uP (l.drop p)=1:=by rw[aP,aB];simp[h2]
  rw[aH,aR 1 (by omega),aK 1 (by omega),ht1];clear hh aK aR aP aB aJ ht1 aH hk hx2;rcases one with aA|aA
  ·rw[aA];have aO:=zA aA;clear aA
   go_enter func148,ntmps148
   go_wp2_with fail
   refine(bP t1 true aO.out _).mono ?_;rintro e w' ⟨rfl,hw⟩;obtain rfl:=hw.symm;go_wp2_with fail
   refine pe (v:=qG 4 t1 0 p) (by simp[results,results148,go_sem,qG]) rfl ⟨rfl,?_⟩;exact fk (tg _) _
  ·rw[aA];have aO:=zA aA;clear aA
   go_enter func148,ntmps148
   go_wp2_with fail
   refine(bP t1 false aO.out _).mono ?_;rintro e w' ⟨rfl,hw⟩;obtain rfl:=hw.symm;go_wp2_with fail
   refine pe (v:=qG 1 t1 0 p) (by simp[results,results148,go_sem,qG]) rfl ⟨rfl,?_⟩;exact fk (tg _) _
theorem En{W w1:World}(hb:Below W.heap.size W w1):(∀b o,b<W.heap.size->w1.cell? ⟨b,o,none⟩=W.cell? ⟨b,o,none⟩)/\(∀b o,b<W.heap.size->w1.frozen? ⟨b,o,none⟩=W.frozen? ⟨b,o,none⟩) :=
 ⟨λb o h=>hb.cell (p:=⟨b,o,none⟩) h,λb o h=>hb.frozen (p:=⟨b,o,none⟩) h⟩
theorem Sm(c:UInt8):so c=0\/so c=1\/so c=2\/so c=3:=by
 unfold so XK;split <;> (try split) <;> (try split) <;> simp
theorem VV(l:Bs)(p:Nat)(w:World)(hl:l.length<=4000)(hp:p<l.length)(hk:¬so (l.getD p 0)=3) :
 Calls prog 102 #[.string ⟨l.toArray⟩,.int .i64 p] w λe w'=>e=.returned (qG (yG ((l.drop p).take (uP (l.drop p)))) ((l.drop p).take (uP (l.drop p))) (kM ((l.drop p).take (uP (l.drop p)))) p)/\Below w.heap.size w w':=by
 have hw:=λw h=>jy l p w hl hp h;have aT:=λw h=>CZ l p w hl hp h;have hm:=λw h=>R4 l p w hl hp h;generalize (l.drop p).take (uP (l.drop p))=t at *;generalize yG t=k at *;generalize kM t=v at *;have HL:=zA (λb=>Y1 (l:=l) (b:=b) (i:=p));have HD:=zA (λb=>QR (l:=l) (b:=b) (i:=p));rcases Sm (l.getD p 0) with h|h|h|h
 ·have HM:=zA (λw=>hm w h)
  have h1:=HL.out false (by rw[h];rfl);have h2:=HD.out false (by rw[h];rfl);have H1:=zA h1;have H2:=zA h2;clear hw aT hm HL HD h hk h1 h2
  go_enter func102,ntmps102
  go_wp2_with fail
  refine(tX _ false (H1.out _) _).mono ?_;rintro e w' ⟨rfl,hw⟩;obtain rfl:=hw.symm;go_wp2_with fail
  refine(mH _ false (H2.out _) _).mono ?_;rintro e w' ⟨rfl,hw⟩;obtain rfl:=hw.symm;go_wp2_with fail
  refine(HM.out _).mono ?_;rintro e w2 ⟨rfl,hb⟩;obtain⟨hc,hf⟩:=En hb;have HB:=zA hb;clear hb;unfold qG;go_wp2_with fail
  refine pe (v:=qG k t v p) (by simp[results,results102,go_sem,qG,hc]) rfl ⟨rfl,?_⟩;exact((((((fk (tg _) _).trans (HB.out.mono (by simp))).setCell (tg _) _).setCell (tg _) _).setCell (tg _) _).setCell (tg _) _)
 ·have HM:=zA (λw=>hw w h)
  have h1:=HL.out true (by rw[h];rfl);have h2:=HD.out false (by rw[h];rfl);have H1:=zA h1;clear hw aT hm HL HD h hk h1 h2
  go_enter func102,ntmps102
  go_wp2_with fail
  refine(tX _ true (H1.out _) _).mono ?_;rintro e w' ⟨rfl,hw⟩;obtain rfl:=hw.symm;go_wp2_with fail
  refine(HM.out _).mono ?_;rintro e w2 ⟨rfl,hb⟩;obtain⟨hc,hf⟩:=En hb;have HB:=zA hb;clear hb;unfold qG;go_wp2_with fail
  refine pe (v:=qG k t v p) (by simp[results,results102,go_sem,qG,hc]) rfl ⟨rfl,?_⟩;exact((((((fk (tg _) _).trans (HB.out.mono (by simp))).setCell (tg _) _).setCell (tg _) _).setCell (tg _) _).setCell (tg _) _)
 ·have HM:=zA (λw=>aT w h)
  have h1:=HL.out false (by rw[h];rfl);have h2:=HD.out true (by rw[h];rfl);have H1:=zA h1;have H2:=zA h2;clear hw aT hm HL HD h hk h1 h2
  go_enter func102,ntmps102
  go_wp2_with fail
  refine(tX _ false (H1.out _) _).mono ?_;rintro e w' ⟨rfl,hw⟩;obtain rfl:=hw.symm;go_wp2_with fail
  refine(mH _ true (H2.out _) _).mono ?_;rintro e w' ⟨rfl,hw⟩;obtain rfl:=hw.symm;go_wp2_with fail
  refine(HM.out _).mono ?_;rintro e w2 ⟨rfl,hb⟩;obtain⟨hc,hf⟩:=En hb;have HB:=zA hb;clear hb;unfold qG;go_wp2_with fail
  refine pe (v:=qG k t v p) (by simp[results,results102,go_sem,qG,hc]) rfl ⟨rfl,?_⟩;exact((((((fk (tg _) _).trans (HB.out.mono (by simp))).setCell (tg _) _).setCell (tg _) _).setCell (tg _) _).setCell (tg _) _)
 ·exact x' h hk
theorem Qs(c:Int)(b:Bool)(h:sU c=b)(w:World) :
 Calls prog 101 #[.int .u8 c] w λe w'=>e=.returned (.bool b)/\w'=w:=by subst h;exact UQ c w
theorem Pn(c:UInt8):sU (c.toNat:Int)=decide (so c=3):=by
 unfold sU so XK;by_cases h:(c.toNat:Int)=32\/(c.toNat:Int)=10
 ·rw[i6,i6,tr h];simpa using h
 ·rw[tj h]
  have:¬(if (97:Int)<=c.toNat/\(c.toNat:Int)<=122 then (1:Int) else if (48:Int)<=c.toNat/\(c.toNat:Int)<=57 then 2 else 0)=3:=by split <;> (try split) <;> decide
  simp only[this,dr,dy,lj];omega
theorem B6{l:Bs}{b:Bool}{i:Nat}(h:decide (so (l.getD i 0)=3)=b):∀h:i<(ByteArray.mk l.toArray).size,sU (((ByteArray.mk l.toArray)[i]'h).toNat:Int)=b:=by
 intro h0;rw[Vu,Pn,h]
theorem kV(h:w.ownsRow B e size v n xs)(hb:Below w.heap.size w w'):w'.ownsRow B e size v n xs:=by
 refine⟨h.1,?_⟩;rcases h.2 with h1|⟨g,cap,yB,h1,h2,h3,r⟩
 ·exact .inl h1
 ·refine .inr ⟨g,cap,yB,h1,h2,?_,r⟩
  have hg:g<w.heap.size:=by
   rcases mc g w.heap.size with h|h
   ·exact h
   ·rw[pw h]at h3;cases h3
  rw[hb.block g hg];exact h3
theorem Rd:(prog.info? 187).map (λi=>(i.zero,i.size,i.bytes))=some (some (.agg #[.int .i64 0,.string ⟨#[]⟩,.int .i64 0,.int .i64 0]),4,40):=by kernel_rfl
theorem zW(aF:w.ownsRow B e size v n xs):∀k,v.ownBlock=some k->B<=k/\k<w.heap.size:=by
 intro k hk;rcases aF.2 with ⟨h1,_⟩|⟨g,cap,yB,h1,h2,h3,_⟩
 ·rw[h1]at hk;simp[Value.ownBlock]at hk
 ·rw[h1]at hk;simp[Value.ownBlock]at hk
  subst hk;refine⟨h2,?_⟩;rcases mc g w.heap.size with h|h
  ·exact h
  ·rw[pw h]at h3;cases h3
theorem tW(w:World)(cs:Array Value)(T:TypeId)(l:List Value)(h:cs.toList=l){H:Nat}(hH:w.heap.size=H) :
 ∀j u,l[j]? = some u->(w.alloc (.cells cs T)).cell? ((⟨H,0,none⟩:Addr).add j)=some u:=by
 subst hH;exact zM w cs T l h
theorem Ju(aF:w.ownsRow B e size v n xs):∀k,v.ownBlock=some k->B<=k :=
 λk hk=>(zW aF k hk).1
theorem Pb(l:Bs)(w:World)(hl:l.length<=4000) :
 Calls prog 70 #[.string ⟨l.toArray⟩] w λe w'=>∃v,e=.returned v/\w'.ownsRow w.heap.size 187 4 v ((xI l 0).length+1) (YO (xI l 0)++V1 l.length)/\Below w.heap.size w w':=by
 obtain⟨i0,ai,hz0,hz1,aa⟩:=du Rd;obtain⟨B,hB⟩:∃B,B=w.heap.size:=⟨_,rfl⟩;have HB:Hid (B=w.heap.size):=hB;rw[<-hB];clear hB
 go_enter func70,ntmps70
 go_wp2_with fail
 have h0:(w.alloc (.cells #[] 187)).ownsRow B 187 4 (.slice (some ⟨w.heap.size,0,none⟩) 0 0) 0 (YO []) :=
  ⟨rfl,.inr ⟨w.heap.size,0,#[],rfl,by rw[HB.out];exact tg _,heap_alloc_new w _,tg _,by simp[maxLen],rfl,rfl⟩⟩
 have hb0:Below B w (w.alloc (.cells #[] 187)):=fk (by rw[HB.out];exact tg _) _;have H0:=zA h0;have ak:=zA hb0;clear h0 hb0
 go_loopw [3,4] (λlv av wr=>∃(p:Nat) (ts:yF),p<=l.length/\av=.int .i64 p/\wr.ownsRow B 187 4 lv ts.length (YO ts)/\Below B w wr/\Hid (ts++xI l p=xI l 0)) (λ_ av _=>l.length-(intOf av).toNat)
 case atStart=>exact⟨0,[],p8,rfl,H0.out,ak.out,rfl⟩
 case round =>
  obtain⟨p,ts,hp,rfl,aF,aC,hH⟩:=hrel;clear H0 ak;have ag:B<=wr.heap.size:=by have h5:=aC.size;have h6:=HB.out;omega
  have aq:ts.length<=4000:=by
   have h1:=gk List.length hH.out;have h2:=oE l 0;simp only[tm]at h1;omega
  by_cases aS:p<l.length
  ·by_cases hk:so (l.getD p 0)=3
   ·have HF:Hid (ts++xI l (p+1)=xI l 0):=by have:=hH.out;rw[KC aS hk]at this;exact this
    have HQ:=zA (B6 (b:=true) (by rw[hk];rfl):∀h:p<(ByteArray.mk l.toArray).size,sU (((ByteArray.mk l.toArray)[p]'h).toNat:Int)=true);clear hk hH
    go_wp2_with (go_at_call 101;refine(Qs _ true (HQ.out _) _).mono ?_;rintro e w' ⟨rfl,hw⟩;obtain rfl:=hw.symm)
    go_roundw
    case rel=>exact⟨p+1,ts,by omega,by go_num,aF,aC,HF.out⟩
    case measure=>simp[intOf];omega
   ·have HQ:=zA (B6 (b:=false) (by simp only[hk,dr]):∀h:p<(ByteArray.mk l.toArray).size,sU (((ByteArray.mk l.toArray)[p]'h).toNat:Int)=false)
    have ah:=zA (λw=>VV l p w hl aS hk);have hF:=hH.out;rw[Ck aS hk]at hF;have ax:=sK (l.drop p);have aw:=Ga (l:=l.drop p) (by rw[cp];omega);rw[cp]at aw;have ar:((l.drop p).take (uP (l.drop p))).length=uP (l.drop p):=(by rw[cq,cp];omega);generalize (l.drop p).take (uP (l.drop p))=t at *;generalize uP (l.drop p)=n at *;have HF:Hid ((ts++[(p,t)])++xI l (p+n)=xI l 0):=(by rw[Hid,po];exact hF);have ae:EK (p,t)=[.int .i64 (yG t),.string ⟨t.toArray⟩,.int .i64 (kM t),.int .i64 p]:=rfl;generalize ay:yG t=k at *;generalize ao:kM t=v at *;have aj:=zA ae;clear hk hH hF ay ao ae;subst ar;go_wp2_with fail
    refine(Qs _ false (HQ.out _) _).mono ?_;rintro e w' ⟨rfl,hw⟩;obtain rfl:=hw.symm;go_wp2_with fail
    refine(ah.out _).mono ?_;rintro e w2 ⟨rfl,aV⟩;have aZ:=kV aF aV;have aI:=aC.trans (aV.mono ag);have HG:=zA (zW aF);have au:=aV.size;clear aF aC aV HQ ah;unfold qG
    go_wp2_with (at_builtin;refine wpList_append_own _ rfl _ _ 175 rfl B 187 i0 _ 4 40 underlying175 ai hz0 hz1 aa rfl (by decide) _ _ _ rfl ((aZ.alloc _).alloc _) ⟨w2.heap.size+1,0,none⟩ 1 1 (EK (p,t)) rfl rfl ?c1 ?c2 ?c3 ?c4 ?c5 ?_)
    case c1=>rw[aj.out];exact tW _ _ _ _ rfl (by simp)
    case c2=>rw[aj.out];intro u hu;simp at hu;rcases hu with rfl|rfl|rfl|rfl <;> rfl
    case c3=>unfold maxLen;omega
    case c4=>omega
    case c5=>simp;omega
    intro v' w3 aX aQ _
    have a7:w3.cell? ⟨w2.heap.size,1,none⟩=some (.string ⟨t.toArray⟩):=by
     rw[aQ.cell_far ⟨w2.heap.size,1,none⟩ (by simp;omega) (by
      intro h;have h2:=(HG.out w2.heap.size h.symm).2;omega)]
     simp[World.cell?_alloc_past]
    have aG:Below B w w3:=((aI.alloc (by omega) _).alloc (by simp;omega) _).grown aQ (by simp;omega) (λk hk=>(HG.out k hk).1);clear aZ aI aQ HG
    go_wp2
    go_roundw
    case rel=>exact⟨p+t.length,ts++[(p,t)],by omega,by go_num,by rw[DM];simpa using aX,aG,HF.out⟩
    case measure=>simp[intOf];omega
  ·have HF:Hid (ts=xI l 0):=by have:=hH.out;rw[Cm aS,mt]at this;exact this
   clear hH
   go_wp2_with (at_builtin;refine wpList_append_own _ rfl _ _ 175 rfl B 187 i0 _ 4 40 underlying175 ai hz0 hz1 aa rfl (by decide) _ _ _ rfl (aF.alloc _) ⟨wr.heap.size,0,none⟩ 1 1 (V1 l.length) rfl rfl ?c1 ?c2 ?c3 ?c4 ?c5 ?_)
   case c1=>exact zM _ _ _ _ rfl
   case c2=>intro u hu;simp[V1]at hu;rcases hu with rfl|rfl|rfl|rfl <;> rfl
   case c3=>unfold maxLen;omega
   case c4=>omega
   case c5=>simp;omega
   intro v' w3 aX aQ _;have aG:Below B w w3:=(aC.alloc ag _).grown aQ (by simp;omega) (Ju aF);clear aF aC aQ
   go_wp2
   go_ret
   exact⟨_,rfl,by rw[<-HF.out];exact aX,aG⟩
structure PT where
 k:Int
 s:Bs
 v:Int
 p:Nat
variable{P:List PT}
def pz:PT:=⟨0,[],0,0⟩
def yB(P:List PT)(i:Nat):PT:=P.getD i pz
structure zB(B R:Nat)(w w':World):Prop where
 os:w'.os=w.os
 tape:w'.tape=w.tape
 output:w'.output=w.output
 size:w.heap.size<=w'.heap.size
 block:∀k,k<B->k≠R->w'.heap[k]? = w.heap[k]?
theorem zB.refl(B R:Nat)(w:World):zB B R w w:=⟨rfl,rfl,rfl,tg _,λ_ _ _=>rfl⟩
theorem zB.trans{a b c:World}(h:zB B R a b)(k:zB B R b c):zB B R a c :=
 ⟨k.os.trans h.os,k.tape.trans h.tape,k.output.trans h.output,tu h.size k.size,λi hi hr=>(k.block i hi hr).trans (h.block i hi hr)⟩
theorem zB.mono{B':Nat}(h:zB B R w w')(hB:B'<=B):zB B' R w w':=⟨h.os,h.tape,h.output,h.size,λk hk hr=>h.block k (tq hk hB) hr⟩
theorem zB.az(h:Below B w w'):zB B R w w':=⟨h.os,h.tape,h.output,h.size,λk hk _=>h.block k hk⟩
theorem zB.drew{a:World}(h:zB B R a w):zB B R a w.drew:=⟨h.os,h.tape,h.output,h.size,h.block⟩
theorem zB.alloc{a:World}(h:zB B R a w)(hB:B<=w.heap.size)(o:Obj):zB B R a (w.alloc o) :=
 h.trans ⟨rfl,rfl,rfl,by simp,λk hk _=>ld _ _ (by omega)⟩
theorem zB.setCell{a:World}(h:zB B R a w)(hp:B<=p.block\/p.block=R)(u:Value):zB B R a (w.setCell p u) :=
 h.trans ⟨rfl,rfl,rfl,by simp[World.setCell],λk hk hr=>l6 _ _ _ _ (by omega)⟩
theorem zB.cell(h:zB B R w w')(hp:p.block<B)(hr:p.block≠R):w'.cell? p=w.cell? p:=bq (w:=w) (h.block p.block hp hr)
theorem zB.frozen(h:zB B R w w')(hp:p.block<B)(hr:p.block≠R):w'.frozen? p=w.frozen? p:=dm (w:=w) (h.block p.block hp hr)
def j7(w:World)(g:Nat)(P:List PT):Prop:=∀i,i<P.length ->
 w.cell? ⟨g,i*4,none⟩=some (.int .i64 (yB P i).k)/\w.cell? ⟨g,i*4+1,none⟩=some (.string ⟨(yB P i).s.toArray⟩)/\w.cell? ⟨g,i*4+2,none⟩=some (.int .i64 (yB P i).v)/\w.cell? ⟨g,i*4+3,none⟩=some (.int .i64 (yB P i).p)
def tV(g cap:Nat)(P:List PT)(a:Nat)(f:Bool):Obj:=.cells #[.slice (some ⟨g,0,none⟩) P.length cap,.int .i64 a,.bool f] 178 (0,0)
structure yL(w:World)(R g cap:Nat)(P:List PT)(a:Nat)(f:Bool):Prop where
 blk:w.heap[R]? = some (tV g cap P a f)
 tok:j7 w g P
 gR:g≠R
 ey:g<w.heap.size
 at':a<P.length
 s7:P.length<=cap
 s6:cap<=maxLen
 many:P.length<=4001
 nr:∀i,i<P.length->(yB P i).k≠0->i+1<P.length
theorem yL.gf(h:yL w R g cap P a f):R<w.heap.size:=by
 rcases mc R w.heap.size with h1|h1
 ·exact h1
 ·have:=h.blk;rw[pw h1]at this;cases this
theorem j7.keeps(h:j7 w g P)(hk:zB B R w w')(hg:g<B)(hr:g≠R):j7 w' g P:=by
 intro i hi;obtain⟨a,b,c,d⟩:=h i hi;exact⟨by rw[hk.cell (p:=⟨g,_,none⟩) hg hr];exact a,by rw[hk.cell (p:=⟨g,_,none⟩) hg hr];exact b,by rw[hk.cell (p:=⟨g,_,none⟩) hg hr];exact c,by rw[hk.cell (p:=⟨g,_,none⟩) hg hr];exact d⟩
theorem yL.keeps{a':Nat}{f':Bool}(h:yL w R g cap P a f)(hb:w'.heap[R]? = some (tV g cap P a' f'))(hk:zB w.heap.size R w w')(ha:a'<P.length):yL w' R g cap P a' f' :=
 ⟨hb,h.tok.keeps hk h.ey h.gR,h.gR,tq h.ey hk.size,ha,h.s7,h.s6,h.many,h.nr⟩
theorem yL.cells(h:yL w R g cap P a f) :
 w.cell? ⟨R,0,none⟩=some (.slice (some ⟨g,0,none⟩) P.length cap)/\w.cell? ⟨R,1,none⟩=some (.int .i64 a)/\w.cell? ⟨R,2,none⟩=some (.bool f):=by
 have hb:=h.blk;unfold tV at hb;refine⟨?_,?_,?_⟩ <;> simp[World.cell?,hb]
theorem yL.fq(h:yL w R g cap P a f)(o:Nat):w.frozen? ⟨R,o,none⟩=false:=by
 have hb:=h.blk;unfold tV at hb;simp[World.frozen?,hb]
theorem Iy(h:w.heap[R]? = some (tV g cap P a f)):(w.setCell ⟨R,1,none⟩ (.int .i64 ((a:Int)+1))).heap[R]? = some (tV g cap P (a+1) f):=by
 unfold tV at h ⊢;rw[p9 w R 1 _ _ _ h];simp
theorem FD(h:w.heap[R]? = some (tV g cap P a f)):(w.setCell ⟨R,2,none⟩ (.bool true)).heap[R]? = some (tV g cap P a true):=by
 unfold tV at h ⊢;rw[p9 w R 2 _ _ _ h];simp
theorem bO{o x:Obj}(hR:R<w.heap.size)(h:w.heap[R]? = some x):(w.alloc o).heap[R]? = some x:=by
 rw[ld _ _ hR];exact h
theorem zL(w:World)(a:Addr)(v:Value):(w.setCell a v).heap.size=w.heap.size:=by simp[World.setCell]
theorem KQ(h:w.heap[R]? = some (tV g cap P a f))(hR:R<w.heap.size)(x:Obj):((w.setCell ⟨R,1,none⟩ (.int .i64 ((a:Int)+1))).alloc x).drew.heap[R]? = some (tV g cap P (a+1) f) :=
 bO (w:=w.setCell ⟨R,1,none⟩ (.int .i64 ((a:Int)+1))) (by rw[zL];exact hR) (Iy h)
theorem rJ(w:World)(R o:Nat)(v:Value)(x:Obj):zB w.heap.size R w ((w.setCell ⟨R,o,none⟩ v).alloc x).drew :=
 (((zB.refl _ _ _).setCell (p:=⟨R,o,none⟩) (.inr rfl) v).alloc (by rw[zL];exact tg _) x).drew
def Xe(b:Bool)(a:Nat):Nat:=match b with|true=>a+1|false=>a
def tN(P:List PT)(t:Bs)(a:Nat)(f:Bool):Bool := !f&&decide ((yB P a).k=4)&&decide ((yB P a).s=t)
theorem OO(w:World)(R g cap:Nat)(P:List PT)(a:Nat)(f:Bool)(h:yL w R g cap P a f)(kd:Int) :
 Calls prog 71 #[.pointer (some ⟨R,0,none⟩),.int .i64 kd] w λe w'=>e=.returned (.bool ((yB P a).k==kd))/\yL w' R g cap P a f/\zB w.heap.size R w w':=by
 obtain⟨c0,c1,_⟩:=h.cells;obtain⟨t0,_,_,_⟩:=h.tok a h.at';have i1:(0:Int)<=(a:Int):=by omega
 have i2:(a:Int)<(P.length:Int):=by have:=h.at';omega
 have HC:=zA h;clear h
 go_enter func71,ntmps71
 go_wp2_with fail
 go_region_held3 (λw'=>w'.cell? ⟨R,0,none⟩=some (.slice (some ⟨g,0,none⟩) P.length cap)/\w'.cell? ⟨R,1,none⟩=some (.int .i64 a)/\w'.cell? ⟨g,a*4,none⟩=some (.int .i64 (yB P a).k)) (go_keep) (fail)
 go_wp2_with fail
 go_ret
 exact⟨rfl,HC.out.keeps HC.out.blk (zB.refl _ _ _).drew HC.out.at',(zB.refl _ _ _).drew⟩
attribute [local go_sem ↓] Go.wp_at_zero Go.wp_at_succ
theorem cK{o x:Obj}(hR:R<w.heap.size)(h:w.heap[R]? = some x):(w.alloc o).drew.heap[R]? = some x:=by
 show (w.alloc o).heap[R]? = _;rw[ld _ _ hR];exact h
theorem F8(w:World)(R g cap:Nat)(P:List PT)(a:Nat)(f:Bool)(h:yL w R g cap P a f)(t:Bs) :
 Calls prog 103 #[.pointer (some ⟨R,0,none⟩),.string ⟨t.toArray⟩] w λe w'=>e=.returned (.bool (tN P t a f))/\yL w' R g cap P (Xe (tN P t a f) a) f/\zB w.heap.size R w w':=by
 obtain⟨c0,c1,c2⟩:=h.cells;obtain⟨t0,t1,t2,t3⟩:=h.tok a h.at';have i1:(0:Int)<=(a:Int):=by omega
 have i2:(a:Int)<(P.length:Int):=by have:=h.at';omega
 have hm:=h.many;have hR:=h.gf;have hg:=h.ey;have af:=h.fq;have aD:=h.nr a h.at';have n1:=World.new_ne w ⟨R,0,none⟩ c0;have n2:=World.new_ne w ⟨g,a*4,none⟩ t0;have HC:=zA h;have HS:Hid (tN P t a f=(!f&&decide ((yB P a).k=4)&&decide ((yB P a).s=t))):=rfl;generalize yB P a=x at *;obtain⟨xk,xs,xv,xp⟩:=x;simp only at t0 t1 t2 t3 HS aD;generalize tN P t a f=b at *;clear h
 cases f with
 | true =>
   have HB:Hid (b=false):=(by unfold Hid;rw[HS.out];rfl);clear HS aD
   go_enter func103,ntmps103
   go_wp2_with fail
   go_region_held3 (λw'=>w'.cell? ⟨R,0,none⟩=some (.slice (some ⟨g,0,none⟩) P.length cap)/\w'.cell? ⟨R,1,none⟩=some (.int .i64 a)/\w'.cell? ⟨g,a*4,none⟩=some (.int .i64 xk)/\w'.cell? ⟨g,a*4+1,none⟩=some (.string ⟨xs.toArray⟩)/\w'.cell? ⟨g,a*4+2,none⟩=some (.int .i64 xv)/\w'.cell? ⟨g,a*4+3,none⟩=some (.int .i64 xp)) (go_keep) (fail)
   go_wp2_with fail
   go_ret
   refine⟨zG HB.out.symm,?_,?_⟩
   ·rw[HB.out]
    exact HC.out.keeps (cK hR HC.out.blk) ((zB.refl _ _ _).alloc (tg _) _).drew HC.out.at'
   ·exact((zB.refl _ _ _).alloc (tg _) _).drew
 | false =>
   by_cases hk:xk=4
   ·have k1:(xk != 4)=false:=by simp[hk]
    by_cases hx:xs=t
    ·have HB:Hid (b=true):=by unfold Hid;rw[HS.out,hk,hx];simp
     have e1:(!xs==t)=false:=(by simp[hx]);have aM:=aD (by rw[hk];decide);clear HS aD hk hx
     go_enter func103,ntmps103
     go_wp2_with fail
     go_region_held3 (λw'=>w'.cell? ⟨R,0,none⟩=some (.slice (some ⟨g,0,none⟩) P.length cap)/\w'.cell? ⟨R,1,none⟩=some (.int .i64 a)/\w'.cell? ⟨g,a*4,none⟩=some (.int .i64 xk)/\w'.cell? ⟨g,a*4+1,none⟩=some (.string ⟨xs.toArray⟩)/\w'.cell? ⟨g,a*4+2,none⟩=some (.int .i64 xv)/\w'.cell? ⟨g,a*4+3,none⟩=some (.int .i64 xp)) (go_keep) (fail)
     go_wp2_with fail
     go_ret
     refine⟨zG HB.out.symm,?_,?_⟩
     ·rw[HB.out]
      exact HC.out.keeps (KQ HC.out.blk hR _) (rJ _ _ _ _ _) aM
     ·exact rJ _ _ _ _ _
    ·have HB:Hid (b=false):=by unfold Hid;rw[HS.out];simp[hx]
     have e1:(!xs==t)=true:=(by simp[hx]);clear HS aD hk hx
     go_enter func103,ntmps103
     go_wp2_with fail
     go_region_held3 (λw'=>w'.cell? ⟨R,0,none⟩=some (.slice (some ⟨g,0,none⟩) P.length cap)/\w'.cell? ⟨R,1,none⟩=some (.int .i64 a)/\w'.cell? ⟨g,a*4,none⟩=some (.int .i64 xk)/\w'.cell? ⟨g,a*4+1,none⟩=some (.string ⟨xs.toArray⟩)/\w'.cell? ⟨g,a*4+2,none⟩=some (.int .i64 xv)/\w'.cell? ⟨g,a*4+3,none⟩=some (.int .i64 xp)) (go_keep) (fail)
     go_wp2_with fail
     go_ret
     refine⟨zG HB.out.symm,?_,?_⟩
     ·rw[HB.out]
      exact HC.out.keeps (cK hR HC.out.blk) ((zB.refl _ _ _).alloc (tg _) _).drew HC.out.at'
     ·exact((zB.refl _ _ _).alloc (tg _) _).drew
   ·have HB:Hid (b=false):=by unfold Hid;rw[HS.out];simp[hk]
    have k1:(xk != 4)=true:=(by simp[hk]);clear HS aD hk
    go_enter func103,ntmps103
    go_wp2_with fail
    go_region_held3 (λw'=>w'.cell? ⟨R,0,none⟩=some (.slice (some ⟨g,0,none⟩) P.length cap)/\w'.cell? ⟨R,1,none⟩=some (.int .i64 a)/\w'.cell? ⟨g,a*4,none⟩=some (.int .i64 xk)/\w'.cell? ⟨g,a*4+1,none⟩=some (.string ⟨xs.toArray⟩)/\w'.cell? ⟨g,a*4+2,none⟩=some (.int .i64 xv)/\w'.cell? ⟨g,a*4+3,none⟩=some (.int .i64 xp)) (go_keep) (fail)
    go_wp2_with fail
    go_ret
    refine⟨zG HB.out.symm,?_,?_⟩
    ·rw[HB.out]
     exact HC.out.keeps (cK hR HC.out.blk) ((zB.refl _ _ _).alloc (tg _) _).drew HC.out.at'
    ·exact((zB.refl _ _ _).alloc (tg _) _).drew
attribute [local go_sem ↓] Go.wp_at_zero Go.wp_at_succ
theorem Oo{P:List PT}{t:Bs}{a:Nat}{f:Bool}(h:tN P t a f=true):f=false:=by
 unfold tN at h;cases f
 ·rfl
 ·simp at h
theorem yL.ow(h:yL w R g cap P a f)(hw:w'=w.setCell ⟨R,2,none⟩ (.bool true)):yL w' R g cap P a true:=by
 subst hw;exact h.keeps (FD h.blk) ((zB.refl _ _ _).setCell (p:=⟨R,2,none⟩) (.inr rfl) _) h.at'
theorem PL(w:World)(R g cap:Nat)(P:List PT)(a:Nat)(f:Bool)(h:yL w R g cap P a f)(t:Bs) :
 Calls prog 107 #[.pointer (some ⟨R,0,none⟩),.string ⟨t.toArray⟩] w λe w'=>e=.returned (.tuple #[])/\yL w' R g cap P (Xe (tN P t a f) a) (!tN P t a f)/\zB w.heap.size R w w':=by
 have HS:=zA (F8 w R g cap P a f h t);have aY := @Oo P t a f;generalize tN P t a f=b at *;clear h
 cases b with
 | true =>
   have HF:=zA (aY rfl);clear aY
   go_enter func107,ntmps107
   go_wp2_with fail
   refine HS.out.mono ?_;rintro e w1 ⟨rfl,hc,hk⟩;have HC:=zA hc;have HK:=zA hk;clear hc hk;go_wp2_with fail
   go_end0
   have hc:=HC.out;rw[HF.out]at hc;exact⟨rfl,hc,HK.out⟩
 | false =>
   clear aY
   go_enter func107,ntmps107
   go_wp2_with fail
   refine HS.out.mono ?_;rintro e w1 ⟨rfl,hc,hk⟩;have c2:=hc.cells.2.2;have af:=hc.fq 2;have HC:=zA hc;have HK:=zA hk;clear hc hk;go_wp2_with fail
   go_end0
   exact⟨rfl,HC.out.ow rfl,HK.out.setCell (p:=⟨R,2,none⟩) (.inr rfl) _⟩
def qH(P:List PT)(kd:Int)(a:Nat)(f:Bool):Bool := !f&&decide ((yB P a).k=kd)
def tk(b:Bool)(x:PT):PT:=match b with|true=>x|false=>pz
def sj(x:PT):Value:=.agg #[.int .i64 x.k,.string ⟨x.s.toArray⟩,.int .i64 x.v,.int .i64 x.p]
theorem kB(w:World)(R o:Nat)(v:Value)(x y:Obj):zB w.heap.size R w (((w.setCell ⟨R,o,none⟩ v).alloc x).alloc y).drew :=
 ((((zB.refl _ _ _).setCell (p:=⟨R,o,none⟩) (.inr rfl) v).alloc (by rw[zL];exact tg _) x).alloc (by simp) y).drew
theorem rW(h:w.heap[R]? = some (tV g cap P a f))(hR:R<w.heap.size)(x y:Obj):(((w.setCell ⟨R,2,none⟩ (.bool true)).alloc x).alloc y).drew.heap[R]? = some (tV g cap P a true) :=
 bO (w:=(w.setCell ⟨R,2,none⟩ (.bool true)).alloc x) (by simp;omega) (bO (w:=w.setCell ⟨R,2,none⟩ (.bool true)) (by rw[zL];exact hR) (FD h))
theorem Jt(h:w.heap[R]? = some (tV g cap P a f))(hR:R<w.heap.size)(x y:Obj):(((w.setCell ⟨R,1,none⟩ (.int .i64 ((a:Int)+1))).alloc x).alloc y).drew.heap[R]? = some (tV g cap P (a+1) f) :=
 bO (w:=(w.setCell ⟨R,1,none⟩ (.int .i64 ((a:Int)+1))).alloc x) (by simp;omega) (bO (w:=w.setCell ⟨R,1,none⟩ (.int .i64 ((a:Int)+1))) (by rw[zL];exact hR) (Iy h))
theorem F0(w:World)(R g cap:Nat)(P:List PT)(a:Nat)(f:Bool)(h:yL w R g cap P a f)(kd:Int)(aU:kd≠0:=by decide) :
 Calls prog 180 #[.pointer (some ⟨R,0,none⟩),.int .i64 kd] w λe w'=>e=.returned (sj (tk (qH P kd a f) (yB P a)))/\yL w' R g cap P (Xe (qH P kd a f) a) (!qH P kd a f)/\zB w.heap.size R w w':=by
 obtain⟨c0,c1,c2⟩:=h.cells;obtain⟨t0,t1,t2,t3⟩:=h.tok a h.at';have i1:(0:Int)<=(a:Int):=by omega
 have i2:(a:Int)<(P.length:Int):=by have:=h.at';omega
 have hm:=h.many;have hR:=h.gf;have hg:=h.ey;have af:=h.fq;have aD:=h.nr a h.at';have n1:=World.new_ne w ⟨R,0,none⟩ c0;have n2:=World.new_ne w ⟨g,a*4,none⟩ t0;have HC:=zA h;have HS:Hid (qH P kd a f=(!f&&decide ((yB P a).k=kd))):=rfl;generalize yB P a=x at *;obtain⟨xk,xs,xv,xp⟩:=x;simp only at t0 t1 t2 t3 HS aD;generalize qH P kd a f=b at *;clear h
 cases f with
 | true =>
   have HB:Hid (b=false):=(by unfold Hid;rw[HS.out];rfl);clear HS aD aU
   go_enter func180,ntmps180
   go_wp2_with fail
   go_region_held3 (λw'=>w'.cell? ⟨R,0,none⟩=some (.slice (some ⟨g,0,none⟩) P.length cap)/\w'.cell? ⟨R,1,none⟩=some (.int .i64 a)/\w'.cell? ⟨g,a*4,none⟩=some (.int .i64 xk)/\w'.cell? ⟨g,a*4+1,none⟩=some (.string ⟨xs.toArray⟩)/\w'.cell? ⟨g,a*4+2,none⟩=some (.int .i64 xv)/\w'.cell? ⟨g,a*4+3,none⟩=some (.int .i64 xp)) (go_keep) (fail)
   go_wp2_with fail
   refine pe (v:=sj pz) (by simp[results,results180,go_sem,sj,pz]) rfl ⟨by rw[HB.out];rfl,?_,kB _ _ _ _ _ _⟩;rw[HB.out];exact HC.out.keeps (rW HC.out.blk hR _ _) (kB _ _ _ _ _ _) (HC.out.at')
 | false =>
   by_cases hx:xk=kd
   ·have HB:Hid (b=true):=by unfold Hid;rw[HS.out,hx];simp
    have aM:=aD (by rw[hx];exact aU);have e1:(xk != kd)=false:=(by simp[hx]);clear HS aD aU hx
    go_enter func180,ntmps180
    go_wp2_with fail
    go_region_held3 (λw'=>w'.cell? ⟨R,0,none⟩=some (.slice (some ⟨g,0,none⟩) P.length cap)/\w'.cell? ⟨R,1,none⟩=some (.int .i64 a)/\w'.cell? ⟨g,a*4,none⟩=some (.int .i64 xk)/\w'.cell? ⟨g,a*4+1,none⟩=some (.string ⟨xs.toArray⟩)/\w'.cell? ⟨g,a*4+2,none⟩=some (.int .i64 xv)/\w'.cell? ⟨g,a*4+3,none⟩=some (.int .i64 xp)) (go_keep) (fail)
    go_wp2_with fail
    refine pe (v:=sj ⟨xk,xs,xv,xp⟩) (by simp[results,results180,go_sem,sj]) rfl ⟨by rw[HB.out];rfl,?_,kB _ _ _ _ _ _⟩;rw[HB.out];exact HC.out.keeps (Jt HC.out.blk hR _ _) (kB _ _ _ _ _ _) aM
   ·have HB:Hid (b=false):=by unfold Hid;rw[HS.out];simp[hx]
    have e1:(xk != kd)=true:=(by simp[hx]);clear HS aD aU hx
    go_enter func180,ntmps180
    go_wp2_with fail
    go_region_held3 (λw'=>w'.cell? ⟨R,0,none⟩=some (.slice (some ⟨g,0,none⟩) P.length cap)/\w'.cell? ⟨R,1,none⟩=some (.int .i64 a)/\w'.cell? ⟨g,a*4,none⟩=some (.int .i64 xk)/\w'.cell? ⟨g,a*4+1,none⟩=some (.string ⟨xs.toArray⟩)/\w'.cell? ⟨g,a*4+2,none⟩=some (.int .i64 xv)/\w'.cell? ⟨g,a*4+3,none⟩=some (.int .i64 xp)) (go_keep) (fail)
    go_wp2_with fail
    refine pe (v:=sj pz) (by simp[results,results180,go_sem,sj,pz]) rfl ⟨by rw[HB.out];rfl,?_,kB _ _ _ _ _ _⟩;rw[HB.out];exact HC.out.keeps (rW HC.out.blk hR _ _) (kB _ _ _ _ _ _) (HC.out.at')
theorem OI(w:World)(R g cap:Nat)(P:List PT)(a:Nat)(f:Bool)(h:yL w R g cap P a f) :
 Calls prog 149 #[.pointer (some ⟨R,0,none⟩)] w λe w'=>e=.returned (.string ⟨(tk (qH P 2 a f) (yB P a)).s.toArray⟩)/\yL w' R g cap P (Xe (qH P 2 a f) a) (!qH P 2 a f)/\zB w.heap.size R w w':=by
 have HS:=zA (F0 w R g cap P a f h 2);generalize tk (qH P 2 a f) (yB P a)=x at *;obtain⟨xk,xs,xv,xp⟩:=x;simp only[sj]at HS;generalize qH P 2 a f=b at *;clear h;have a6:∀w:World,(Instr.field 187 (.agg #[.int .i64 xk,.string ⟨xs.toArray⟩,.int .i64 xv,.int .i64 xp]) 1).run prog w=.ok (.string ⟨xs.toArray⟩) w:=λ_=>by kernel_rfl
 go_enter func149,ntmps149
 go_wp2_with fail
 refine HS.out.mono ?_;rintro e w1 ⟨rfl,hc,hk⟩;have HC:=zA hc;have HK:=zA hk;clear hc hk;go_wp2_with fail
 go_ret
 exact⟨rfl,HC.out,HK.out⟩
theorem xq(w:World)(R g cap:Nat)(P:List PT)(a:Nat)(f:Bool)(h:yL w R g cap P a f) :
 Calls prog 150 #[.pointer (some ⟨R,0,none⟩)] w λe w'=>e=.returned (.int .i64 (tk (qH P 3 a f) (yB P a)).v)/\yL w' R g cap P (Xe (qH P 3 a f) a) (!qH P 3 a f)/\zB w.heap.size R w w':=by
 have HS:=zA (F0 w R g cap P a f h 3);generalize tk (qH P 3 a f) (yB P a)=x at *;obtain⟨xk,xs,xv,xp⟩:=x;simp only[sj]at HS;generalize qH P 3 a f=b at *;clear h;have a6:∀w:World,(Instr.field 187 (.agg #[.int .i64 xk,.string ⟨xs.toArray⟩,.int .i64 xv,.int .i64 xp]) 2).run prog w=.ok (.int .i64 xv) w:=λ_=>by kernel_rfl
 go_enter func150,ntmps150
 go_wp2_with fail
 refine HS.out.mono ?_;rintro e w1 ⟨rfl,hc,hk⟩;have HC:=zA hc;have HK:=zA hk;clear hc hk;go_wp2_with fail
 go_ret
 exact⟨rfl,HC.out,HK.out⟩
end Go.Proofs.YtnbpdffdnphbeabGreatDoor
