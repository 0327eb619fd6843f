import Derived.Test.YtnbpdffdnphbeaaGreatDoorPtok
set_option maxHeartbeats 1000000
namespace Go.Proofs.YtnbpdffdnphbeaaGreatDoor
variable{xs:List Value}{n B size:Nat}{e:TypeId}{v:Value}(l:Bs)(w:World)(s:Bs)
def gF(l:Bs):Nat->Nat->Nat->List Bs
 | 0,_,_=>[]
 | n+1,a,i=>if i=l.length\/l.getD i 0=32 then (l.drop a).take (i-a)::gF l n (i+1) (i+1) else gF l n a (i+1)
theorem yt(n:Nat):∀a i,KK l s n a i=decide (s∈gF l n a i):=by
 induction n with
 | zero=>intro a i;simp[KK,gF]
 | succ n ih =>
   intro a i;rw[KK,gF];split
   ·rw[ih]
    split
    ·rename_i h;simp[h]
    ·rename_i h
     have h2:¬s=(l.drop a).take (i-a):=fun e=>h e.symm;simp[h2]
   ·exact ih _ _
theorem aR:xY l s=decide (s∈gF l (l.length+1) 0 0):=yt l s _ 0 0
theorem Fv:gF lJ (lJ.length+1) 0 0=[[46,46],[60,61],[33,61],[62,61]]:=by decide
theorem Bh:gF pP (pP.length+1) 0 0=DO:=by decide
theorem Ve:gF bF (bF.length+1) 0 0=VI:=by decide
theorem De:xY pP s=qG s:=by
 rw[aR,Bh,qG,<-List.elem_eq_contains,List.elem_eq_mem]
theorem UH:xY bF s=vG s:=by
 rw[aR,Ve,vG,<-List.elem_eq_contains,List.elem_eq_mem]
theorem yj(h:s.length=2):xY lJ s=vG s:=by
 rw[aR,Fv,vG,<-List.elem_eq_contains,List.elem_eq_mem];congr 1
 simp only[VI,pi,l9,dn,eq_iff_iff];constructor
 ·rintro(rfl|rfl|rfl|rfl) <;> decide
 ·rintro(rfl|rfl|rfl|rfl|rfl|rfl|rfl|rfl|rfl|rfl|rfl|rfl|rfl|rfl) <;> first|(exfalso;revert h;decide)|decide
open Go.RowKit
theorem kq(p:Nat)(w:World)(hl:l.length<=4000)(hp:p<l.length)(hk:so (l.getD p 0)=0) :
 Calls Tryz.prog 210 #[.string ⟨l.toArray⟩,.int .i64 p] w fun e w'=>e=.returned (qP (vU ((l.drop p).take (uC (l.drop p)))) ((l.drop p).take (uC (l.drop p))) (pY ((l.drop p).take (uC (l.drop p)))) p)/\Below w.heap.size w w':=by
 have hh:∀n,1<=n->so (((l.drop p).take n).getD 0 0)=0:=by
  intro n hn1;simp only[List.getD,bv,List.getElem?_drop,pq];rw[tl (by omega)];exact hk
 have hpk:∀n,1<=n->vU ((l.drop p).take n)=if vG ((l.drop p).take n)=true then 4 else 1:=by
  intro n hn;unfold vU;rw[tg (by rw[hh n hn];decide),tg (by rw[hh n hn];decide)]
 have hpv:∀n,1<=n->pY ((l.drop p).take n)=0:=by
  intro n hn;unfold pY;rw[tg];rw[hpk n hn];split <;> decide
 have zIC:uC (l.drop p)=if Vi (l.drop p)=true then 2 else 1:=by unfold uC;rw[bZ,pq,tl hk]
 have htwo:Vi (l.drop p)=(decide (p+2<=l.length)&&vG ((l.drop p).take 2)):=by
  unfold Vi;by_cases h2:p+2<=l.length
  ·rw[yj _ (by rw[p9,ty];omega)];congr 1;simp;omega
  ·have:¬ 1<(l.drop p).length:=by rw[ty];omega
   simp[h2];intro;omega
 obtain⟨t2,ht2⟩:∃t,(l.drop p).take 2=t:=⟨_,rfl⟩;obtain⟨t1,ht1⟩:∃t,(l.drop p).take 1=t:=⟨_,rfl⟩;have hx2:(ByteArray.mk l.toArray).extract p (p+2)=⟨t2.toArray⟩:=by rw[ByteArray.extract_mk,<-ht2,show p+2-p=2 by omega]
 have hx1:(ByteArray.mk l.toArray).extract p (p+1)=⟨t1.toArray⟩:=by rw[ByteArray.extract_mk,<-ht1,show p+1-p=1 by omega]
 have one:vG t1=true\/vG t1=false:=by cases vG t1 <;> simp
 by_cases h2:p+2<=l.length
 ·cases hm2:vG t2
  ·have hl1:uC (l.drop p)=1:=by rw[zIC,htwo,ht2,hm2];simp
   rw[hl1,hpv 1 (by omega),hpk 1 (by omega),ht1];have HM2:=zA hm2;clear hh hpk hpv zIC htwo ht2 ht1 hl1 hm2 hk;rcases one with hm1|hm1
   ·rw[hm1];have HM1:=zA hm1;clear hm1
    go_enter Tryz.func210,Tryz.ntmps210
    go_wp2_with fail
    refine(bV t2 false HM2.out _).mono ?_;rintro e w' ⟨rfl,hw⟩;obtain rfl:=hw.symm;go_wp2_with fail
    refine(bV t1 true HM1.out _).mono ?_;rintro e w' ⟨rfl,hw⟩;obtain rfl:=hw.symm;go_wp2_with fail
    refine ph (v:=qP 4 t1 0 p) (by simp[results,Tryz.results210,go_sem,qP]) rfl ⟨rfl,?_⟩;exact ge (t9 _) _
   ·rw[hm1];have HM1:=zA hm1;clear hm1
    go_enter Tryz.func210,Tryz.ntmps210
    go_wp2_with fail
    refine(bV t2 false HM2.out _).mono ?_;rintro e w' ⟨rfl,hw⟩;obtain rfl:=hw.symm;go_wp2_with fail
    refine(bV t1 false HM1.out _).mono ?_;rintro e w' ⟨rfl,hw⟩;obtain rfl:=hw.symm;go_wp2_with fail
    refine ph (v:=qP 1 t1 0 p) (by simp[results,Tryz.results210,go_sem,qP]) rfl ⟨rfl,?_⟩;exact ge (t9 _) _
  ·have hl1:uC (l.drop p)=2:=by rw[zIC,htwo,ht2,hm2];simp[h2]
   rw[hl1,hpv 2 (by omega),hpk 2 (by omega),ht2,hm2];have HM2:=zA hm2;clear hh hpk hpv zIC htwo ht2 ht1 hl1 hm2 hk one
   go_enter Tryz.func210,Tryz.ntmps210
   go_wp2_with fail
   refine(bV t2 true HM2.out _).mono ?_;rintro e w' ⟨rfl,hw⟩;obtain rfl:=hw.symm;go_wp2_with fail
   refine ph (v:=qP 4 t2 0 p) (by simp[results,Tryz.results210,go_sem,qP]) rfl ⟨rfl,?_⟩;exact ge (t9 _) _
 ·have hl1:uC (l.drop p)=1:=by rw[zIC,htwo];simp[h2]
  rw[hl1,hpv 1 (by omega),hpk 1 (by omega),ht1];clear hh hpk hpv zIC htwo ht2 ht1 hl1 hk hx2;rcases one with hm1|hm1
  ·rw[hm1];have HM1:=zA hm1;clear hm1
   go_enter Tryz.func210,Tryz.ntmps210
   go_wp2_with fail
   refine(bV t1 true HM1.out _).mono ?_;rintro e w' ⟨rfl,hw⟩;obtain rfl:=hw.symm;go_wp2_with fail
   refine ph (v:=qP 4 t1 0 p) (by simp[results,Tryz.results210,go_sem,qP]) rfl ⟨rfl,?_⟩;exact ge (t9 _) _
  ·rw[hm1];have HM1:=zA hm1;clear hm1
   go_enter Tryz.func210,Tryz.ntmps210
   go_wp2_with fail
   refine(bV t1 false HM1.out _).mono ?_;rintro e w' ⟨rfl,hw⟩;obtain rfl:=hw.symm;go_wp2_with fail
   refine ph (v:=qP 1 t1 0 p) (by simp[results,Tryz.results210,go_sem,qP]) rfl ⟨rfl,?_⟩;exact ge (t9 _) _
theorem zAX{W w1:World}(hb:Below W.heap.size W w1):(∀b o,b<W.heap.size->w1.cell? ⟨b,o,none⟩=W.cell? ⟨b,o,none⟩)/\(∀b o,b<W.heap.size->w1.frozen? ⟨b,o,none⟩=W.frozen? ⟨b,o,none⟩) :=
 ⟨fun b o h=>hb.cell (p:=⟨b,o,none⟩) h,fun b o h=>hb.frozen (p:=⟨b,o,none⟩) h⟩
theorem ud(c:UInt8):so c=0\/so c=1\/so c=2\/so c=3:=by
 unfold so tV;split <;> (try split) <;> (try split) <;> simp
theorem Vj(p:Nat)(w:World)(hl:l.length<=4000)(hp:p<l.length)(hk:¬so (l.getD p 0)=3) :
 Calls Tryz.prog 147 #[.string ⟨l.toArray⟩,.int .i64 p] w fun e w'=>e=.returned (qP (vU ((l.drop p).take (uC (l.drop p)))) ((l.drop p).take (uC (l.drop p))) (pY ((l.drop p).take (uC (l.drop p)))) p)/\Below w.heap.size w w':=by
 have hw:=fun w h=>vb l p w hl hp h;have hnu:=fun w h=>Cg l p w hl hp h;have hm:=fun w h=>kq l p w hl hp h;generalize (l.drop p).take (uC (l.drop p))=t at *;generalize vU t=k at *;generalize pY t=v at *;have HL:=zA (fun b=>ZZ (l:=l) (b:=b) (i:=p));have HD:=zA (fun b=>Qs (l:=l) (b:=b) (i:=p));rcases ud (l.getD p 0) with h|h|h|h
 ·have HM:=zA (fun w=>hm w h)
  have h1:=HL.out false (by rw[h];rfl);have h2:=HD.out false (by rw[h];rfl);have H1:=zA h1;have H2:=zA h2;clear hw hnu hm HL HD h hk h1 h2
  go_enter Tryz.func147,Tryz.ntmps147
  go_wp2_with fail
  refine(pB _ false (H1.out _) _).mono ?_;rintro e w' ⟨rfl,hw⟩;obtain rfl:=hw.symm;go_wp2_with fail
  refine(mR _ false (H2.out _) _).mono ?_;rintro e w' ⟨rfl,hw⟩;obtain rfl:=hw.symm;go_wp2_with fail
  refine(HM.out _).mono ?_;rintro e w2 ⟨rfl,hb⟩;obtain⟨hc,hf⟩:=zAX hb;have HB:=zA hb;clear hb;unfold qP;go_wp2_with fail
  refine ph (v:=qP k t v p) (by simp[results,Tryz.results147,go_sem,qP,hc]) rfl ⟨rfl,?_⟩;exact((((((ge (t9 _) _).trans (HB.out.mono (by simp))).setCell (t9 _) _).setCell (t9 _) _).setCell (t9 _) _).setCell (t9 _) _)
 ·have HM:=zA (fun w=>hw w h)
  have h1:=HL.out true (by rw[h];rfl);have h2:=HD.out false (by rw[h];rfl);have H1:=zA h1;clear hw hnu hm HL HD h hk h1 h2
  go_enter Tryz.func147,Tryz.ntmps147
  go_wp2_with fail
  refine(pB _ true (H1.out _) _).mono ?_;rintro e w' ⟨rfl,hw⟩;obtain rfl:=hw.symm;go_wp2_with fail
  refine(HM.out _).mono ?_;rintro e w2 ⟨rfl,hb⟩;obtain⟨hc,hf⟩:=zAX hb;have HB:=zA hb;clear hb;unfold qP;go_wp2_with fail
  refine ph (v:=qP k t v p) (by simp[results,Tryz.results147,go_sem,qP,hc]) rfl ⟨rfl,?_⟩;exact((((((ge (t9 _) _).trans (HB.out.mono (by simp))).setCell (t9 _) _).setCell (t9 _) _).setCell (t9 _) _).setCell (t9 _) _)
 ·have HM:=zA (fun w=>hnu w h)
  have h1:=HL.out false (by rw[h];rfl);have h2:=HD.out true (by rw[h];rfl);have H1:=zA h1;have H2:=zA h2;clear hw hnu hm HL HD h hk h1 h2
  go_enter Tryz.func147,Tryz.ntmps147
  go_wp2_with fail
  refine(pB _ false (H1.out _) _).mono ?_;rintro e w' ⟨rfl,hw⟩;obtain rfl:=hw.symm;go_wp2_with fail
  refine(mR _ true (H2.out _) _).mono ?_;rintro e w' ⟨rfl,hw⟩;obtain rfl:=hw.symm;go_wp2_with fail
  refine(HM.out _).mono ?_;rintro e w2 ⟨rfl,hb⟩;obtain⟨hc,hf⟩:=zAX hb;have HB:=zA hb;clear hb;unfold qP;go_wp2_with fail
  refine ph (v:=qP k t v p) (by simp[results,Tryz.results147,go_sem,qP,hc]) rfl ⟨rfl,?_⟩;exact((((((ge (t9 _) _).trans (HB.out.mono (by simp))).setCell (t9 _) _).setCell (t9 _) _).setCell (t9 _) _).setCell (t9 _) _)
 ·exact absurd h hk
theorem XV(c:Int)(b:Bool)(h:sR c=b)(w:World) :
 Calls Tryz.prog 146 #[.int .u8 c] w fun e w'=>e=.returned (.bool b)/\w'=w:=by subst h;exact Ud c w
theorem zAU(c:UInt8):sR (c.toNat:Int)=decide (so c=3):=by
 unfold sR so tV;by_cases h:(c.toNat:Int)=32\/(c.toNat:Int)=10
 ·rw[tg (by omega),tg (by omega),tl h];simpa using h
 ·rw[tg h]
  have:¬(if (97:Int)<=c.toNat/\(c.toNat:Int)<=122 then (1:Int) else if (48:Int)<=c.toNat/\(c.toNat:Int)<=57 then 2 else 0)=3:=by split <;> (try split) <;> decide
  simp only[this,dt,ld,fa];omega
theorem UE{l:Bs}{b:Bool}{i:Nat}(h:decide (so (l.getD i 0)=3)=b):∀h:i<(ByteArray.mk l.toArray).size,sR (((ByteArray.mk l.toArray)[i]'h).toNat:Int)=b:=by
 intro h0;rw[oI,zAU,h]
theorem Cc{w w':World}(h:w.ownsRow B e size v n xs)(hb:Below w.heap.size w w'):w'.ownsRow B e size v n xs:=by
 refine⟨h.1,?_⟩;rcases h.2 with h1|⟨g,cap,yW,h1,h2,h3,r⟩
 ·exact .inl h1
 ·refine .inr ⟨g,cap,yW,h1,h2,?_,r⟩
  have hg:g<w.heap.size:=by
   rcases po g w.heap.size with h|h
   ·exact h
   ·rw[pj h]at h3;cases h3
  rw[hb.block g hg];exact h3
theorem jx:(Tryz.prog.info? 237).map (fun i=>(i.zero,i.size,i.bytes))=some (some (.agg #[.int .i64 0,.string ⟨#[]⟩,.int .i64 0,.int .i64 0]),4,40):=by kernel_rfl
theorem zQ{w:World}(zI8:w.ownsRow B e size v n xs):∀k,v.ownBlock=some k->B<=k/\k<w.heap.size:=by
 intro k hk;rcases zI8.2 with ⟨h1,_⟩|⟨g,cap,yW,h1,h2,h3,_⟩
 ·rw[h1]at hk;simp[Value.ownBlock]at hk
 ·rw[h1]at hk;simp[Value.ownBlock]at hk
  subst hk;refine⟨h2,?_⟩;rcases po g w.heap.size with h|h
  ·exact h
  ·rw[pj h]at h3;cases h3
theorem uT(cs:Array Value)(T:TypeId)(l:List Value)(h:cs.toList=l){H:Nat}(hH:w.heap.size=H) :
 ∀j u,l[j]? = some u->(w.alloc (.cells cs T)).cell? ((⟨H,0,none⟩:Addr).add j)=some u:=by
 subst hH;exact zZ w cs T l h
theorem QF{w:World}(zI8:w.ownsRow B e size v n xs):∀k,v.ownBlock=some k->B<=k :=
 fun k hk=>(zQ zI8 k hk).1
theorem zB5(hl:l.length<=4000) :
 Calls Tryz.prog 100 #[.string ⟨l.toArray⟩] w fun e w'=>∃v,e=.returned v/\w'.ownsRow w.heap.size 237 4 v ((yR l 0).length+1) (Yz (yR l 0)++KD l.length)/\Below w.heap.size w w':=by
 obtain⟨i0,hi0,hz0,hz1,hz2⟩:=dp jx;obtain⟨B,hB⟩:∃B,B=w.heap.size:=⟨_,rfl⟩;have HB:Hid (B=w.heap.size):=hB;rw[<-hB];clear hB
 go_enter Tryz.func100,Tryz.ntmps100
 go_wp2_with fail
 have h0:(w.alloc (.cells #[] 237)).ownsRow B 237 4 (.slice (some ⟨w.heap.size,0,none⟩) 0 0) 0 (Yz []) :=
  ⟨rfl,.inr ⟨w.heap.size,0,#[],rfl,by rw[HB.out];exact t9 _,heap_alloc_new w _,t9 _,by simp[maxLen],rfl,rfl⟩⟩
 have hb0:Below B w (w.alloc (.cells #[] 237)):=ge (by rw[HB.out];exact t9 _) _;have H0:=zA h0;have HB0:=zA hb0;clear h0 hb0
 go_loopw [3,4] (fun lv av wr=>∃(p:Nat) (ts:zG),p<=l.length/\av=.int .i64 p/\wr.ownsRow B 237 4 lv ts.length (Yz ts)/\Below B w wr/\Hid (ts++yR l p=yR l 0)) (fun _ av _=>l.length-(intOf av).toNat)
 case atStart=>exact⟨0,[],tr _,rfl,H0.out,HB0.out,rfl⟩
 case round =>
  obtain⟨p,ts,hp,rfl,zI8,zIS,hH⟩:=hrel;clear H0 HB0;have zJ6:B<=wr.heap.size:=by have h5:=zIS.size;have h6:=HB.out;omega
  have hts0:ts.length<=4000:=by
   have h1:=congrArg List.length hH.out;have h2:=kY l 0;simp only[tq]at h1;omega
  by_cases zI6:p<l.length
  ·by_cases hk:so (l.getD p 0)=3
   ·have HF:Hid (ts++yR l (p+1)=yR l 0):=by have:=hH.out;rw[nX zI6 hk]at this;exact this
    have HQ:=zA (UE (b:=true) (by rw[hk];rfl):∀h:p<(ByteArray.mk l.toArray).size,sR (((ByteArray.mk l.toArray)[p]'h).toNat:Int)=true);clear hk hH
    go_wp2_with (go_at_call 146;refine(XV _ true (HQ.out _) _).mono ?_;rintro e w' ⟨rfl,hw⟩;obtain rfl:=hw.symm)
    go_roundw
    case rel=>exact⟨p+1,ts,by omega,by go_num,zI8,zIS,HF.out⟩
    case measure=>simp[intOf];omega
   ·have HQ:=zA (UE (b:=false) (by simp only[hk,dt]):∀h:p<(ByteArray.mk l.toArray).size,sR (((ByteArray.mk l.toArray)[p]'h).toNat:Int)=false)
    have HTk:=zA (fun w=>Vj l p w hl zI6 hk);have hF:=hH.out;rw[Xl zI6 hk]at hF;have hn1:=nF (l.drop p);have hn2:=K1 (l:=l.drop p) (by rw[ty];omega);rw[ty]at hn2;have htl:((l.drop p).take (uC (l.drop p))).length=uC (l.drop p):=by rw[p9,ty];omega
    generalize (l.drop p).take (uC (l.drop p))=t at *;generalize uC (l.drop p)=n at *;have HF:Hid ((ts++[(p,t)])++yR l (p+n)=yR l 0):=by rw[Hid,mn];exact hF
    have hpt:zCD (p,t)=[.int .i64 (vU t),.string ⟨t.toArray⟩,.int .i64 (pY t),.int .i64 p]:=rfl;generalize hkk:vU t=k at *;generalize hvv:pY t=v at *;have HPT:=zA hpt;clear hk hH hF hkk hvv hpt;subst htl;go_wp2_with fail
    refine(XV _ false (HQ.out _) _).mono ?_;rintro e w' ⟨rfl,hw⟩;obtain rfl:=hw.symm;go_wp2_with fail
    refine(HTk.out _).mono ?_;rintro e w2 ⟨rfl,hb2⟩;have zIB:=Cc zI8 hb2;have hbel2:=zIS.trans (hb2.mono zJ6);have HG:=zA (zQ zI8);have hsz2:=hb2.size;clear zI8 zIS hb2 HQ HTk;unfold qP
    go_wp2_with (at_builtin;refine wpList_append_own _ rfl _ _ 225 rfl B 237 i0 _ 4 40 Tryz.underlying225 hi0 hz0 hz1 hz2 rfl (by decide) _ _ _ rfl ((zIB.alloc _).alloc _) ⟨w2.heap.size+1,0,none⟩ 1 1 (zCD (p,t)) rfl rfl ?c1 ?c2 ?c3 ?c4 ?c5 ?_)
    case c1=>rw[HPT.out];exact uT _ _ _ _ rfl (by simp)
    case c2=>rw[HPT.out];intro u hu;simp at hu;rcases hu with rfl|rfl|rfl|rfl <;> rfl
    case c3=>unfold maxLen;omega
    case c4=>omega
    case c5=>simp;omega
    intro v' w3 zID zI7 _
    have zIR:w3.cell? ⟨w2.heap.size,1,none⟩=some (.string ⟨t.toArray⟩):=by
     rw[zI7.cell_far ⟨w2.heap.size,1,none⟩ (by simp;omega) (by
      intro h;have h2:=(HG.out w2.heap.size h.symm).2;omega)]
     simp[World.cell?_alloc_past]
    have hbel3:Below B w w3:=((hbel2.alloc (by omega) _).alloc (by simp;omega) _).grown zI7 (by simp;omega) (fun k hk=>(HG.out k hk).1);clear zIB hbel2 zI7 HG
    go_wp2
    go_roundw
    case rel=>exact⟨p+t.length,ts++[(p,t)],by omega,by go_num,by rw[CN];simpa using zID,hbel3,HF.out⟩
    case measure=>simp[intOf];omega
  ·have HF:Hid (ts=yR l 0):=by have:=hH.out;rw[Xm zI6,ce]at this;exact this
   clear hH
   go_wp2_with (at_builtin;refine wpList_append_own _ rfl _ _ 225 rfl B 237 i0 _ 4 40 Tryz.underlying225 hi0 hz0 hz1 hz2 rfl (by decide) _ _ _ rfl (zI8.alloc _) ⟨wr.heap.size,0,none⟩ 1 1 (KD l.length) rfl rfl ?c1 ?c2 ?c3 ?c4 ?c5 ?_)
   case c1=>exact zZ _ _ _ _ rfl
   case c2=>intro u hu;simp[KD]at hu;rcases hu with rfl|rfl|rfl|rfl <;> rfl
   case c3=>unfold maxLen;omega
   case c4=>omega
   case c5=>simp;omega
   intro v' w3 zID zI7 _;have hbel3:Below B w w3:=(zIS.alloc zJ6 _).grown zI7 (by simp;omega) (QF zI8);clear zI8 zIS zI7
   go_wp2
   go_ret
   exact⟨_,rfl,by rw[<-HF.out];exact zID,hbel3⟩
end Go.Proofs.YtnbpdffdnphbeaaGreatDoor
