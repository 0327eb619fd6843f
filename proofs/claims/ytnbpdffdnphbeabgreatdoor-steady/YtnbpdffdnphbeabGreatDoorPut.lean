import Derived.Test.YtnbpdffdnphbeabGreatDoorMono
import Derived.Lib.AppendStr
import Derived.Test.YtnbpdffdnphbeabGreatDoorItoa
import Derived.WalkSmall
open Go.Proofs.Tryz
set_option maxHeartbeats 1000000
namespace Go.Proofs.YtnbpdffdnphbeabGreatDoor
open Go.RowKit
variable{il:Bool}{l:Bs}{S:List yT}{gS gl:Nat}{v ov:Value}{w':World}
def bC(l:Bs):List Value:=l.map λb=>Value.int .u8 b.toNat
theorem aX(a b:Bs):bC (a++b)=bC a++bC b:=by simp[bC]
theorem Ly(a:Bs):(bC a).length=a.length:=by simp[bC]
def oY(ov:Value)(il:Bool):Obj:=.cells #[ov,.bool il] 195 (0,0)
def Wr(w:World)(W:Nat)(out:Bs)(il:Bool):Prop :=
 ∃ov,w.heap[W]? = some (oY ov il)/\w.ownsRow (W+1) 5 1 ov out.length (bC out)
def LF(x:Obj):Prop:=∀c t fz,x=.cells c t fz->t≠5/\t≠195
theorem zU{c:Array Value}{t:TypeId}{fz:Nat × Nat}(h1:t≠5:=by decide)(h2:t≠195:=by decide):LF (.cells c t fz):=by
 intro c' t' dr h;cases h;exact⟨h1,h2⟩
structure KT(W:Nat)(w w':World):Prop where
 below:Below W w w'
 kept:∀(k:Nat) (x:Obj),w.heap[k]? = some x->LF x->w'.heap[k]? = some x
theorem KT.refl(W:Nat)(w:World):KT W w w:=⟨tl _ _,λ_ _ h _=>h⟩
theorem KT.trans{W:Nat}{a b c:World}(h:KT W a b)(k:KT W b c):KT W a c:=⟨h.below.trans k.below,λi x hx ho=>k.kept i x (h.kept i x hx ho) ho⟩
theorem KT.new{W:Nat}{a w:World}(h:KT W a w)(hW:W<=w.heap.size)(o:Obj):KT W a (w.alloc o) :=
 h.trans ⟨(tl _ _).alloc hW _,λ_ _ hx _=>yD hx⟩
theorem KT.im{W:Nat}{a w:World}(h:KT W a w){o:Nat}{u:Value}(hw:w.heap[W]? = some (oY ov il)):KT W a (w.setCell ⟨W,o,none⟩ u):=by
 refine h.trans ⟨(tl _ _).setCell (p:=⟨W,o,none⟩) (tg _) u,λk x hx ho=>?_⟩
 have dA:k≠W:=by
  intro e;subst e;rw[hw]at hx;cases hx;exact(ho _ _ _ rfl).2 rfl
 exact qU hx dA
theorem KT.grown{W:Nat}{a w:World}{size:Nat}{n:Nat}{xs:List Value}(h:KT W a w)(aN:w.ownsRow (W+1) 5 size v n xs)(hg:w.grownBy w' v.ownBlock)(hW:W<w.heap.size):KT W a w':=by
 refine h.trans ⟨(tl _ _).grown hg (p7 hW) (λk hk=>by have:=(zW aN k hk).1;omega),λk x hx ho=>?_⟩
 have ar:k<w.heap.size:=by
  rcases mc k w.heap.size with h1|h1
  ·exact h1
  ·rw[pw h1]at hx;cases hx
 rw[hg.block k ar ?_];· exact hx
 intro hE;rcases aN.2 with ⟨k1,_⟩|⟨g',dH,dG,k1,_,k3,_⟩
 ·rw[k1]at hE;simp[Value.ownBlock]at hE
 ·rw[k1]at hE
  simp[Value.ownBlock]at hE;subst hE;rw[hx]at k3;cases k3;exact(ho _ _ _ rfl).1 rfl
theorem Wr.lt{w:World}{W:Nat}{out:Bs}(h:Wr w W out il):W<w.heap.size:=by
 obtain⟨nv,h1,_⟩:=h;rcases mc W w.heap.size with h2|h2
 ·exact h2
 ·rw[pw h2]at h1;cases h1
theorem oC{w:World}{W:Nat}(h:w.heap[W]? = some (oY ov il)):(w.setCell ⟨W,0,none⟩ v).heap[W]? = some (oY v il):=by
 unfold oY at h ⊢;rw[p9 w W 0 _ _ _ h];simp
theorem K6{w:World}{W:Nat}{b:Bool}(h:w.heap[W]? = some (oY ov il)):(w.setCell ⟨W,1,none⟩ (.bool b)).heap[W]? = some (oY ov b):=by
 unfold oY at h ⊢;rw[p9 w W 1 _ _ _ h];simp
theorem bU{w:World}{W:Nat}(h:w.heap[W]? = some (oY ov il)):w.cell? ⟨W,0,none⟩=some ov/\w.cell? ⟨W,1,none⟩=some (.bool il)/\(∀o,w.frozen? ⟨W,o,none⟩=false):=by
 unfold oY at h;exact⟨by rw[pq w W 0 _ _ _ h];rfl,by rw[pq w W 1 _ _ _ h];rfl,λo=>by simp[World.frozen?,h]⟩
theorem wZ{w:World}{W:Nat}{x:Obj}{size:Nat}{n:Nat}{xs:List Value}(h:w.heap[W]? = some x)(aN:w.ownsRow (W+1) 5 size v n xs)(hg:w.grownBy w' v.ownBlock)(hW:W<w.heap.size):w'.heap[W]? = some x:=by
 rw[hg.block W hW (λe=>by have:=(zW aN W e.symm).1;omega)];exact h
theorem Qz:(prog.info? 5).map (λi=>(i.zero,i.size,i.bytes))=some (some (.int .u8 0),1,1):=by kernel_rfl
def EL(out:Bs)(il:Bool)(t:Bs):Bs:=(match il with|true=>out++[32]|false=>out)++t
theorem yt(w:World)(W:Nat)(out t:Bs)(h:Wr w W out false)(hn:out.length+t.length<=10000000) :
 Calls prog 121 #[.pointer (some ⟨W,0,none⟩),.string ⟨t.toArray⟩] w λe w'=>e=.returned (.tuple #[])/\Wr w' W (out++t) true/\KT W w w':=by
 obtain⟨i0,ai,hz0,hz1,bY⟩:=du Qz;have hW:=h.lt;obtain⟨ov,hw,aN⟩:=h;obtain⟨c0,c1,fz⟩:=bU hw;obtain⟨oa,on,oc,rfl⟩:=uB aN;have HW:=zA hw;clear hw
 go_enter func121,ntmps121
 go_wp2_with (at_builtin;refine Lib.wpList_append_own_string _ rfl _ _ 118 9 rfl (W+1) 5 i0 underlying118 underlying9 ai hz0 hz1 bY _ _ _ rfl aN ⟨t.toArray⟩ rfl ?c1 ?c2 ?c3 ?_)
 case c1=>show out.length+t.toArray.size<=maxLen;simp[maxLen];omega
 case c2=>show out.length+t.toArray.size<=_;simp;omega
 case c3=>omega
 intro v' w1 ay az _;have ao:=wZ HW.out aN az hW;have aC:Hid (KT W w w1):=(KT.refl W w).grown aN az hW;obtain⟨d0,d1,b9⟩:=bU ao;obtain⟨va,vn,vc,rfl⟩:=uB ay;have a8:=zA ao;have cI:=zA ay;clear ao ay az aN c0 c1 fz;go_wp2_with fail
 go_end0
 refine⟨rfl,⟨_,K6 (oC a8.out),?_⟩,(aC.out.im a8.out).im (oC a8.out)⟩;rw[aX,tm];exact yV (yV cI.out (mh W)) (mh W)
theorem Sc(w:World)(W:Nat)(out t:Bs)(h:Wr w W out true)(hn:out.length+1+t.length<=10000000) :
 Calls prog 121 #[.pointer (some ⟨W,0,none⟩),.string ⟨t.toArray⟩] w λe w'=>e=.returned (.tuple #[])/\Wr w' W (out++[32]++t) true/\KT W w w':=by
 obtain⟨i0,ai,hz0,hz1,bY⟩:=du Qz;have hW:=h.lt;obtain⟨ov,hw,aN⟩:=h;obtain⟨c0,c1,fz⟩:=bU hw;obtain⟨oa,on,oc,rfl⟩:=uB aN;have n0:w.heap.size≠W:=by omega
 have HW:=zA hw;clear hw
 go_enter func121,ntmps121
 go_wp2_with (at_builtin;refine wpList_append_own _ rfl _ _ 118 rfl (W+1) 5 i0 _ 1 1 underlying118 ai hz0 hz1 bY rfl (by decide) _ _ _ rfl (aN.alloc _) ⟨w.heap.size,0,none⟩ 1 1 (bC [32]) rfl rfl ?c1 ?c2 ?c3 ?c4 ?c5 ?_)
 case c1=>exact zM _ _ _ _ rfl
 case c2=>intro u hu;simp[bC]at hu;subst hu;rfl
 case c3=>unfold maxLen;omega
 case c4=>omega
 case c5=>simp;omega
 intro v' w1 ay az _;have ao:=wZ (yD HW.out) (aN.alloc _) az (bN hW);have aC:Hid (KT W w w1):=((KT.refl W w).new (p7 hW) _).grown (aN.alloc _) az (bN hW);obtain⟨d0,d1,b9⟩:=bU ao;obtain⟨va,vn,vc,rfl⟩:=uB ay;have cW:W<w1.heap.size:=tq hW aC.out.below.size
 have aW:(w1.setCell ⟨W,0,none⟩ (.slice va vn vc)).ownsRow (W+1) 5 1 (.slice va vn vc) (out++[32]).length (bC (out++[32])):=by
  rw[aX,tm];exact yV ay (mh W)
 have a8:=zA ao;clear ao ay az aN c0 c1 fz;have hl:(out++[32]).length=out.length+1:=by simp
 go_wp2_with (at_builtin;refine Lib.wpList_append_own_string _ rfl _ _ 118 9 rfl (W+1) 5 i0 underlying118 underlying9 ai hz0 hz1 bY _ _ _ rfl aW ⟨t.toArray⟩ rfl ?d1 ?d2 ?d3 ?_)
 case d1=>show (out++[32]).length+t.toArray.size<=maxLen;simp[maxLen];omega
 case d2=>show (out++[32]).length+t.toArray.size<=_;simp;omega
 case d3=>rw[zL];omega
 intro v2 w2 b1 aq _;have b3:=wZ (oC a8.out) aW aq (zK cW);have aL:Hid (KT W w w2):=(aC.out.im a8.out).grown aW aq (zK cW);obtain⟨e0,e1,dp⟩:=bU b3;obtain⟨xa,xn,xc,rfl⟩:=uB b1;have cE:=zA b3;have dV:=zA b1;clear b3 b1 aq aW d0 d1 b9 a8 aC;go_wp2_with fail
 go_end0
 refine⟨rfl,⟨_,K6 (oC cE.out),?_⟩,(aL.out.im cE.out).im (oC cE.out)⟩;rw[aX,tm,hl];exact yV (yV dV.out (mh W)) (mh W)
theorem Le(w:World)(W:Nat)(out t:Bs)(il:Bool)(h:Wr w W out il)(hn:out.length+1+t.length<=10000000) :
 Calls prog 121 #[.pointer (some ⟨W,0,none⟩),.string ⟨t.toArray⟩] w λe w'=>e=.returned (.tuple #[])/\Wr w' W (EL out il t) true/\KT W w w':=by
 cases il
 ·exact yt w W out t h (by omega)
 ·exact Sc w W out t h hn
theorem qo(w:World)(W:Nat)(out:Bs)(il:Bool)(h:Wr w W out il)(hn:out.length+2<=10000000) :
 Calls prog 125 #[.pointer (some ⟨W,0,none⟩)] w λe w'=>e=.returned (.tuple #[])/\Wr w' W (out++[59,10]) false/\KT W w w':=by
 obtain⟨i0,ai,hz0,hz1,bY⟩:=du Qz;have hW:=h.lt;obtain⟨ov,hw,aN⟩:=h;obtain⟨c0,c1,fz⟩:=bU hw;obtain⟨oa,on,oc,rfl⟩:=uB aN;have n0:w.heap.size≠W:=by omega
 have HW:=zA hw;clear hw
 go_enter func125,ntmps125
 go_wp2_with (at_builtin;refine wpList_append_own _ rfl _ _ 118 rfl (W+1) 5 i0 _ 1 1 underlying118 ai hz0 hz1 bY rfl (by decide) _ _ _ rfl (aN.alloc _) ⟨w.heap.size,0,none⟩ 2 2 (bC [59,10]) rfl rfl ?c1 ?c2 ?c3 ?c4 ?c5 ?_)
 case c1=>exact zM _ _ _ _ rfl
 case c2=>intro u hu;simp[bC]at hu;rcases hu with rfl|rfl <;> rfl
 case c3=>unfold maxLen;omega
 case c4=>omega
 case c5=>simp;omega
 intro v' w1 ay az _;have ao:=wZ (yD HW.out) (aN.alloc _) az (bN hW);have aC:Hid (KT W w w1):=((KT.refl W w).new (p7 hW) _).grown (aN.alloc _) az (bN hW);obtain⟨d0,d1,b9⟩:=bU ao;obtain⟨va,vn,vc,rfl⟩:=uB ay;have a8:=zA ao;have cI:=zA ay;clear ao ay az aN c0 c1 fz;go_wp2_with fail
 go_end0
 refine⟨rfl,⟨_,K6 (oC a8.out),?_⟩,(aC.out.im a8.out).im (oC a8.out)⟩;rw[aX,tm];exact yV (yV cI.out (mh W)) (mh W)
def s9(w:World):Prop:=Lib.TabIs prog w "internal/strconv.uint64pow10" .u64 Lib.pow10Tab
abbrev qX:=Bs × Bool
structure kG(w:World)(W:Nat)(st:qX):Prop where
 wr:Wr w W st.1 st.2
 tab:s9 w
 gl:∃g,prog.globalNamed "internal/strconv.uint64pow10" = some g/\g<W
theorem s9.below{w:World}{W:Nat}(h:s9 w)(hg:∃g,prog.globalNamed "internal/strconv.uint64pow10" = some g/\g<W)(hb:Below W w w'):s9 w':=by
 obtain⟨g,h1,h2⟩:=hg;exact var?_below hb h1 h2 h
theorem kG.step{w:World}{W:Nat}{st b2:qX}(h:kG w W st)(hw:Wr w' W b2.1 b2.2)(hk:KT W w w'):kG w' W b2:=⟨hw,h.tab.below h.gl hk.below,h.gl⟩
theorem Wr.new{w:World}{W:Nat}{out:Bs}(h:Wr w W out il)(o:Obj):Wr (w.alloc o) W out il:=by
 obtain⟨ov,h1,h2⟩:=h;exact⟨ov,yD h1,h2.alloc _⟩
theorem kG.new{w:World}{W:Nat}{st:qX}(h:kG w W st)(o:Obj):kG (w.alloc o) W st :=
 h.step (h.wr.new o) ((KT.refl W w).new (p7 h.wr.lt) o)
theorem Yo{w:World}{k:Nat}{os:Array Obj}{i:Nat}{x:Obj}(h:w.heap[i]? = some x):(Sort.grow (w.drewN k) os).heap[i]? = some x:=by
 have hi:i<w.heap.size:=by
  rcases mc i w.heap.size with h1|h1
  ·exact h1
  ·rw[pw h1]at h;cases h
 have hd:(w.drewN k).heap=w.heap:=by simp
 rw[Sort.heap_grow_old _ _ (by rw[hd];exact hi),hd];exact h
theorem KT.AK{W:Nat}{w:World}(k:Nat)(os:Array Obj)(hW:W<=w.heap.size):KT W w (Sort.grow (w.drewN k) os):=by
 have hd:(w.drewN k).heap=w.heap:=by simp
 refine⟨⟨rfl,by simp[Sort.grow],rfl,by simp[Sort.grow],λi hi=>?_⟩,λi x hx _=>Yo hx⟩;rw[Sort.heap_grow_old _ _ (by rw[hd];omega),hd]
theorem Wr.grow{w:World}{W:Nat}{out:Bs}(h:Wr w W out il)(k:Nat)(os:Array Obj):Wr (Sort.grow (w.drewN k) os) W out il:=by
 obtain⟨ov,h1,h2⟩:=h;refine⟨ov,Yo h1,h2.1,?_⟩;rcases h2.2 with h3|⟨g,cap,c,h4,h5,h6,r⟩
 ·exact .inl h3
 ·exact .inr ⟨g,cap,c,h4,h5,Yo h6,r⟩
def zH(t:Bs)(st:qX):qX:=(EL st.1 st.2 t,true)
def jR(n:Int)(st:qX):qX:=zH (Lib.itoa n) st
theorem K8(t:Bs)(st:qX):st.1.length+t.length<=(zH t st).1.length:=by
 obtain⟨o,il⟩:=st;cases il <;> simp[zH,EL] <;> omega
def tS:Nat:=5000000
theorem vT(w:World)(W:Nat)(st:qX)(t:Bs)(h:kG w W st)(hn:(zH t st).1.length<=tS) :
 Calls prog 121 #[.pointer (some ⟨W,0,none⟩),.string ⟨t.toArray⟩] w λe w'=>e=.returned (.tuple #[])/\kG w' W (zH t st)/\KT W w w':=by
 refine(Le w W st.1 t st.2 h.wr (by have h1:=K8 t st;unfold tS at hn;omega)).mono ?_;rintro e w' ⟨rfl,h1,h2⟩;exact⟨rfl,h.step h1 h2,h2⟩
theorem X2(w:World)(W:Nat)(st:qX)(n:Int)(h:kG w W st)(hn:(jR n st).1.length<=tS)(h0:0<=n)(h1:n<=9999) :
 Calls prog 122 #[.pointer (some ⟨W,0,none⟩),.int .i64 n] w λe w'=>e=.returned (.tuple #[])/\kG w' W (jR n st)/\KT W w w':=by
 have hW:=h.wr.lt;have HS:=zA h;have HI:=zA (eh n (by omega) (by omega) w h.tab);have HN:=zA hn;clear h hn
 go_enter func122,ntmps122
 go_wp2_with fail
 refine HI.out.mono ?_;rintro e w1 ⟨rfl,k,os,ao⟩;have aA:KT W w w1:=by rw[ao];exact KT.AK k os (p7 hW)
 have hs1:kG w1 W st:=HS.out.step (by rw[ao];exact HS.out.wr.grow k os) aA;have aC:=zA aA;have aF:=zA hs1;clear aA hs1 ao HI;go_wp2_with fail
 refine(vT w1 W st (Lib.itoa n) aF.out HN.out).mono ?_;rintro e w2 ⟨rfl,aG,aB⟩;have aM:=zA aG;have aL:Hid (KT W w w2):=aC.out.trans aB;clear aG aB;go_wp2_with fail
 go_end0
 exact⟨rfl,aM.out,aL.out⟩
theorem rz(t:Bs)(st:qX){n:Nat}(h:(zH t st).1.length<=n):st.1.length<=n:=tu (tu (ms _) (K8 t st)) h
theorem Uv(w:World)(W:Nat)(st:qX)(xk xl xr xu:Int)(xn xm xo:Bs)(h:kG w W st)(he:xo.isEmpty=true)(h0:0<=xu)(h1:xu<=9999)(hn:(jR xu st).1.length<=tS) :
 Calls prog 184 #[.pointer (some ⟨W,0,none⟩),.agg #[.int .i64 xk,.int .i64 xl,.int .i64 xr,.string ⟨xn.toArray⟩,.string ⟨xm.toArray⟩,.string ⟨xo.toArray⟩,.int .i64 xu]] w λe w'=>e=.returned (.tuple #[])/\kG w' W (jR xu st)/\KT W w w':=by
 have hW:=h.wr.lt;have aH:=zA h;have HN:=zA hn;clear h hn
 go_enter func184,ntmps184
 go_wp2_with fail
 refine(X2 _ W st xu (kG.new aH.out _) HN.out h0 h1).mono ?_;rintro e w1 ⟨rfl,hs1,aA⟩;have aF:=zA hs1;have aC:Hid (KT W w w1):=(KT.trans ((KT.refl W w).new (p7 hW) _) aA);have aD:w1.heap[w.heap.size]? = some (.cells #[.int .i64 xk,.int .i64 xl,.int .i64 xr,.string ⟨xn.toArray⟩,.string ⟨xm.toArray⟩,.string ⟨xo.toArray⟩,.int .i64 xu] 238 (0,0)):=aA.kept _ _ (zF _ _) (zU);have aP:=λj=>pq _ _ j _ _ _ aD;clear hs1 aA;go_wp2_with fail
 first|go_end0|((try simp only[Exit.inBlock,Exit.then]);refine pe (oe rfl _ _ _) rfl ?_)
 exact⟨rfl,aF.out,aC.out⟩
theorem KV(w:World)(W:Nat)(st:qX)(xk xl xr xu:Int)(xn xm xo:Bs)(h:kG w W st)(he:xo.isEmpty=false)(hn:(zH xo st).1.length<=tS) :
 Calls prog 184 #[.pointer (some ⟨W,0,none⟩),.agg #[.int .i64 xk,.int .i64 xl,.int .i64 xr,.string ⟨xn.toArray⟩,.string ⟨xm.toArray⟩,.string ⟨xo.toArray⟩,.int .i64 xu]] w λe w'=>e=.returned (.tuple #[])/\kG w' W (zH xo st)/\KT W w w':=by
 have hW:=h.wr.lt;have aH:=zA h;have HN:=zA hn;clear h hn
 go_enter func184,ntmps184
 go_wp2_with fail
 refine(vT _ W st xo (kG.new aH.out _) HN.out).mono ?_;rintro e w1 ⟨rfl,hs1,aA⟩;have aF:=zA hs1;have aC:Hid (KT W w w1):=(KT.trans ((KT.refl W w).new (p7 hW) _) aA);have aD:w1.heap[w.heap.size]? = some (.cells #[.int .i64 xk,.int .i64 xl,.int .i64 xr,.string ⟨xn.toArray⟩,.string ⟨xm.toArray⟩,.string ⟨xo.toArray⟩,.int .i64 xu] 238 (0,0)):=aA.kept _ _ (zF _ _) (zU);have aP:=λj=>pq _ _ j _ _ _ aD;clear hs1 aA;go_wp2_with fail
 first|go_end0|((try simp only[Exit.inBlock,Exit.then]);refine pe (oe rfl _ _ _) rfl ?_)
 exact⟨rfl,aF.out,aC.out⟩
theorem PV(w:World)(W:Nat)(st:qX)(xk xl xr xu:Int)(xn xm xo:Bs)(h:kG w W st)(hk:xk=4)(hn:(zH [97,108,119,97,121,115] st).1.length<=tS) :
 Calls prog 162 #[.pointer (some ⟨W,0,none⟩),.agg #[.int .i64 xk,.int .i64 xl,.int .i64 xr,.string ⟨xn.toArray⟩,.string ⟨xm.toArray⟩,.string ⟨xo.toArray⟩,.int .i64 xu]] w λe w'=>e=.returned (.tuple #[])/\kG w' W (zH [97,108,119,97,121,115] st)/\KT W w w':=by
 have hW:=h.wr.lt;have aH:=zA h;have HN:=zA hn;clear h hn;subst hk
 go_enter func162,ntmps162
 go_wp2_with fail
 refine(vT _ W st [97,108,119,97,121,115] (kG.new aH.out _) HN.out).mono ?_;rintro e w1 ⟨rfl,hs1,aA⟩;have aF:=zA hs1;have aC:Hid (KT W w w1):=(KT.trans ((KT.refl W w).new (p7 hW) _) aA);have aD:w1.heap[w.heap.size]? = some (.cells #[.int .i64 4,.int .i64 xl,.int .i64 xr,.string ⟨xn.toArray⟩,.string ⟨xm.toArray⟩,.string ⟨xo.toArray⟩,.int .i64 xu] 238 (0,0)):=aA.kept _ _ (zF _ _) (zU);have aP:=λj=>pq _ _ j _ _ _ aD;clear hs1 aA;go_wp2_with fail
 first|go_end0|((try simp only[Exit.inBlock,Exit.then]);refine pe (oe rfl _ _ _) rfl ?_)
 exact⟨rfl,aF.out,aC.out⟩
theorem PW(w:World)(W:Nat)(st:qX)(xk xl xr xu:Int)(xn xm xo:Bs)(h:kG w W st)(hk:xk=5)(hn:(zH xn (zH [104,97,115] st)).1.length<=tS) :
 Calls prog 162 #[.pointer (some ⟨W,0,none⟩),.agg #[.int .i64 xk,.int .i64 xl,.int .i64 xr,.string ⟨xn.toArray⟩,.string ⟨xm.toArray⟩,.string ⟨xo.toArray⟩,.int .i64 xu]] w λe w'=>e=.returned (.tuple #[])/\kG w' W (zH xn (zH [104,97,115] st))/\KT W w w':=by
 have hW:=h.wr.lt;have aH:=zA h;have HN:=zA hn;clear h hn;subst hk
 go_enter func162,ntmps162
 go_wp2_with fail
 refine(vT _ W st [104,97,115] (kG.new aH.out _) (rz _ _ HN.out)).mono ?_;rintro e w1 ⟨rfl,hs1,aA⟩;have aF:=zA hs1;have aC:Hid (KT W w w1):=(KT.trans ((KT.refl W w).new (p7 hW) _) aA);have aD:w1.heap[w.heap.size]? = some (.cells #[.int .i64 5,.int .i64 xl,.int .i64 xr,.string ⟨xn.toArray⟩,.string ⟨xm.toArray⟩,.string ⟨xo.toArray⟩,.int .i64 xu] 238 (0,0)):=aA.kept _ _ (zF _ _) (zU);have aP:=λj=>pq _ _ j _ _ _ aD;clear hs1 aA;go_wp2_with fail
 refine(vT _ W (zH [104,97,115] st) xn aF.out HN.out).mono ?_;rintro e w2 ⟨rfl,aG,aB⟩;have aM:=zA aG;have aL:Hid (KT W w w2):=(KT.trans aC.out aB);have aJ:w2.heap[w.heap.size]? = some (.cells #[.int .i64 5,.int .i64 xl,.int .i64 xr,.string ⟨xn.toArray⟩,.string ⟨xm.toArray⟩,.string ⟨xo.toArray⟩,.int .i64 xu] 238 (0,0)):=aB.kept _ _ aD (zU);have aZ:=λj=>pq _ _ j _ _ _ aJ;clear aP aD;clear aG aB;go_wp2_with fail
 first|go_end0|((try simp only[Exit.inBlock,Exit.then]);refine pe (oe rfl _ _ _) rfl ?_)
 exact⟨rfl,aM.out,aL.out⟩
theorem PX(w:World)(W:Nat)(st:qX)(xk xl xr xu:Int)(xn xm xo:Bs)(h:kG w W st)(hk:xk=6)(hn:(zH xn st).1.length<=tS) :
 Calls prog 162 #[.pointer (some ⟨W,0,none⟩),.agg #[.int .i64 xk,.int .i64 xl,.int .i64 xr,.string ⟨xn.toArray⟩,.string ⟨xm.toArray⟩,.string ⟨xo.toArray⟩,.int .i64 xu]] w λe w'=>e=.returned (.tuple #[])/\kG w' W (zH xn st)/\KT W w w':=by
 have hW:=h.wr.lt;have aH:=zA h;have HN:=zA hn;clear h hn;subst hk
 go_enter func162,ntmps162
 go_wp2_with fail
 refine(vT _ W st xn (kG.new aH.out _) HN.out).mono ?_;rintro e w1 ⟨rfl,hs1,aA⟩;have aF:=zA hs1;have aC:Hid (KT W w w1):=(KT.trans ((KT.refl W w).new (p7 hW) _) aA);have aD:w1.heap[w.heap.size]? = some (.cells #[.int .i64 6,.int .i64 xl,.int .i64 xr,.string ⟨xn.toArray⟩,.string ⟨xm.toArray⟩,.string ⟨xo.toArray⟩,.int .i64 xu] 238 (0,0)):=aA.kept _ _ (zF _ _) (zU);have aP:=λj=>pq _ _ j _ _ _ aD;clear hs1 aA;go_wp2_with fail
 first|go_end0|((try simp only[Exit.inBlock,Exit.then]);refine pe (oe rfl _ _ _) rfl ?_)
 exact⟨rfl,aF.out,aC.out⟩
theorem ju(w:World)(W:Nat)(st:qX)(xk xl xr xu:Int)(xn xm xo:Bs)(h:kG w W st)(hk:xk=7)(he:xo.isEmpty=true)(h0:0<=xu)(h1:xu<=9999)(hn:(jR xu (zH xm (zH xn st))).1.length<=tS) :
 Calls prog 162 #[.pointer (some ⟨W,0,none⟩),.agg #[.int .i64 xk,.int .i64 xl,.int .i64 xr,.string ⟨xn.toArray⟩,.string ⟨xm.toArray⟩,.string ⟨xo.toArray⟩,.int .i64 xu]] w λe w'=>e=.returned (.tuple #[])/\kG w' W (jR xu (zH xm (zH xn st)))/\KT W w w':=by
 have hW:=h.wr.lt;have aH:=zA h;have HN:=zA hn;clear h hn;subst hk
 go_enter func162,ntmps162
 go_wp2_with fail
 refine(vT _ W st xn (kG.new aH.out _) (rz _ _ (rz _ _ HN.out))).mono ?_;rintro e w1 ⟨rfl,hs1,aA⟩;have aF:=zA hs1;have aC:Hid (KT W w w1):=(KT.trans ((KT.refl W w).new (p7 hW) _) aA);have aD:w1.heap[w.heap.size]? = some (.cells #[.int .i64 7,.int .i64 xl,.int .i64 xr,.string ⟨xn.toArray⟩,.string ⟨xm.toArray⟩,.string ⟨xo.toArray⟩,.int .i64 xu] 238 (0,0)):=aA.kept _ _ (zF _ _) (zU);have aP:=λj=>pq _ _ j _ _ _ aD;clear hs1 aA;go_wp2_with fail
 refine(vT _ W (zH xn st) xm aF.out (rz _ _ HN.out)).mono ?_;rintro e w2 ⟨rfl,aG,aB⟩;have aM:=zA aG;have aL:Hid (KT W w w2):=(KT.trans aC.out aB);have aJ:w2.heap[w.heap.size]? = some (.cells #[.int .i64 7,.int .i64 xl,.int .i64 xr,.string ⟨xn.toArray⟩,.string ⟨xm.toArray⟩,.string ⟨xo.toArray⟩,.int .i64 xu] 238 (0,0)):=aB.kept _ _ aD (zU);have aZ:=λj=>pq _ _ j _ _ _ aJ;clear aP aD;clear aG aB;go_wp2_with fail
 refine(Uv _ W (zH xm (zH xn st)) 7 xl xr xu xn xm xo aM.out he h0 h1 HN.out).mono ?_;rintro e w3 ⟨rfl,aO,aI⟩;have aa:=zA aO;have ah:Hid (KT W w w3):=(KT.trans aL.out aI);have aU:w3.heap[w.heap.size]? = some (.cells #[.int .i64 7,.int .i64 xl,.int .i64 xr,.string ⟨xn.toArray⟩,.string ⟨xm.toArray⟩,.string ⟨xo.toArray⟩,.int .i64 xu] 238 (0,0)):=aI.kept _ _ aJ (zU);have a7:=λj=>pq _ _ j _ _ _ aU;clear aZ aJ;clear aO aI;go_wp2_with fail
 first|go_end0|((try simp only[Exit.inBlock,Exit.then]);refine pe (oe rfl _ _ _) rfl ?_)
 exact⟨rfl,aa.out,ah.out⟩
theorem jt(w:World)(W:Nat)(st:qX)(xk xl xr xu:Int)(xn xm xo:Bs)(h:kG w W st)(hk:xk=7)(he:xo.isEmpty=false)(hn:(zH xo (zH xm (zH xn st))).1.length<=tS) :
 Calls prog 162 #[.pointer (some ⟨W,0,none⟩),.agg #[.int .i64 xk,.int .i64 xl,.int .i64 xr,.string ⟨xn.toArray⟩,.string ⟨xm.toArray⟩,.string ⟨xo.toArray⟩,.int .i64 xu]] w λe w'=>e=.returned (.tuple #[])/\kG w' W (zH xo (zH xm (zH xn st)))/\KT W w w':=by
 have hW:=h.wr.lt;have aH:=zA h;have HN:=zA hn;clear h hn;subst hk
 go_enter func162,ntmps162
 go_wp2_with fail
 refine(vT _ W st xn (kG.new aH.out _) (rz _ _ (rz _ _ HN.out))).mono ?_;rintro e w1 ⟨rfl,hs1,aA⟩;have aF:=zA hs1;have aC:Hid (KT W w w1):=(KT.trans ((KT.refl W w).new (p7 hW) _) aA);have aD:w1.heap[w.heap.size]? = some (.cells #[.int .i64 7,.int .i64 xl,.int .i64 xr,.string ⟨xn.toArray⟩,.string ⟨xm.toArray⟩,.string ⟨xo.toArray⟩,.int .i64 xu] 238 (0,0)):=aA.kept _ _ (zF _ _) (zU);have aP:=λj=>pq _ _ j _ _ _ aD;clear hs1 aA;go_wp2_with fail
 refine(vT _ W (zH xn st) xm aF.out (rz _ _ HN.out)).mono ?_;rintro e w2 ⟨rfl,aG,aB⟩;have aM:=zA aG;have aL:Hid (KT W w w2):=(KT.trans aC.out aB);have aJ:w2.heap[w.heap.size]? = some (.cells #[.int .i64 7,.int .i64 xl,.int .i64 xr,.string ⟨xn.toArray⟩,.string ⟨xm.toArray⟩,.string ⟨xo.toArray⟩,.int .i64 xu] 238 (0,0)):=aB.kept _ _ aD (zU);have aZ:=λj=>pq _ _ j _ _ _ aJ;clear aP aD;clear aG aB;go_wp2_with fail
 refine(KV _ W (zH xm (zH xn st)) 7 xl xr xu xn xm xo aM.out he HN.out).mono ?_;rintro e w3 ⟨rfl,aO,aI⟩;have aa:=zA aO;have ah:Hid (KT W w w3):=(KT.trans aL.out aI);have aU:w3.heap[w.heap.size]? = some (.cells #[.int .i64 7,.int .i64 xl,.int .i64 xr,.string ⟨xn.toArray⟩,.string ⟨xm.toArray⟩,.string ⟨xo.toArray⟩,.int .i64 xu] 238 (0,0)):=aI.kept _ _ aJ (zU);have a7:=λj=>pq _ _ j _ _ _ aU;clear aZ aJ;clear aO aI;go_wp2_with fail
 first|go_end0|((try simp only[Exit.inBlock,Exit.then]);refine pe (oe rfl _ _ _) rfl ?_)
 exact⟨rfl,aa.out,ah.out⟩
def rT(x:zJ)(st:qX):qX :=
 if x.kind=4 then zH [97,108,119,97,121,115] st
 else if x.kind=5 then zH x.name (zH [104,97,115] st)
 else if x.kind=6 then zH x.name st
 else if x.other.isEmpty=true then jR x.num (zH x.mark (zH x.name st))
 else zH x.other (zH x.mark (zH x.name st))
theorem PY(w:World)(W:Nat)(st:qX)(x:zJ)(h:kG w W st)(hk:4<=x.kind/\x.kind<=7)(h0:0<=x.num)(h1:x.num<=9999)(hn:(rT x st).1.length<=tS) :
 Calls prog 162 #[.pointer (some ⟨W,0,none⟩),kI x] w λe w'=>e=.returned (.tuple #[])/\kG w' W (rT x st)/\KT W w w':=by
 obtain⟨xk,xl,xr,xn,xm,xo,xu⟩:=x;simp only[kI,rT]at *;by_cases k4:xk=4
 ·rw[tr k4]at hn ⊢;exact PV w W st xk xl xr xu xn xm xo h k4 hn
 rw[tj k4]at hn ⊢;by_cases k5:xk=5
 ·rw[tr k5]at hn ⊢;exact PW w W st xk xl xr xu xn xm xo h k5 hn
 rw[tj k5]at hn ⊢;by_cases k6:xk=6
 ·rw[tr k6]at hn ⊢;exact PX w W st xk xl xr xu xn xm xo h k6 hn
 rw[tj k6]at hn ⊢;have k7:xk=7:=by omega
 cases he:xo.isEmpty
 ·rw[he]at hn;simp only[Bool.false_eq_true,if_false]at hn ⊢
  exact jt w W st xk xl xr xu xn xm xo h k7 he hn
 ·rw[he]at hn;simp only[dj]at hn ⊢
  exact ju w W st xk xl xr xu xn xm xo h k7 he h0 h1 hn
def nz:zJ:=⟨0,0,0,[],[],[],0⟩
def vY(N:List zJ)(a:Nat):zJ:=N.getD a nz
def Ze(N:List zJ)(f:Nat->qX->qX)(a:Nat)(st:qX):qX:=if (vY N a).kind=1 then zH vF (f a (zH yS st)) else f a st
def Vb(N:List zJ)(f:Nat->qX->qX)(a:Nat)(st:qX):qX:=if (vY N a).kind=1\/(vY N a).kind=2 then zH vF (f a (zH yS st)) else f a st
def vJ(N:List zJ):Nat->Nat->qX->qX
 | 0,_,st=>st
 | n+1,a,st =>
   if (vY N a).kind=1 then vJ N n (vY N a).right.toNat (zH tC (vJ N n (vY N a).left.toNat st))
   else if (vY N a).kind=2 then Ze N (vJ N n) (vY N a).right.toNat (zH xW (Ze N (vJ N n) (vY N a).left.toNat st))
   else if (vY N a).kind=3 then Vb N (vJ N n) (vY N a).left.toNat (zH xE st)
   else rT (vY N a) st
def AE(N:List zJ)(n:Nat)(a:Nat)(st:qX):qX:=zH vF (vJ N n a (zH yS st))
def oZ(N:List zJ)(n:Nat)(a:Nat)(st:qX):qX:=Ze N (vJ N n) a st
def Jr(N:List zJ)(n:Nat)(a:Nat)(st:qX):qX:=Vb N (vJ N n) a st
def qZ(N:List zJ):Prop:=∀a,a<N.length ->
 ((vY N a).kind=1->0<=(vY N a).left/\(vY N a).left<a/\0<=(vY N a).right/\(vY N a).right<a) /\
 ((vY N a).kind=2->0<=(vY N a).left/\(vY N a).left<a/\0<=(vY N a).right/\(vY N a).right<a) /\
 ((vY N a).kind=3->0<=(vY N a).left/\(vY N a).left<a) /\
 (¬(vY N a).kind=1->¬(vY N a).kind=2->¬(vY N a).kind=3->(4<=(vY N a).kind/\(vY N a).kind<=7)/\0<=(vY N a).num/\(vY N a).num<=9999)
theorem qB(t:Bs)(st:qX):st.1.length<=(zH t st).1.length:=tu (ms _) (K8 t st)
theorem TG(x:zJ)(st:qX):st.1.length<=(rT x st).1.length:=by
 unfold rT;split
 ·exact qB _ _
 ·split
  ·exact tu (qB _ _) (qB _ _)
  ·split
   ·exact qB _ _
   ·split
    ·exact tu (qB _ _) (tu (qB _ _) (qB _ _))
    ·exact tu (qB _ _) (tu (qB _ _) (qB _ _))
theorem XM(N:List zJ)(f:Nat->qX->qX)(hf:∀a st,st.1.length<=(f a st).1.length)(a:Nat)(st:qX):st.1.length<=(Ze N f a st).1.length:=by
 unfold Ze;split
 ·exact tu (qB _ _) (tu (hf _ _) (qB _ _))
 ·exact hf _ _
theorem FM(N:List zJ)(f:Nat->qX->qX)(hf:∀a st,st.1.length<=(f a st).1.length)(a:Nat)(st:qX):st.1.length<=(Vb N f a st).1.length:=by
 unfold Vb;split
 ·exact tu (qB _ _) (tu (hf _ _) (qB _ _))
 ·exact hf _ _
theorem nD(N:List zJ)(n:Nat):∀a st,st.1.length<=(vJ N n a st).1.length:=by
 induction n with
 | zero=>intro a st;exact tg _
 | succ n ih =>
   intro a st;rw[vJ];split
   ·exact tu (ih _ _) (tu (qB _ _) (ih _ _))
   ·split
    ·exact tu (XM N _ ih _ _) (tu (qB _ _) (XM N _ ih _ _))
    ·split
     ·exact tu (qB _ _) (FM N _ ih _ _)
     ·exact TG _ _
structure xT(w:World)(gN:Nat)(yB:Array Value)(N:List zJ):Prop where
 blk:w.heap[gN]? = some (.cells yB 238 (0,0))
 row:yB.toList.take (N.length*7)=gF N
theorem xT.kt{w:World}{W gN:Nat}{yB:Array Value}{N:List zJ}(h:xT w gN yB N)(hk:KT W w w'):xT w' gN yB N:=⟨hk.kept _ _ h.blk (zU),h.row⟩
theorem xT.new{w:World}{gN:Nat}{yB:Array Value}{N:List zJ}(h:xT w gN yB N)(o:Obj):xT (w.alloc o) gN yB N:=⟨yD h.blk,h.row⟩
theorem uv(N:List zJ):∀i,i<N.length->∀j,j<7->(gF N)[i*7+j]? = (Qd (vY N i))[j]? := by
 induction N with
 | nil=>intro i h;simp at h
 | cons t r ih =>
   intro i h j hj;have e:gF (t::r)=Qd t++gF r:=by simp[gF]
   have hl:(Qd t).length=7:=rfl
   cases i with
   | zero=>rw[e,mj (by rw[hl];omega)];simp[vY]
   | succ i =>
     rw[e,l8 (by rw[hl];omega),hl,show (i+1)*7+j-7=i*7+j by omega,ih i (by simpa using h) j hj];simp[vY]
theorem xT.cells{w:World}{gN:Nat}{yB:Array Value}{N:List zJ}(h:xT w gN yB N){a:Nat}(ha:a<N.length) :
 w.cell? ⟨gN,a*7,none⟩=some (.int .i64 (vY N a).kind)/\w.cell? ⟨gN,a*7+1,none⟩=some (.int .i64 (vY N a).left)/\w.cell? ⟨gN,a*7+2,none⟩=some (.int .i64 (vY N a).right)/\w.cell? ⟨gN,a*7+3,none⟩=some (.string ⟨(vY N a).name.toArray⟩)/\w.cell? ⟨gN,a*7+4,none⟩=some (.string ⟨(vY N a).mark.toArray⟩)/\w.cell? ⟨gN,a*7+5,none⟩=some (.string ⟨(vY N a).other.toArray⟩)/\w.cell? ⟨gN,a*7+6,none⟩=some (.int .i64 (vY N a).num):=by
 have hg:=λj (hj:j<7)=>uv N a ha j hj;refine⟨xL h.blk h.row (hg 0 (by omega)),xL h.blk h.row (hg 1 (by omega)),xL h.blk h.row (hg 2 (by omega)),xL h.blk h.row (hg 3 (by omega)),xL h.blk h.row (hg 4 (by omega)),xL h.blk h.row (hg 5 (by omega)),xL h.blk h.row (hg 6 (by omega))⟩
def fL(W gN cap:Nat)(yB:Array Value)(N:List zJ)(n:Nat):Prop:=∀(w:World) (st:qX) (a:Nat),kG w W st->xT w gN yB N->a<N.length->a<n->(vJ N n a st).1.length<=tS ->
 Calls prog 124 #[.pointer (some ⟨W,0,none⟩),.slice (some ⟨gN,0,none⟩) N.length cap,.int .i64 (a:Nat)] w λe w'=>e=.returned (.tuple #[])/\kG w' W (vJ N n a st)/\KT W w w'
def Lu(W gN cap:Nat)(yB:Array Value)(N:List zJ)(n:Nat):Prop:=∀(w:World) (st:qX) (a:Nat),kG w W st->xT w gN yB N->a<N.length->a<n->(AE N n a st).1.length<=tS ->
 Calls prog 183 #[.pointer (some ⟨W,0,none⟩),.slice (some ⟨gN,0,none⟩) N.length cap,.int .i64 (a:Nat)] w λe w'=>e=.returned (.tuple #[])/\kG w' W (AE N n a st)/\KT W w w'
def Pc(W gN cap:Nat)(yB:Array Value)(N:List zJ)(n:Nat):Prop:=∀(w:World) (st:qX) (a:Nat),kG w W st->xT w gN yB N->a<N.length->a<n->(oZ N n a st).1.length<=tS ->
 Calls prog 160 #[.pointer (some ⟨W,0,none⟩),.slice (some ⟨gN,0,none⟩) N.length cap,.int .i64 (a:Nat)] w λe w'=>e=.returned (.tuple #[])/\kG w' W (oZ N n a st)/\KT W w w'
def NK(W gN cap:Nat)(yB:Array Value)(N:List zJ)(n:Nat):Prop:=∀(w:World) (st:qX) (a:Nat),kG w W st->xT w gN yB N->a<N.length->a<n->(Jr N n a st).1.length<=tS ->
 Calls prog 161 #[.pointer (some ⟨W,0,none⟩),.slice (some ⟨gN,0,none⟩) N.length cap,.int .i64 (a:Nat)] w λe w'=>e=.returned (.tuple #[])/\kG w' W (Jr N n a st)/\KT W w w'
theorem Hz(W gN cap:Nat)(yB:Array Value)(N:List zJ)(n:Nat)(aV:fL W gN cap yB N n):Lu W gN cap yB N n:=by
 intro w st a h aK ha hn hl;have hW:=h.wr.lt;have aH:=zA h;have aT:=zA aK;have bP:=zA aV;have af:=zA hl;have b5:(vJ N n a (zH yS st)).1.length<=tS:=tu (qB vF _) hl;have ag:=zA b5;have aj:=zA (tu (nD N n a (zH yS st)) b5);clear h aK aV hl b5
 go_enter func183,ntmps183
 go_wp2_with fail
 refine(vT _ W st yS aH.out aj.out).mono ?_;rintro e w1 ⟨rfl,hs1,aA⟩;have aF:=zA hs1;have aC:Hid (KT W w w1):=aA;have aS:Hid (xT w1 gN yB N):=xT.kt aT.out aA;clear hs1 aA;go_wp2_with fail
 refine(bP.out _ (zH yS st) a aF.out aS.out ha hn ag.out).mono ?_;rintro e w2 ⟨rfl,aG,aB⟩;have aM:=zA aG;have aL:Hid (KT W w w2):=(KT.trans aC.out aB);have aw:Hid (xT w2 gN yB N):=xT.kt aS.out aB;clear aG aB;go_wp2_with fail
 refine(vT _ W (vJ N n a (zH yS st)) vF aM.out af.out).mono ?_;rintro e w3 ⟨rfl,aO,aI⟩;have aa:=zA aO;have ah:Hid (KT W w w3):=(KT.trans aL.out aI);have bz:Hid (xT w3 gN yB N):=xT.kt aw.out aI;clear aO aI;go_wp2_with fail
 first|go_end0|((try simp only[Exit.inBlock,Exit.then]);refine pe (oe rfl _ _ _) rfl ?_)
 exact⟨rfl,aa.out,ah.out⟩
theorem Mq(W gN cap:Nat)(yB:Array Value)(N:List zJ)(n:Nat)(aV:fL W gN cap yB N n):Pc W gN cap yB N n:=by
 intro w st a h aK ha hn hl;have hW:=h.wr.lt;have hc:=(aK.cells ha).1;have aH:=zA h;have aT:=zA aK;have bP:=zA aV;have bR:=zA (Hz W gN cap yB N n aV);have i1:(0:Int)<=(a:Int):=by omega
 have i2:(a:Int)<(N.length:Int):=by omega
 by_cases k1:(vY N a).kind=1
 ·have hP:oZ N n a st=AE N n a st:=by unfold oZ Ze AE;rw[tr k1]
  have HP:=zA hP;have HL:=zA (hP ▸ hl);rw[k1]at hc;clear h aK aV hl hP k1
  go_enter func160,ntmps160
  go_wp2_with fail
  refine(bR.out _ st a aH.out aT.out ha hn HL.out).mono ?_;rintro e w1 ⟨rfl,hs1,aA⟩;have aF:=zA hs1;have aC:Hid (KT W w w1):=aA;have aS:Hid (xT w1 gN yB N):=xT.kt aT.out aA;clear hs1 aA;go_wp2_with fail
  first|go_end0|((try simp only[Exit.inBlock,Exit.then]);refine pe (oe rfl _ _ _) rfl ?_)
  rw[HP.out];exact⟨rfl,aF.out,aC.out⟩
 ·have hP:oZ N n a st=vJ N n a st:=by unfold oZ Ze;rw[tj k1]
  have HP:=zA hP;have HL:=zA (hP ▸ hl);have e1:((vY N a).kind==1)=false:=by simpa using k1
  clear h aK aV hl hP k1
  go_enter func160,ntmps160
  go_wp2_with fail
  refine(bP.out _ st a aH.out aT.out ha hn HL.out).mono ?_;rintro e w1 ⟨rfl,hs1,aA⟩;have aF:=zA hs1;have aC:Hid (KT W w w1):=aA;have aS:Hid (xT w1 gN yB N):=xT.kt aT.out aA;clear hs1 aA;go_wp2_with fail
  first|go_end0|((try simp only[Exit.inBlock,Exit.then]);refine pe (oe rfl _ _ _) rfl ?_)
  rw[HP.out];exact⟨rfl,aF.out,aC.out⟩
theorem Ld(W gN cap:Nat)(yB:Array Value)(N:List zJ)(n:Nat)(aV:fL W gN cap yB N n):NK W gN cap yB N n:=by
 intro w st a h aK ha hn hl;have hW:=h.wr.lt;have hc:=(aK.cells ha).1;have aH:=zA h;have aT:=zA aK;have bP:=zA aV;have bR:=zA (Hz W gN cap yB N n aV);have i1:(0:Int)<=(a:Int):=by omega
 have i2:(a:Int)<(N.length:Int):=by omega
 by_cases k1:(vY N a).kind=1
 ·have hP:Jr N n a st=AE N n a st:=by unfold Jr Vb AE;rw[tr (.inl k1)]
  have HP:=zA hP;have HL:=zA (hP ▸ hl);rw[k1]at hc;clear h aK aV hl hP k1
  go_enter func161,ntmps161
  go_wp2_with fail
  refine(bR.out _ st a aH.out aT.out ha hn HL.out).mono ?_;rintro e w1 ⟨rfl,hs1,aA⟩;have aF:=zA hs1;have aC:Hid (KT W w w1):=aA;have aS:Hid (xT w1 gN yB N):=xT.kt aT.out aA;clear hs1 aA;go_wp2_with fail
  first|go_end0|((try simp only[Exit.inBlock,Exit.then]);refine pe (oe rfl _ _ _) rfl ?_)
  rw[HP.out];exact⟨rfl,aF.out,aC.out⟩
 have e1:((vY N a).kind==1)=false:=by simpa using k1
 by_cases k2:(vY N a).kind=2
 ·have hP:Jr N n a st=AE N n a st:=by unfold Jr Vb AE;rw[tr (.inr k2)]
  have HP:=zA hP;have HL:=zA (hP ▸ hl);rw[k2]at hc;clear h aK aV hl hP k1 k2 e1
  go_enter func161,ntmps161
  go_wp2_with fail
  refine(bR.out _ st a aH.out aT.out ha hn HL.out).mono ?_;rintro e w1 ⟨rfl,hs1,aA⟩;have aF:=zA hs1;have aC:Hid (KT W w w1):=aA;have aS:Hid (xT w1 gN yB N):=xT.kt aT.out aA;clear hs1 aA;go_wp2_with fail
  first|go_end0|((try simp only[Exit.inBlock,Exit.then]);refine pe (oe rfl _ _ _) rfl ?_)
  rw[HP.out];exact⟨rfl,aF.out,aC.out⟩
 ·have hP:Jr N n a st=vJ N n a st:=by unfold Jr Vb;rw[i6]
  have HP:=zA hP;have HL:=zA (hP ▸ hl);have e2:((vY N a).kind==2)=false:=by simpa using k2
  clear h aK aV hl hP k1 k2
  go_enter func161,ntmps161
  go_wp2_with fail
  refine(bP.out _ st a aH.out aT.out ha hn HL.out).mono ?_;rintro e w1 ⟨rfl,hs1,aA⟩;have aF:=zA hs1;have aC:Hid (KT W w w1):=aA;have aS:Hid (xT w1 gN yB N):=xT.kt aT.out aA;clear hs1 aA;go_wp2_with fail
  first|go_end0|((try simp only[Exit.inBlock,Exit.then]);refine pe (oe rfl _ _ _) rfl ?_)
  rw[HP.out];exact⟨rfl,aF.out,aC.out⟩
theorem xT.lt{w:World}{gN:Nat}{yB:Array Value}{N:List zJ}(h:xT w gN yB N):gN<w.heap.size:=by
 rcases mc gN w.heap.size with h1|h1
 ·exact h1
 ·have h2:=h.blk;rw[pw h1]at h2;cases h2
theorem OS(W gN cap:Nat)(yB:Array Value)(N:List zJ)(n:Nat)(w:World)(st:qX)(a:Nat)(h:kG w W st)(aK:xT w gN yB N)(ha:a<N.length)(hn:a<n+1)(aV:fL W gN cap yB N n)(aA:(vY N a).kind=1)(hch:0<=(vY N a).left/\(vY N a).left<a/\0<=(vY N a).right/\(vY N a).right<a)(hl:(vJ N (n+1) a st).1.length<=tS) :
 Calls prog 124 #[.pointer (some ⟨W,0,none⟩),.slice (some ⟨gN,0,none⟩) N.length cap,.int .i64 (a:Nat)] w λe w'=>e=.returned (.tuple #[])/\kG w' W (vJ N (n+1) a st)/\KT W w w':=by
 have hW:=h.wr.lt;obtain⟨c0,c1,c2,c3,c4,c5,c6⟩:=aK.cells ha;have ar:=aK.lt;have n0:w.heap.size≠gN:=by omega
 have aH:=zA h;have aT:=zA aK;have i1:(0:Int)<=(a:Int):=by omega
 have i2:(a:Int)<(N.length:Int):=by omega
 generalize hx:vY N a=x at *;obtain⟨xk,xl,xr,xn,xm,xo,xu⟩:=x;simp only at c0 c1 c2 c3 c4 c5 c6 aA hch;subst aA;obtain⟨h1,h2,h3,h4⟩:=hch;obtain⟨l,rfl⟩:=mz h1;obtain⟨r,rfl⟩:=mz h3;have hP:vJ N (n+1) a st=vJ N n r (zH tC (vJ N n l st)):=by rw[vJ,hx];simp only[dj,fm]
 have HP:=zA hP;rw[hP]at hl;have af:=zA hl;have ag:=zA (tu (nD N n r _) hl);have aj:=zA (tu (qB tC (vJ N n l st)) ag.out);have bP:=zA aV;clear h aK aV hl hP hx
 go_enter func124,ntmps124
 go_wp2_with fail
 refine(bP.out _ st l (kG.new aH.out _) (xT.new aT.out _) (by omega) (by omega) aj.out).mono ?_;rintro e w1 ⟨rfl,hs1,aA⟩;have aF:=zA hs1;have aC:Hid (KT W w w1):=(KT.trans ((KT.refl W w).new (p7 hW) _) aA);have aD:w1.heap[w.heap.size]? = some (.cells #[.int .i64 1,.int .i64 (l:Nat),.int .i64 (r:Nat),.string ⟨xn.toArray⟩,.string ⟨xm.toArray⟩,.string ⟨xo.toArray⟩,.int .i64 xu] 238 (0,0)):=aA.kept _ _ (zF _ _) (zU);have aP:=λj=>pq _ _ j _ _ _ aD;have aS:Hid (xT w1 gN yB N):=xT.kt (xT.new aT.out _) aA;clear hs1 aA;go_wp2_with fail
 refine(vT _ W (vJ N n l st) tC aF.out ag.out).mono ?_;rintro e w2 ⟨rfl,aG,aB⟩;have aM:=zA aG;have aL:Hid (KT W w w2):=(KT.trans aC.out aB);have aJ:w2.heap[w.heap.size]? = some (.cells #[.int .i64 1,.int .i64 (l:Nat),.int .i64 (r:Nat),.string ⟨xn.toArray⟩,.string ⟨xm.toArray⟩,.string ⟨xo.toArray⟩,.int .i64 xu] 238 (0,0)):=aB.kept _ _ aD (zU);have aZ:=λj=>pq _ _ j _ _ _ aJ;clear aP aD;have aw:Hid (xT w2 gN yB N):=xT.kt aS.out aB;clear aG aB;go_wp2_with fail
 refine(bP.out _ (zH tC (vJ N n l st)) r aM.out aw.out (by omega) (by omega) af.out).mono ?_;rintro e w3 ⟨rfl,aO,aI⟩;have aa:=zA aO;have ah:Hid (KT W w w3):=(KT.trans aL.out aI);have aU:w3.heap[w.heap.size]? = some (.cells #[.int .i64 1,.int .i64 (l:Nat),.int .i64 (r:Nat),.string ⟨xn.toArray⟩,.string ⟨xm.toArray⟩,.string ⟨xo.toArray⟩,.int .i64 xu] 238 (0,0)):=aI.kept _ _ aJ (zU);have a7:=λj=>pq _ _ j _ _ _ aU;clear aZ aJ;have bz:Hid (xT w3 gN yB N):=xT.kt aw.out aI;clear aO aI;go_wp2_with fail
 first|go_end0|((try simp only[Exit.inBlock,Exit.then]);refine pe (oe rfl _ _ _) rfl ?_)
 rw[HP.out];exact⟨rfl,aa.out,ah.out⟩
theorem SJ(W gN cap:Nat)(yB:Array Value)(N:List zJ)(n:Nat)(w:World)(st:qX)(a:Nat)(h:kG w W st)(aK:xT w gN yB N)(ha:a<N.length)(hn:a<n+1)(aV:fL W gN cap yB N n)(aA:(vY N a).kind=2)(hch:0<=(vY N a).left/\(vY N a).left<a/\0<=(vY N a).right/\(vY N a).right<a)(hl:(vJ N (n+1) a st).1.length<=tS) :
 Calls prog 124 #[.pointer (some ⟨W,0,none⟩),.slice (some ⟨gN,0,none⟩) N.length cap,.int .i64 (a:Nat)] w λe w'=>e=.returned (.tuple #[])/\kG w' W (vJ N (n+1) a st)/\KT W w w':=by
 have hW:=h.wr.lt;obtain⟨c0,c1,c2,c3,c4,c5,c6⟩:=aK.cells ha;have ar:=aK.lt;have n0:w.heap.size≠gN:=by omega
 have aH:=zA h;have aT:=zA aK;have i1:(0:Int)<=(a:Int):=by omega
 have i2:(a:Int)<(N.length:Int):=by omega
 generalize hx:vY N a=x at *;obtain⟨xk,xl,xr,xn,xm,xo,xu⟩:=x;simp only at c0 c1 c2 c3 c4 c5 c6 aA hch;subst aA;obtain⟨h1,h2,h3,h4⟩:=hch;obtain⟨l,rfl⟩:=mz h1;obtain⟨r,rfl⟩:=mz h3;have hP:vJ N (n+1) a st=oZ N n r (zH xW (oZ N n l st)):=by rw[vJ,hx];simp only[dj,fm,oZ];rfl
 have HP:=zA hP;rw[hP]at hl;have af:=zA hl;have ag:=zA (tu (XM N _ (nD N n) r _) hl);have aj:=zA (tu (qB xW (oZ N n l st)) ag.out);have cd:=zA (Mq W gN cap yB N n aV);clear h aK aV hl hP hx
 go_enter func124,ntmps124
 go_wp2_with fail
 refine(cd.out _ st l (kG.new aH.out _) (xT.new aT.out _) (by omega) (by omega) aj.out).mono ?_;rintro e w1 ⟨rfl,hs1,aA⟩;have aF:=zA hs1;have aC:Hid (KT W w w1):=(KT.trans ((KT.refl W w).new (p7 hW) _) aA);have aD:w1.heap[w.heap.size]? = some (.cells #[.int .i64 2,.int .i64 (l:Nat),.int .i64 (r:Nat),.string ⟨xn.toArray⟩,.string ⟨xm.toArray⟩,.string ⟨xo.toArray⟩,.int .i64 xu] 238 (0,0)):=aA.kept _ _ (zF _ _) (zU);have aP:=λj=>pq _ _ j _ _ _ aD;have aS:Hid (xT w1 gN yB N):=xT.kt (xT.new aT.out _) aA;clear hs1 aA;go_wp2_with fail
 refine(vT _ W (oZ N n l st) xW aF.out ag.out).mono ?_;rintro e w2 ⟨rfl,aG,aB⟩;have aM:=zA aG;have aL:Hid (KT W w w2):=(KT.trans aC.out aB);have aJ:w2.heap[w.heap.size]? = some (.cells #[.int .i64 2,.int .i64 (l:Nat),.int .i64 (r:Nat),.string ⟨xn.toArray⟩,.string ⟨xm.toArray⟩,.string ⟨xo.toArray⟩,.int .i64 xu] 238 (0,0)):=aB.kept _ _ aD (zU);have aZ:=λj=>pq _ _ j _ _ _ aJ;clear aP aD;have aw:Hid (xT w2 gN yB N):=xT.kt aS.out aB;clear aG aB;go_wp2_with fail
 refine(cd.out _ (zH xW (oZ N n l st)) r aM.out aw.out (by omega) (by omega) af.out).mono ?_;rintro e w3 ⟨rfl,aO,aI⟩;have aa:=zA aO;have ah:Hid (KT W w w3):=(KT.trans aL.out aI);have aU:w3.heap[w.heap.size]? = some (.cells #[.int .i64 2,.int .i64 (l:Nat),.int .i64 (r:Nat),.string ⟨xn.toArray⟩,.string ⟨xm.toArray⟩,.string ⟨xo.toArray⟩,.int .i64 xu] 238 (0,0)):=aI.kept _ _ aJ (zU);have a7:=λj=>pq _ _ j _ _ _ aU;clear aZ aJ;have bz:Hid (xT w3 gN yB N):=xT.kt aw.out aI;clear aO aI;go_wp2_with fail
 first|go_end0|((try simp only[Exit.inBlock,Exit.then]);refine pe (oe rfl _ _ _) rfl ?_)
 rw[HP.out];exact⟨rfl,aa.out,ah.out⟩
theorem SL(W gN cap:Nat)(yB:Array Value)(N:List zJ)(n:Nat)(w:World)(st:qX)(a:Nat)(h:kG w W st)(aK:xT w gN yB N)(ha:a<N.length)(hn:a<n+1)(aV:fL W gN cap yB N n)(aA:(vY N a).kind=3)(hch:0<=(vY N a).left/\(vY N a).left<a)(hl:(vJ N (n+1) a st).1.length<=tS) :
 Calls prog 124 #[.pointer (some ⟨W,0,none⟩),.slice (some ⟨gN,0,none⟩) N.length cap,.int .i64 (a:Nat)] w λe w'=>e=.returned (.tuple #[])/\kG w' W (vJ N (n+1) a st)/\KT W w w':=by
 have hW:=h.wr.lt;obtain⟨c0,c1,c2,c3,c4,c5,c6⟩:=aK.cells ha;have ar:=aK.lt;have n0:w.heap.size≠gN:=by omega
 have aH:=zA h;have aT:=zA aK;have i1:(0:Int)<=(a:Int):=by omega
 have i2:(a:Int)<(N.length:Int):=by omega
 generalize hx:vY N a=x at *;obtain⟨xk,xl,xr,xn,xm,xo,xu⟩:=x;simp only at c0 c1 c2 c3 c4 c5 c6 aA hch;subst aA;obtain⟨h1,h2⟩:=hch;obtain⟨l,rfl⟩:=mz h1;have hP:vJ N (n+1) a st=Jr N n l (zH xE st):=by rw[vJ,hx];simp only[dj,fm,Jr];rfl
 have HP:=zA hP;rw[hP]at hl;have af:=zA hl;have aj:=zA (tu (FM N _ (nD N n) l _) hl);have zO1:=zA (Ld W gN cap yB N n aV);clear h aK aV hl hP hx
 go_enter func124,ntmps124
 go_wp2_with fail
 refine(vT _ W st xE (kG.new aH.out _) aj.out).mono ?_;rintro e w1 ⟨rfl,hs1,aA⟩;have aF:=zA hs1;have aC:Hid (KT W w w1):=(KT.trans ((KT.refl W w).new (p7 hW) _) aA);have aD:w1.heap[w.heap.size]? = some (.cells #[.int .i64 3,.int .i64 (l:Nat),.int .i64 xr,.string ⟨xn.toArray⟩,.string ⟨xm.toArray⟩,.string ⟨xo.toArray⟩,.int .i64 xu] 238 (0,0)):=aA.kept _ _ (zF _ _) (zU);have aP:=λj=>pq _ _ j _ _ _ aD;have aS:Hid (xT w1 gN yB N):=xT.kt (xT.new aT.out _) aA;clear hs1 aA;go_wp2_with fail
 refine(zO1.out _ (zH xE st) l aF.out aS.out (by omega) (by omega) af.out).mono ?_;rintro e w2 ⟨rfl,aG,aB⟩;have aM:=zA aG;have aL:Hid (KT W w w2):=(KT.trans aC.out aB);have aJ:w2.heap[w.heap.size]? = some (.cells #[.int .i64 3,.int .i64 (l:Nat),.int .i64 xr,.string ⟨xn.toArray⟩,.string ⟨xm.toArray⟩,.string ⟨xo.toArray⟩,.int .i64 xu] 238 (0,0)):=aB.kept _ _ aD (zU);have aZ:=λj=>pq _ _ j _ _ _ aJ;clear aP aD;have aw:Hid (xT w2 gN yB N):=xT.kt aS.out aB;clear aG aB;go_wp2_with fail
 first|go_end0|((try simp only[Exit.inBlock,Exit.then]);refine pe (oe rfl _ _ _) rfl ?_)
 rw[HP.out];exact⟨rfl,aM.out,aL.out⟩
theorem xw(W gN cap:Nat)(yB:Array Value)(N:List zJ)(n:Nat)(w:World)(st:qX)(a:Nat)(h:kG w W st)(aK:xT w gN yB N)(ha:a<N.length)(k1:¬(vY N a).kind=1)(k2:¬(vY N a).kind=2)(k3:¬(vY N a).kind=3)(hk:(4<=(vY N a).kind/\(vY N a).kind<=7)/\0<=(vY N a).num/\(vY N a).num<=9999)(hl:(vJ N (n+1) a st).1.length<=tS) :
 Calls prog 124 #[.pointer (some ⟨W,0,none⟩),.slice (some ⟨gN,0,none⟩) N.length cap,.int .i64 (a:Nat)] w λe w'=>e=.returned (.tuple #[])/\kG w' W (vJ N (n+1) a st)/\KT W w w':=by
 have hW:=h.wr.lt;obtain⟨c0,c1,c2,c3,c4,c5,c6⟩:=aK.cells ha;have ar:=aK.lt;have n0:w.heap.size≠gN:=by omega
 have aH:=zA h;have aT:=zA aK;have i1:(0:Int)<=(a:Int):=by omega
 have i2:(a:Int)<(N.length:Int):=by omega
 have hP:vJ N (n+1) a st=rT (vY N a) st:=by rw[vJ,tj k1,tj k2,tj k3]
 have HP:=zA hP;rw[hP]at hl;have b4:=λw' (h':kG w' W st)=>PY w' W st (vY N a) h' hk.1 hk.2.1 hk.2.2 hl;have e1:((vY N a).kind==1)=false:=by simpa using k1
 have e2:((vY N a).kind==2)=false:=by simpa using k2
 have e3:((vY N a).kind==3)=false:=by simpa using k3
 generalize vY N a=x at *;obtain⟨xk,xl,xr,xn,xm,xo,xu⟩:=x;simp only[kI]at c0 c1 c2 c3 c4 c5 c6 e1 e2 e3 b4;have dJ:=zA b4;clear h aK hl hP b4 hk k1 k2 k3
 go_enter func124,ntmps124
 go_wp2_with fail
 refine(dJ.out _ (kG.new aH.out _)).mono ?_;rintro e w1 ⟨rfl,hs1,aA⟩;have aF:=zA hs1;have aC:Hid (KT W w w1):=(KT.trans ((KT.refl W w).new (p7 hW) _) aA);have aD:w1.heap[w.heap.size]? = some (.cells #[.int .i64 xk,.int .i64 xl,.int .i64 xr,.string ⟨xn.toArray⟩,.string ⟨xm.toArray⟩,.string ⟨xo.toArray⟩,.int .i64 xu] 238 (0,0)):=aA.kept _ _ (zF _ _) (zU);have aP:=λj=>pq _ _ j _ _ _ aD;have aS:Hid (xT w1 gN yB N):=xT.kt (xT.new aT.out _) aA;clear hs1 aA;go_wp2_with fail
 first|go_end0|((try simp only[Exit.inBlock,Exit.then]);refine pe (oe rfl _ _ _) rfl ?_)
 rw[HP.out];exact⟨rfl,aF.out,aC.out⟩
theorem SH(W gN cap:Nat)(yB:Array Value)(N:List zJ)(hg:qZ N)(n:Nat):fL W gN cap yB N n:=by
 induction n with
 | zero=>intro w st a _ _ _ hn;omega
 | succ n ih =>
   intro w st a h aK ha hn hl;obtain⟨g1,g2,g3,g4⟩:=hg a ha;by_cases k1:(vY N a).kind=1
   ·exact OS W gN cap yB N n w st a h aK ha hn ih k1 (g1 k1) hl
   by_cases k2:(vY N a).kind=2
   ·exact SJ W gN cap yB N n w st a h aK ha hn ih k2 (g2 k2) hl
   by_cases k3:(vY N a).kind=3
   ·exact SL W gN cap yB N n w st a h aK ha hn ih k3 (g3 k3) hl
   exact xw W gN cap yB N n w st a h aK ha k1 k2 k3 (g4 k1 k2 k3) hl
theorem Cb(w:World)(W:Nat)(st:qX)(xm:Bool)(xu:Int)(xn:Bs)(h:kG w W st)(h0:0<=xu)(h1:xu<=9999)(hn:(zH xn (zH [42] (jR xu st))).1.length<=tS) :
 Calls prog 159 #[.pointer (some ⟨W,0,none⟩),.agg #[.bool xm,.bool true,.int .i64 xu,.string ⟨xn.toArray⟩]] w λe w'=>e=.returned (.tuple #[])/\kG w' W (zH xn (zH [42] (jR xu st)))/\KT W w w':=by
 have hW:=h.wr.lt;have aH:=zA h;have HN:=zA hn;clear h hn
 go_enter func159,ntmps159
 go_wp2_with fail
 refine(X2 _ W st xu (kG.new aH.out _) (rz _ _ (rz _ _ HN.out)) h0 h1).mono ?_;rintro e w1 ⟨rfl,hs1,aA⟩;have aF:=zA hs1;have aC:Hid (KT W w w1):=(KT.trans ((KT.refl W w).new (p7 hW) _) aA);have aD:w1.heap[w.heap.size]? = some (.cells #[.bool xm,.bool true,.int .i64 xu,.string ⟨xn.toArray⟩] 235 (0,0)):=aA.kept _ _ (zF _ _) (zU);have aP:=λj=>pq _ _ j _ _ _ aD;clear hs1 aA;go_wp2_with fail
 refine(vT _ W (jR xu st) [42] aF.out (rz _ _ HN.out)).mono ?_;rintro e w2 ⟨rfl,aG,aB⟩;have aM:=zA aG;have aL:Hid (KT W w w2):=(KT.trans aC.out aB);have aJ:w2.heap[w.heap.size]? = some (.cells #[.bool xm,.bool true,.int .i64 xu,.string ⟨xn.toArray⟩] 235 (0,0)):=aB.kept _ _ aD (zU);have aZ:=λj=>pq _ _ j _ _ _ aJ;clear aP aD;clear aG aB;go_wp2_with fail
 refine(vT _ W (zH [42] (jR xu st)) xn aM.out HN.out).mono ?_;rintro e w3 ⟨rfl,aO,aI⟩;have aa:=zA aO;have ah:Hid (KT W w w3):=(KT.trans aL.out aI);have aU:w3.heap[w.heap.size]? = some (.cells #[.bool xm,.bool true,.int .i64 xu,.string ⟨xn.toArray⟩] 235 (0,0)):=aI.kept _ _ aJ (zU);have a7:=λj=>pq _ _ j _ _ _ aU;clear aZ aJ;clear aO aI;go_wp2_with fail
 first|go_end0|((try simp only[Exit.inBlock,Exit.then]);refine pe (oe rfl _ _ _) rfl ?_)
 exact⟨rfl,aa.out,ah.out⟩
theorem GM(w:World)(W:Nat)(st:qX)(xm:Bool)(xu:Int)(xn:Bs)(h:kG w W st)(he:xn.isEmpty=true)(h0:0<=xu)(h1:xu<=9999)(hn:(jR xu st).1.length<=tS) :
 Calls prog 159 #[.pointer (some ⟨W,0,none⟩),.agg #[.bool xm,.bool false,.int .i64 xu,.string ⟨xn.toArray⟩]] w λe w'=>e=.returned (.tuple #[])/\kG w' W (jR xu st)/\KT W w w':=by
 have hW:=h.wr.lt;have aH:=zA h;have HN:=zA hn;clear h hn
 go_enter func159,ntmps159
 go_wp2_with fail
 refine(X2 _ W st xu (kG.new aH.out _) HN.out h0 h1).mono ?_;rintro e w1 ⟨rfl,hs1,aA⟩;have aF:=zA hs1;have aC:Hid (KT W w w1):=(KT.trans ((KT.refl W w).new (p7 hW) _) aA);have aD:w1.heap[w.heap.size]? = some (.cells #[.bool xm,.bool false,.int .i64 xu,.string ⟨xn.toArray⟩] 235 (0,0)):=aA.kept _ _ (zF _ _) (zU);have aP:=λj=>pq _ _ j _ _ _ aD;clear hs1 aA;go_wp2_with fail
 first|go_end0|((try simp only[Exit.inBlock,Exit.then]);refine pe (oe rfl _ _ _) rfl ?_)
 exact⟨rfl,aF.out,aC.out⟩
theorem Cc(w:World)(W:Nat)(st:qX)(xm:Bool)(xu:Int)(xn:Bs)(h:kG w W st)(he:xn.isEmpty=false)(hn:(zH xn st).1.length<=tS) :
 Calls prog 159 #[.pointer (some ⟨W,0,none⟩),.agg #[.bool xm,.bool false,.int .i64 xu,.string ⟨xn.toArray⟩]] w λe w'=>e=.returned (.tuple #[])/\kG w' W (zH xn st)/\KT W w w':=by
 have hW:=h.wr.lt;have aH:=zA h;have HN:=zA hn;clear h hn
 go_enter func159,ntmps159
 go_wp2_with fail
 refine(vT _ W st xn (kG.new aH.out _) HN.out).mono ?_;rintro e w1 ⟨rfl,hs1,aA⟩;have aF:=zA hs1;have aC:Hid (KT W w w1):=(KT.trans ((KT.refl W w).new (p7 hW) _) aA);have aD:w1.heap[w.heap.size]? = some (.cells #[.bool xm,.bool false,.int .i64 xu,.string ⟨xn.toArray⟩] 235 (0,0)):=aA.kept _ _ (zF _ _) (zU);have aP:=λj=>pq _ _ j _ _ _ aD;clear hs1 aA;go_wp2_with fail
 first|go_end0|((try simp only[Exit.inBlock,Exit.then]);refine pe (oe rfl _ _ _) rfl ?_)
 exact⟨rfl,aF.out,aC.out⟩
def Za(x:yT)(st:qX):qX :=
 match x.ak with
 | true=>zH x.name (zH [42] (jR x.num st))
 | false=>match x.name.isEmpty with
   | true=>jR x.num st
   | false=>zH x.name st
theorem PQ(w:World)(W:Nat)(st:qX)(x:yT)(h:kG w W st)(h0:0<=x.num)(h1:x.num<=9999)(hn:(Za x st).1.length<=tS) :
 Calls prog 159 #[.pointer (some ⟨W,0,none⟩),fX x] w λe w'=>e=.returned (.tuple #[])/\kG w' W (Za x st)/\KT W w w':=by
 obtain⟨xm,xs,xu,xn⟩:=x;simp only[fX,Za]at *;cases xs
 ·cases he:xn.isEmpty
  ·simp only[he]at hn ⊢;exact Cc w W st xm xu xn h he hn
  ·simp only[he]at hn ⊢;exact GM w W st xm xu xn h he h0 h1 hn
 ·simp only at hn ⊢;exact Cb w W st xm xu xn h h0 h1 hn
theorem VR(x:yT)(st:qX):st.1.length<=(Za x st).1.length:=by
 unfold Za;split
 ·exact tu (qB _ _) (tu (qB _ _) (qB _ _))
 ·split <;> exact qB _ _
def eK(m:Bool)(i:Nat)(st:qX):qX:=match m with|true=>zH [45] st|false=>if 0<i then zH [43] st else st
theorem TF(m:Bool)(i:Nat)(st:qX):st.1.length<=(eK m i st).1.length:=by
 unfold eK;split
 ·exact qB _ _
 ·split
  ·exact qB _ _
  ·exact tg _
def tL:List yT->Nat->qX->qX
 | [],_,st=>st
 | x::r,i,st=>tL r (i+1) (Za x (eK x.minus i st))
theorem X3(l:List yT):∀i st,st.1.length<=(tL l i st).1.length:=by
 induction l with
 | nil=>intro i st;exact tg _
 | cons x r ih=>intro i st;rw[tL];exact tu (TF _ _ _) (tu (VR _ _) (ih _ _))
def xz:yT:=⟨false,false,0,[]⟩
def aY(S:List yT)(i:Nat):yT:=S.getD i xz
structure qP(w:World)(gS:Nat)(yB:Array Value)(S:List yT):Prop where
 blk:w.heap[gS]? = some (.cells yB 235 (0,0))
 row:yB.toList.take (S.length*4)=bX S
theorem qP.kt{w:World}{W:Nat}{yB:Array Value}(h:qP w gS yB S)(hk:KT W w w'):qP w' gS yB S:=⟨hk.kept _ _ h.blk (zU),h.row⟩
theorem ut(S:List yT):∀i,i<S.length->∀j,j<4->(bX S)[i*4+j]? = (YJ (aY S i))[j]? := by
 induction S with
 | nil=>intro i h;simp at h
 | cons t r ih =>
   intro i h j hj;have e:bX (t::r)=YJ t++bX r:=by simp[bX]
   have hl:(YJ t).length=4:=rfl
   cases i with
   | zero=>rw[e,mj (by rw[hl];omega)];simp[aY]
   | succ i =>
     rw[e,l8 (by rw[hl];omega),hl,show (i+1)*4+j-4=i*4+j by omega,ih i (by simpa using h) j hj];simp[aY]
theorem qP.cells{w:World}{yB:Array Value}(h:qP w gS yB S){a:Nat}(ha:a<S.length) :
 w.cell? ⟨gS,a*4,none⟩=some (.bool (aY S a).minus)/\w.cell? ⟨gS,a*4+1,none⟩=some (.bool (aY S a).ak)/\w.cell? ⟨gS,a*4+2,none⟩=some (.int .i64 (aY S a).num)/\w.cell? ⟨gS,a*4+3,none⟩=some (.string ⟨(aY S a).name.toArray⟩):=by
 have hg:=λj (hj:j<4)=>ut S a ha j hj;exact⟨xL h.blk h.row (hg 0 (by omega)),xL h.blk h.row (hg 1 (by omega)),xL h.blk h.row (hg 2 (by omega)),xL h.blk h.row (hg 3 (by omega))⟩
theorem qP.lt{w:World}{yB:Array Value}(h:qP w gS yB S):gS<w.heap.size:=by
 rcases mc gS w.heap.size with h1|h1
 ·exact h1
 ·have h2:=h.blk;rw[pw h1]at h2;cases h2
theorem IG(S:List yT)(k:Nat)(h:k<S.length):S.drop k=aY S k::S.drop (k+1):=by
 rw[ph h];simp[aY,List.getD,h]
theorem NF(w:World)(W gS cap:Nat)(yB:Array Value)(S:List yT)(bZ:qX)(h:kG w W bZ)(hp:qP w gS yB S)(hS:S.length<=10000)(hg:∀a,a<S.length->0<=(aY S a).num/\(aY S a).num<=9999)(hn:(tL S 0 bZ).1.length<=tS) :
 Calls prog 123 #[.pointer (some ⟨W,0,none⟩),.slice (some ⟨gS,0,none⟩) S.length cap] w λe w'=>e=.returned (.tuple #[])/\kG w' W (tL S 0 bZ)/\KT W w w':=by
 have aH:=zA h;have cl:=zA hp;have HG:=zA hg;have HN:=zA hn;clear h hp hg hn
 go_enter func123,ntmps123
 go_wp2_with fail
 go_loopw [8] (λiv wr=>∃(i:Nat) (st:qX),i<=S.length/\iv=.int .i64 i/\Hid (kG wr W st)/\Hid (qP wr gS yB S)/\Hid (KT W w wr)/\Hid (tL (S.drop i) i st=tL S 0 bZ)) (λiv _=>S.length-(intOf iv).toNat)
 case atStart=>exact⟨0,bZ,p8,rfl,aH,cl,zA (KT.refl W w),zA rfl⟩
 case round =>
  obtain⟨i,st,hi,rfl,bI,bl,bW,HE⟩:=hrel;clear aH cl;by_cases ar:i<S.length
  ·obtain⟨c0,c1,c2,c3⟩:=bl.out.cells ar
   have b7:=bl.out.lt;have nX:wr.heap.size≠gS:=(by omega);have bF:=bI.out.wr.lt;have hE:=HE.out;rw[IG S i ar,tL]at hE;have hb:=HN.out;rw[<-hE]at hb;have bE:=tu (X3 _ _ _) hb;have hb1:=tu (VR _ _) bE;obtain⟨g0,g1⟩:=HG.out i ar;have HW:=zA (λw' (h':kG w' W (eK (aY S i).minus i st))=>PQ w' W _ (aY S i) h' g0 g1 bE);have av:=zA hE;have aS:=zA hb1;clear hE hb hb1 bE HE g0 g1;generalize aY S i=x at *;obtain⟨xm,xs,xu,xn⟩:=x;simp only[fX]at HW c0 c1 c2 c3 av aS;cases xm
   ·by_cases ai:0<i
    ·simp only[eK,tr ai]at HW av aS
     go_wp2_with fail
     refine(vT _ W st [43] (kG.new bI.out _) aS.out).mono ?_;rintro e w1 ⟨rfl,hs1,aA⟩;have aF:=zA hs1;have aC:Hid (KT W w w1):=KT.trans (bW.out.new (p7 bF) _) aA;have bx:w1.heap[wr.heap.size]? = some (.cells #[.bool false,.bool xs,.int .i64 xu,.string ⟨xn.toArray⟩] 235 (0,0)):=aA.kept _ _ (zF _ _) (zU);have cx:=λj=>pq _ _ j _ _ _ bx;have cH:Hid (qP w1 gS yB S):=qP.kt (qP.kt bl.out ((KT.refl W wr).new (p7 bF) _)) aA;clear hs1 aA c0 c1 c2 c3;go_wp2_with fail
     refine(HW.out _ aF.out).mono ?_;rintro e w2 ⟨rfl,aG,aB⟩;have aM:=zA aG;have aL:Hid (KT W w w2):=KT.trans aC.out aB;have bm:Hid (qP w2 gS yB S):=qP.kt cH.out aB;clear aG aB cx bx;go_wp2_with fail
     go_roundw
     case rel=>exact⟨i+1,_,by omega,by go_num,aM,bm,aL,av⟩
     case measure=>simp[intOf];omega
    ·simp only[eK,tj ai]at HW av aS
     go_wp2_with fail
     refine(HW.out _ (kG.new bI.out _)).mono ?_;rintro e w2 ⟨rfl,aG,aB⟩;have aM:=zA aG;have aL:Hid (KT W w w2):=KT.trans (bW.out.new (p7 bF) _) aB;have bm:Hid (qP w2 gS yB S):=qP.kt (qP.kt bl.out ((KT.refl W wr).new (p7 bF) _)) aB;clear aG aB c0 c1 c2 c3;go_wp2_with fail
     go_roundw
     case rel=>exact⟨i+1,_,by omega,by go_num,aM,bm,aL,av⟩
     case measure=>simp[intOf];omega
   ·simp only[eK]at HW av aS
    go_wp2_with fail
    refine(vT _ W st [45] (kG.new bI.out _) aS.out).mono ?_;rintro e w1 ⟨rfl,hs1,aA⟩;have aF:=zA hs1;have aC:Hid (KT W w w1):=KT.trans (bW.out.new (p7 bF) _) aA;have bx:w1.heap[wr.heap.size]? = some (.cells #[.bool true,.bool xs,.int .i64 xu,.string ⟨xn.toArray⟩] 235 (0,0)):=aA.kept _ _ (zF _ _) (zU);have cx:=λj=>pq _ _ j _ _ _ bx;have cH:Hid (qP w1 gS yB S):=qP.kt (qP.kt bl.out ((KT.refl W wr).new (p7 bF) _)) aA;clear hs1 aA c0 c1 c2 c3;go_wp2_with fail
    refine(HW.out _ aF.out).mono ?_;rintro e w2 ⟨rfl,aG,aB⟩;have aM:=zA aG;have aL:Hid (KT W w w2):=KT.trans aC.out aB;have bm:Hid (qP w2 gS yB S):=qP.kt cH.out aB;clear aG aB cx bx;go_wp2_with fail
    go_roundw
    case rel=>exact⟨i+1,_,by omega,by go_num,aM,bm,aL,av⟩
    case measure=>simp[intOf];omega
  ·have hE:=HE.out
   rw[pf (by omega),tL]at hE;have av:=zA hE;clear hE HE;go_wp2_with fail
   go_end0
   rw[<-av.out];exact⟨rfl,bI.out,bW.out⟩
def lU(st:qX):qX:=(st.1++[59,10],false)
theorem fS(st:qX):st.1.length<=(lU st).1.length:=by simp[lU]
theorem K7(w:World)(W:Nat)(st:qX)(h:kG w W st)(hn:(lU st).1.length<=tS) :
 Calls prog 125 #[.pointer (some ⟨W,0,none⟩)] w λe w'=>e=.returned (.tuple #[])/\kG w' W (lU st)/\KT W w w':=by
 refine(qo w W st.1 st.2 h.wr (by have h1:=hn;simp[lU,tS]at h1;omega)).mono ?_;rintro e w' ⟨rfl,h1,h2⟩;exact⟨rfl,h.step h1 h2,h2⟩
theorem qP.new{w:World}{yB:Array Value}(h:qP w gS yB S)(o:Obj):qP (w.alloc o) gS yB S:=⟨yD h.blk,h.row⟩
theorem GO(w:World)(W:Nat)(st:qX)(lo hi te de:Int)(nm cc lw:Bs)(sa na:Option Addr)(sn sc nn nc:Nat)(ro:Int)(h:kG w W st)(EX:0<=lo)(Hf:lo<=9999)(ai:0<=hi)(eu:hi<=9999)(hn:((lU (jR hi (zH [46,46] (jR lo (zH nm (zH [110,117,109] st))))))).1.length<=tS) :
 Calls prog 82 #[.pointer (some ⟨W,0,none⟩),.agg #[.int .i64 1,.string ⟨nm.toArray⟩,.int .i64 lo,.int .i64 hi,.string ⟨cc.toArray⟩,.slice sa sn sc,.slice na nn nc,.int .i64 ro,.int .i64 te,.int .i64 de,.string ⟨lw.toArray⟩]] w λe w'=>e=.returned (.tuple #[])/\kG w' W ((lU (jR hi (zH [46,46] (jR lo (zH nm (zH [110,117,109] st)))))))/\KT W w w':=by
 have hW:=h.wr.lt;have aH:=zA h;have HN:=zA hn;have bn:=HN;have bo:=zA (tu (fS (jR hi (zH [46,46] (jR lo (zH nm (zH [110,117,109] st)))))) bn.out);have bQ:=zA (tu (qB (Lib.itoa hi) (zH [46,46] (jR lo (zH nm (zH [110,117,109] st))))) bo.out);have af:=zA (tu (qB [46,46] (jR lo (zH nm (zH [110,117,109] st)))) bQ.out);have ag:=zA (tu (qB (Lib.itoa lo) (zH nm (zH [110,117,109] st))) af.out);have aj:=zA (tu (qB nm (zH [110,117,109] st)) ag.out);clear h hn
 go_enter func82,ntmps82
 go_wp2_with fail
 refine(vT _ W st [110,117,109] (kG.new aH.out _) aj.out).mono ?_;rintro e w1 ⟨rfl,hs1,aA⟩;have aF:=zA hs1;have aC:Hid (KT W w w1):=(KT.trans ((KT.refl W w).new (p7 hW) _) aA);have aD:w1.heap[w.heap.size]? = some (.cells #[.int .i64 1,.string ⟨nm.toArray⟩,.int .i64 lo,.int .i64 hi,.string ⟨cc.toArray⟩,.slice sa sn sc,.slice na nn nc,.int .i64 ro,.int .i64 te,.int .i64 de,.string ⟨lw.toArray⟩] 184 (0,0)):=aA.kept _ _ (zF _ _) (zU);have aP:=λj=>pq _ _ j _ _ _ aD;clear hs1 aA;go_wp2_with fail
 refine(vT _ W (zH [110,117,109] st) nm aF.out ag.out).mono ?_;rintro e w2 ⟨rfl,aG,aB⟩;have aM:=zA aG;have aL:Hid (KT W w w2):=(KT.trans aC.out aB);have aJ:w2.heap[w.heap.size]? = some (.cells #[.int .i64 1,.string ⟨nm.toArray⟩,.int .i64 lo,.int .i64 hi,.string ⟨cc.toArray⟩,.slice sa sn sc,.slice na nn nc,.int .i64 ro,.int .i64 te,.int .i64 de,.string ⟨lw.toArray⟩] 184 (0,0)):=aB.kept _ _ aD (zU);have aZ:=λj=>pq _ _ j _ _ _ aJ;clear aP aD;clear aG aB;go_wp2_with fail
 refine(X2 _ W (zH nm (zH [110,117,109] st)) lo aM.out af.out EX Hf).mono ?_;rintro e w3 ⟨rfl,aO,aI⟩;have aa:=zA aO;have ah:Hid (KT W w w3):=(KT.trans aL.out aI);have aU:w3.heap[w.heap.size]? = some (.cells #[.int .i64 1,.string ⟨nm.toArray⟩,.int .i64 lo,.int .i64 hi,.string ⟨cc.toArray⟩,.slice sa sn sc,.slice na nn nc,.int .i64 ro,.int .i64 te,.int .i64 de,.string ⟨lw.toArray⟩] 184 (0,0)):=aI.kept _ _ aJ (zU);have a7:=λj=>pq _ _ j _ _ _ aU;clear aZ aJ;clear aO aI;go_wp2_with fail
 refine(vT _ W (jR lo (zH nm (zH [110,117,109] st))) [46,46] aa.out bQ.out).mono ?_;rintro e w4 ⟨rfl,bK,au⟩;have bk:=zA bK;have bp:Hid (KT W w w4):=(KT.trans ah.out au);have bH:w4.heap[w.heap.size]? = some (.cells #[.int .i64 1,.string ⟨nm.toArray⟩,.int .i64 lo,.int .i64 hi,.string ⟨cc.toArray⟩,.slice sa sn sc,.slice na nn nc,.int .i64 ro,.int .i64 te,.int .i64 de,.string ⟨lw.toArray⟩] 184 (0,0)):=au.kept _ _ aU (zU);have bu:=λj=>pq _ _ j _ _ _ bH;clear a7 aU;clear bK au;go_wp2_with fail
 refine(X2 _ W (zH [46,46] (jR lo (zH nm (zH [110,117,109] st)))) hi bk.out bo.out ai eu).mono ?_;rintro e w5 ⟨rfl,bb,bD⟩;have cG:=zA bb;have cL:Hid (KT W w w5):=(KT.trans bp.out bD);have bV:w5.heap[w.heap.size]? = some (.cells #[.int .i64 1,.string ⟨nm.toArray⟩,.int .i64 lo,.int .i64 hi,.string ⟨cc.toArray⟩,.slice sa sn sc,.slice na nn nc,.int .i64 ro,.int .i64 te,.int .i64 de,.string ⟨lw.toArray⟩] 184 (0,0)):=bD.kept _ _ bH (zU);have cA:=λj=>pq _ _ j _ _ _ bV;clear bu bH;clear bb bD;go_wp2_with fail
 refine(K7 _ W (jR hi (zH [46,46] (jR lo (zH nm (zH [110,117,109] st))))) cG.out bn.out).mono ?_;rintro e w6 ⟨rfl,ba,bB⟩;have cF:=zA ba;have cK:Hid (KT W w w6):=(KT.trans cL.out bB);have bj:w6.heap[w.heap.size]? = some (.cells #[.int .i64 1,.string ⟨nm.toArray⟩,.int .i64 lo,.int .i64 hi,.string ⟨cc.toArray⟩,.slice sa sn sc,.slice na nn nc,.int .i64 ro,.int .i64 te,.int .i64 de,.string ⟨lw.toArray⟩] 184 (0,0)):=bB.kept _ _ bV (zU);have cZ:=λj=>pq _ _ j _ _ _ bj;clear cA bV;clear ba bB;go_wp2_with fail
 first|go_end0|((try simp only[Exit.inBlock,Exit.then]);refine pe (oe rfl _ _ _) rfl ?_)
 exact⟨rfl,cF.out,cK.out⟩
theorem Cg(w:World)(W:Nat)(st:qX)(lo hi te de:Int)(nm cc lw:Bs)(sa na:Option Addr)(sn sc nn nc:Nat)(ro:Int)(h:kG w W st) (hn:((lU (zH nm (zH [102,108,97,103] st)))).1.length<=tS) :
 Calls prog 82 #[.pointer (some ⟨W,0,none⟩),.agg #[.int .i64 2,.string ⟨nm.toArray⟩,.int .i64 lo,.int .i64 hi,.string ⟨cc.toArray⟩,.slice sa sn sc,.slice na nn nc,.int .i64 ro,.int .i64 te,.int .i64 de,.string ⟨lw.toArray⟩]] w λe w'=>e=.returned (.tuple #[])/\kG w' W ((lU (zH nm (zH [102,108,97,103] st))))/\KT W w w':=by
 have hW:=h.wr.lt;have aH:=zA h;have HN:=zA hn;have af:=HN;have ag:=zA (tu (fS (zH nm (zH [102,108,97,103] st))) af.out);have aj:=zA (tu (qB nm (zH [102,108,97,103] st)) ag.out);clear h hn
 go_enter func82,ntmps82
 go_wp2_with fail
 refine(vT _ W st [102,108,97,103] (kG.new aH.out _) aj.out).mono ?_;rintro e w1 ⟨rfl,hs1,aA⟩;have aF:=zA hs1;have aC:Hid (KT W w w1):=(KT.trans ((KT.refl W w).new (p7 hW) _) aA);have aD:w1.heap[w.heap.size]? = some (.cells #[.int .i64 2,.string ⟨nm.toArray⟩,.int .i64 lo,.int .i64 hi,.string ⟨cc.toArray⟩,.slice sa sn sc,.slice na nn nc,.int .i64 ro,.int .i64 te,.int .i64 de,.string ⟨lw.toArray⟩] 184 (0,0)):=aA.kept _ _ (zF _ _) (zU);have aP:=λj=>pq _ _ j _ _ _ aD;clear hs1 aA;go_wp2_with fail
 refine(vT _ W (zH [102,108,97,103] st) nm aF.out ag.out).mono ?_;rintro e w2 ⟨rfl,aG,aB⟩;have aM:=zA aG;have aL:Hid (KT W w w2):=(KT.trans aC.out aB);have aJ:w2.heap[w.heap.size]? = some (.cells #[.int .i64 2,.string ⟨nm.toArray⟩,.int .i64 lo,.int .i64 hi,.string ⟨cc.toArray⟩,.slice sa sn sc,.slice na nn nc,.int .i64 ro,.int .i64 te,.int .i64 de,.string ⟨lw.toArray⟩] 184 (0,0)):=aB.kept _ _ aD (zU);have aZ:=λj=>pq _ _ j _ _ _ aJ;clear aP aD;clear aG aB;go_wp2_with fail
 refine(K7 _ W (zH nm (zH [102,108,97,103] st)) aM.out af.out).mono ?_;rintro e w3 ⟨rfl,aO,aI⟩;have aa:=zA aO;have ah:Hid (KT W w w3):=(KT.trans aL.out aI);have aU:w3.heap[w.heap.size]? = some (.cells #[.int .i64 2,.string ⟨nm.toArray⟩,.int .i64 lo,.int .i64 hi,.string ⟨cc.toArray⟩,.slice sa sn sc,.slice na nn nc,.int .i64 ro,.int .i64 te,.int .i64 de,.string ⟨lw.toArray⟩] 184 (0,0)):=aI.kept _ _ aJ (zU);have a7:=λj=>pq _ _ j _ _ _ aU;clear aZ aJ;clear aO aI;go_wp2_with fail
 first|go_end0|((try simp only[Exit.inBlock,Exit.then]);refine pe (oe rfl _ _ _) rfl ?_)
 exact⟨rfl,aa.out,ah.out⟩
theorem Cf(w:World)(W:Nat)(st:qX)(lo hi te de:Int)(nm cc lw:Bs)(sa na:Option Addr)(sn sc nn nc:Nat)(ro:Int)(h:kG w W st) (hn:((lU (zH lw (zH nm (zH [111,118,101,114] st))))).1.length<=tS) :
 Calls prog 82 #[.pointer (some ⟨W,0,none⟩),.agg #[.int .i64 4,.string ⟨nm.toArray⟩,.int .i64 lo,.int .i64 hi,.string ⟨cc.toArray⟩,.slice sa sn sc,.slice na nn nc,.int .i64 ro,.int .i64 te,.int .i64 de,.string ⟨lw.toArray⟩]] w λe w'=>e=.returned (.tuple #[])/\kG w' W ((lU (zH lw (zH nm (zH [111,118,101,114] st)))))/\KT W w w':=by
 have hW:=h.wr.lt;have aH:=zA h;have HN:=zA hn;have bQ:=HN;have af:=zA (tu (fS (zH lw (zH nm (zH [111,118,101,114] st)))) bQ.out);have ag:=zA (tu (qB lw (zH nm (zH [111,118,101,114] st))) af.out);have aj:=zA (tu (qB nm (zH [111,118,101,114] st)) ag.out);clear h hn
 go_enter func82,ntmps82
 go_wp2_with fail
 refine(vT _ W st [111,118,101,114] (kG.new aH.out _) aj.out).mono ?_;rintro e w1 ⟨rfl,hs1,aA⟩;have aF:=zA hs1;have aC:Hid (KT W w w1):=(KT.trans ((KT.refl W w).new (p7 hW) _) aA);have aD:w1.heap[w.heap.size]? = some (.cells #[.int .i64 4,.string ⟨nm.toArray⟩,.int .i64 lo,.int .i64 hi,.string ⟨cc.toArray⟩,.slice sa sn sc,.slice na nn nc,.int .i64 ro,.int .i64 te,.int .i64 de,.string ⟨lw.toArray⟩] 184 (0,0)):=aA.kept _ _ (zF _ _) (zU);have aP:=λj=>pq _ _ j _ _ _ aD;clear hs1 aA;go_wp2_with fail
 refine(vT _ W (zH [111,118,101,114] st) nm aF.out ag.out).mono ?_;rintro e w2 ⟨rfl,aG,aB⟩;have aM:=zA aG;have aL:Hid (KT W w w2):=(KT.trans aC.out aB);have aJ:w2.heap[w.heap.size]? = some (.cells #[.int .i64 4,.string ⟨nm.toArray⟩,.int .i64 lo,.int .i64 hi,.string ⟨cc.toArray⟩,.slice sa sn sc,.slice na nn nc,.int .i64 ro,.int .i64 te,.int .i64 de,.string ⟨lw.toArray⟩] 184 (0,0)):=aB.kept _ _ aD (zU);have aZ:=λj=>pq _ _ j _ _ _ aJ;clear aP aD;clear aG aB;go_wp2_with fail
 refine(vT _ W (zH nm (zH [111,118,101,114] st)) lw aM.out af.out).mono ?_;rintro e w3 ⟨rfl,aO,aI⟩;have aa:=zA aO;have ah:Hid (KT W w w3):=(KT.trans aL.out aI);have aU:w3.heap[w.heap.size]? = some (.cells #[.int .i64 4,.string ⟨nm.toArray⟩,.int .i64 lo,.int .i64 hi,.string ⟨cc.toArray⟩,.slice sa sn sc,.slice na nn nc,.int .i64 ro,.int .i64 te,.int .i64 de,.string ⟨lw.toArray⟩] 184 (0,0)):=aI.kept _ _ aJ (zU);have a7:=λj=>pq _ _ j _ _ _ aU;clear aZ aJ;clear aO aI;go_wp2_with fail
 refine(K7 _ W (zH lw (zH nm (zH [111,118,101,114] st))) aa.out bQ.out).mono ?_;rintro e w4 ⟨rfl,bK,au⟩;have bk:=zA bK;have bp:Hid (KT W w w4):=(KT.trans ah.out au);have bH:w4.heap[w.heap.size]? = some (.cells #[.int .i64 4,.string ⟨nm.toArray⟩,.int .i64 lo,.int .i64 hi,.string ⟨cc.toArray⟩,.slice sa sn sc,.slice na nn nc,.int .i64 ro,.int .i64 te,.int .i64 de,.string ⟨lw.toArray⟩] 184 (0,0)):=au.kept _ _ aU (zU);have bu:=λj=>pq _ _ j _ _ _ bH;clear a7 aU;clear bK au;go_wp2_with fail
 first|go_end0|((try simp only[Exit.inBlock,Exit.then]);refine pe (oe rfl _ _ _) rfl ?_)
 exact⟨rfl,bk.out,bp.out⟩
theorem Ce(w:World)(W:Nat)(st:qX)(lo hi te de:Int)(nm cc lw:Bs)(gS cS gN cN root:Nat)(aQ aR:Array Value)(S:List yT)(N:List zJ)(h:kG w W st)(hp:qP w gS aQ S)(hb:xT w gN aR N)(hS:S.length<=10000)(hg:∀a,a<S.length->0<=(aY S a).num/\(aY S a).num<=9999)(hN:qZ N)(hroot:root<N.length)(hn:((lU (vJ N N.length root (zH xF (tL S 0 (zH [61] (zH cc (zH [58] (zH nm (zH uH st)))))))))).1.length<=tS) :
 Calls prog 82 #[.pointer (some ⟨W,0,none⟩),.agg #[.int .i64 3,.string ⟨nm.toArray⟩,.int .i64 lo,.int .i64 hi,.string ⟨cc.toArray⟩,.slice (some ⟨gS,0,none⟩) S.length cS,.slice (some ⟨gN,0,none⟩) N.length cN,.int .i64 (root:Nat),.int .i64 te,.int .i64 de,.string ⟨lw.toArray⟩]] w λe w'=>e=.returned (.tuple #[])/\kG w' W ((lU (vJ N N.length root (zH xF (tL S 0 (zH [61] (zH cc (zH [58] (zH nm (zH uH st))))))))))/\KT W w w':=by
 have hW:=h.wr.lt;have aH:=zA h;have HN:=zA hn;have cp:=HN;have cq:=zA (tu (fS (vJ N N.length root (zH xF (tL S 0 (zH [61] (zH cc (zH [58] (zH nm (zH uH st))))))))) cp.out);have cr:=zA (tu (nD N N.length root (zH xF (tL S 0 (zH [61] (zH cc (zH [58] (zH nm (zH uH st)))))))) cq.out);have bn:=zA (tu (qB xF (tL S 0 (zH [61] (zH cc (zH [58] (zH nm (zH uH st))))))) cr.out);have bo:=zA (tu (X3 S 0 (zH [61] (zH cc (zH [58] (zH nm (zH uH st)))))) bn.out);have bQ:=zA (tu (qB [61] (zH cc (zH [58] (zH nm (zH uH st))))) bo.out);have af:=zA (tu (qB cc (zH [58] (zH nm (zH uH st)))) bQ.out);have ag:=zA (tu (qB [58] (zH nm (zH uH st))) af.out);have aj:=zA (tu (qB nm (zH uH st)) ag.out);have dU:=zA hp;have aT:=zA hb;clear hp hb;clear h hn
 go_enter func82,ntmps82
 go_wp2_with fail
 refine(vT _ W st uH (kG.new aH.out _) aj.out).mono ?_;rintro e w1 ⟨rfl,hs1,aA⟩;have aF:=zA hs1;have aC:Hid (KT W w w1):=(KT.trans ((KT.refl W w).new (p7 hW) _) aA);have aD:w1.heap[w.heap.size]? = some (.cells #[.int .i64 3,.string ⟨nm.toArray⟩,.int .i64 lo,.int .i64 hi,.string ⟨cc.toArray⟩,.slice (some ⟨gS,0,none⟩) S.length cS,.slice (some ⟨gN,0,none⟩) N.length cN,.int .i64 (root:Nat),.int .i64 te,.int .i64 de,.string ⟨lw.toArray⟩] 184 (0,0)):=aA.kept _ _ (zF _ _) (zU);have aP:=λj=>pq _ _ j _ _ _ aD;have aS:Hid (xT w1 gN aR N):=xT.kt (xT.new aT.out _) aA;have dT:Hid (qP w1 gS aQ S):=qP.kt (qP.new dU.out _) aA;clear hs1 aA;go_wp2_with fail
 refine(vT _ W (zH uH st) nm aF.out ag.out).mono ?_;rintro e w2 ⟨rfl,aG,aB⟩;have aM:=zA aG;have aL:Hid (KT W w w2):=(KT.trans aC.out aB);have aJ:w2.heap[w.heap.size]? = some (.cells #[.int .i64 3,.string ⟨nm.toArray⟩,.int .i64 lo,.int .i64 hi,.string ⟨cc.toArray⟩,.slice (some ⟨gS,0,none⟩) S.length cS,.slice (some ⟨gN,0,none⟩) N.length cN,.int .i64 (root:Nat),.int .i64 te,.int .i64 de,.string ⟨lw.toArray⟩] 184 (0,0)):=aB.kept _ _ aD (zU);have aZ:=λj=>pq _ _ j _ _ _ aJ;clear aP aD;have aw:Hid (xT w2 gN aR N):=xT.kt aS.out aB;have dS:Hid (qP w2 gS aQ S):=qP.kt dT.out aB;clear aG aB;go_wp2_with fail
 refine(vT _ W (zH nm (zH uH st)) [58] aM.out af.out).mono ?_;rintro e w3 ⟨rfl,aO,aI⟩;have aa:=zA aO;have ah:Hid (KT W w w3):=(KT.trans aL.out aI);have aU:w3.heap[w.heap.size]? = some (.cells #[.int .i64 3,.string ⟨nm.toArray⟩,.int .i64 lo,.int .i64 hi,.string ⟨cc.toArray⟩,.slice (some ⟨gS,0,none⟩) S.length cS,.slice (some ⟨gN,0,none⟩) N.length cN,.int .i64 (root:Nat),.int .i64 te,.int .i64 de,.string ⟨lw.toArray⟩] 184 (0,0)):=aI.kept _ _ aJ (zU);have a7:=λj=>pq _ _ j _ _ _ aU;clear aZ aJ;have bz:Hid (xT w3 gN aR N):=xT.kt aw.out aI;have dR:Hid (qP w3 gS aQ S):=qP.kt dS.out aI;clear aO aI;go_wp2_with fail
 refine(vT _ W (zH [58] (zH nm (zH uH st))) cc aa.out bQ.out).mono ?_;rintro e w4 ⟨rfl,bK,au⟩;have bk:=zA bK;have bp:Hid (KT W w w4):=(KT.trans ah.out au);have bH:w4.heap[w.heap.size]? = some (.cells #[.int .i64 3,.string ⟨nm.toArray⟩,.int .i64 lo,.int .i64 hi,.string ⟨cc.toArray⟩,.slice (some ⟨gS,0,none⟩) S.length cS,.slice (some ⟨gN,0,none⟩) N.length cN,.int .i64 (root:Nat),.int .i64 te,.int .i64 de,.string ⟨lw.toArray⟩] 184 (0,0)):=au.kept _ _ aU (zU);have bu:=λj=>pq _ _ j _ _ _ bH;clear a7 aU;have dk:Hid (xT w4 gN aR N):=xT.kt bz.out au;have dQ:Hid (qP w4 gS aQ S):=qP.kt dR.out au;clear bK au;go_wp2_with fail
 refine(vT _ W (zH cc (zH [58] (zH nm (zH uH st)))) [61] bk.out bo.out).mono ?_;rintro e w5 ⟨rfl,bb,bD⟩;have cG:=zA bb;have cL:Hid (KT W w w5):=(KT.trans bp.out bD);have bV:w5.heap[w.heap.size]? = some (.cells #[.int .i64 3,.string ⟨nm.toArray⟩,.int .i64 lo,.int .i64 hi,.string ⟨cc.toArray⟩,.slice (some ⟨gS,0,none⟩) S.length cS,.slice (some ⟨gN,0,none⟩) N.length cN,.int .i64 (root:Nat),.int .i64 te,.int .i64 de,.string ⟨lw.toArray⟩] 184 (0,0)):=bD.kept _ _ bH (zU);have cA:=λj=>pq _ _ j _ _ _ bV;clear bu bH;have di:Hid (xT w5 gN aR N):=xT.kt dk.out bD;have ck:Hid (qP w5 gS aQ S):=qP.kt dQ.out bD;clear bb bD;go_wp2_with fail
 refine(NF _ W gS cS aQ S (zH [61] (zH cc (zH [58] (zH nm (zH uH st))))) cG.out ck.out hS hg bn.out).mono ?_;rintro e w6 ⟨rfl,ba,bB⟩;have cF:=zA ba;have cK:Hid (KT W w w6):=(KT.trans cL.out bB);have bj:w6.heap[w.heap.size]? = some (.cells #[.int .i64 3,.string ⟨nm.toArray⟩,.int .i64 lo,.int .i64 hi,.string ⟨cc.toArray⟩,.slice (some ⟨gS,0,none⟩) S.length cS,.slice (some ⟨gN,0,none⟩) N.length cN,.int .i64 (root:Nat),.int .i64 te,.int .i64 de,.string ⟨lw.toArray⟩] 184 (0,0)):=bB.kept _ _ bV (zU);have cZ:=λj=>pq _ _ j _ _ _ bj;clear cA bV;have dh:Hid (xT w6 gN aR N):=xT.kt di.out bB;have dP:Hid (qP w6 gS aQ S):=qP.kt ck.out bB;clear ba bB;go_wp2_with fail
 refine(vT _ W (tL S 0 (zH [61] (zH cc (zH [58] (zH nm (zH uH st)))))) xF cF.out cr.out).mono ?_;rintro e w7 ⟨rfl,cT,bg⟩;have dM:=zA cT;have dY:Hid (KT W w w7):=(KT.trans cK.out bg);have cD:w7.heap[w.heap.size]? = some (.cells #[.int .i64 3,.string ⟨nm.toArray⟩,.int .i64 lo,.int .i64 hi,.string ⟨cc.toArray⟩,.slice (some ⟨gS,0,none⟩) S.length cS,.slice (some ⟨gN,0,none⟩) N.length cN,.int .i64 (root:Nat),.int .i64 te,.int .i64 de,.string ⟨lw.toArray⟩] 184 (0,0)):=bg.kept _ _ bj (zU);have dF:=λj=>pq _ _ j _ _ _ cD;clear cZ bj;have cy:Hid (xT w7 gN aR N):=xT.kt dh.out bg;have dO:Hid (qP w7 gS aQ S):=qP.kt dP.out bg;clear cT bg;go_wp2_with fail
 refine(SH W gN cN aR N hN N.length _ (zH xF (tL S 0 (zH [61] (zH cc (zH [58] (zH nm (zH uH st))))))) root dM.out cy.out hroot hroot cq.out).mono ?_;rintro e w8 ⟨rfl,cQ,bf⟩;have dL:=zA cQ;have dX:Hid (KT W w w8):=(KT.trans dY.out bf);have cC:w8.heap[w.heap.size]? = some (.cells #[.int .i64 3,.string ⟨nm.toArray⟩,.int .i64 lo,.int .i64 hi,.string ⟨cc.toArray⟩,.slice (some ⟨gS,0,none⟩) S.length cS,.slice (some ⟨gN,0,none⟩) N.length cN,.int .i64 (root:Nat),.int .i64 te,.int .i64 de,.string ⟨lw.toArray⟩] 184 (0,0)):=bf.kept _ _ cD (zU);have dE:=λj=>pq _ _ j _ _ _ cC;clear dF cD;have df:Hid (xT w8 gN aR N):=xT.kt cy.out bf;have dN:Hid (qP w8 gS aQ S):=qP.kt dO.out bf;clear cQ bf;go_wp2_with fail
 refine(K7 _ W (vJ N N.length root (zH xF (tL S 0 (zH [61] (zH cc (zH [58] (zH nm (zH uH st)))))))) dL.out cp.out).mono ?_;rintro e w9 ⟨rfl,cP,bc⟩;have dK:=zA cP;have dW:Hid (KT W w w9):=(KT.trans dX.out bc);have dI:w9.heap[w.heap.size]? = some (.cells #[.int .i64 3,.string ⟨nm.toArray⟩,.int .i64 lo,.int .i64 hi,.string ⟨cc.toArray⟩,.slice (some ⟨gS,0,none⟩) S.length cS,.slice (some ⟨gN,0,none⟩) N.length cN,.int .i64 (root:Nat),.int .i64 te,.int .i64 de,.string ⟨lw.toArray⟩] 184 (0,0)):=bc.kept _ _ cC (zU);have dt:=λj=>pq _ _ j _ _ _ dI;clear dE cC;have dx:Hid (xT w9 gN aR N):=xT.kt df.out bc;have dw:Hid (qP w9 gS aQ S):=qP.kt dN.out bc;clear cP bc;go_wp2_with fail
 first|go_end0|((try simp only[Exit.inBlock,Exit.then]);refine pe (oe rfl _ _ _) rfl ?_)
 exact⟨rfl,dK.out,dW.out⟩
theorem DK(out:Bs):∀acc:Bs,(out.map (λb:UInt8=>(b.toNat:Int))).foldl (λr n=>r.push (UInt8.ofNat n.toNat)) (ByteArray.mk acc.toArray)=⟨(acc++out).toArray⟩:=by
 induction out with
 | nil=>intro acc;simp
 | cons c r ih =>
   intro acc;simp only[cf,List.foldl_cons]
   have e:(ByteArray.mk acc.toArray).push (UInt8.ofNat ((c.toNat:Int)).toNat)=ByteArray.mk (acc++[c]).toArray:=by
    simp[ByteArray.push]
   rw[e,ih];simp
theorem Br{w:World}{B:Nat}{out:Bs}(h:w.ownsRow B 5 1 v out.length (bC out)):(convert 118 9 v).run prog w=.ok (.string ⟨out.toArray⟩) w:=by
 have hcells:=λg (hv:v=.slice (some ⟨g,0,none⟩) out.length (match v with | .slice _ _ c=>c|_=>0))=>h.cells (g:=g);rcases h.2 with ⟨h1,h2⟩|⟨g,cap,yB,h1,h2,h3,h4,h5,h6,h7⟩
 ·have e:out=[]:=l5 h2
  subst e;subst h1;rw[run_convert_bytes_string w _ _ 5 none 0 0 underlying118 underlying5 underlying9];rfl
 ·subst h1
  rw[run_convert_bytes_string w _ _ 5 _ _ _ underlying118 underlying5 underlying9];have hb:bC out=(out.map (λb:UInt8=>(b.toNat:Int))).map (Value.int .u8):=by simp[bC]
  have hl:=run_loadCells_list (P:=prog) (w:=w) ⟨g,0,none⟩ (bC out) (λj u hu=>by
   rw[Addr.add_lit,cw];exact xL h3 h7 hu)
  rw[Ly,hb]at hl;rw[run_bytesToString w ⟨g,0,none⟩ out.length cap _ hl];have hf:=DK out [];rw[lu]at hf;rw[<-hf];rfl
def rA(x:zE)(st:qX):qX :=
 if x.kind=1 then lU (jR x.high (zH [46,46] (jR x.low (zH x.name (zH [110,117,109] st)))))
 else if x.kind=2 then lU (zH x.name (zH [102,108,97,103] st))
 else if x.kind=3 then lU (vJ x.nd x.nd.length x.root.toNat (zH xF (tL x.sum 0 (zH [61] (zH x.ae (zH [58] (zH x.name (zH uH st))))))))
 else lU (zH x.lower (zH x.name (zH [111,118,101,114] st)))
theorem TE(x:zE)(st:qX):st.1.length<=(rA x st).1.length:=by
 unfold rA;split
 ·exact tu (qB _ _) (tu (qB _ _) (tu (qB _ _) (tu (qB _ _) (tu (qB _ _) (fS _)))))
 ·split
  ·exact tu (qB _ _) (tu (qB _ _) (fS _))
  ·split
   ·exact tu (qB _ _) (tu (qB _ _) (tu (qB _ _) (tu (qB _ _) (tu (qB _ _) (tu (X3 _ _ _) (tu (qB _ _) (tu (nD _ _ _ _) (fS _))))))))
   ·exact tu (qB _ _) (tu (qB _ _) (tu (qB _ _) (fS _)))
structure bG(x:zE):Prop where
 kinds:x.kind=1\/x.kind=2\/x.kind=3\/x.kind=4
 EX:0<=x.low
 Hf:x.low<=9999
 ai:0<=x.high
 eu:x.high<=9999
 sums:∀a,a<x.sum.length->0<=(aY x.sum a).num/\(aY x.sum a).num<=9999
 AU:x.sum.length<=10000
 nodes:qZ x.nd
 rule:x.kind=3->0<x.sum.length/\0<=x.root/\x.root<(x.nd.length:Int)
structure cR(w:World)(x:LX):Prop where
 s1:∃a n c,x.2.1=.slice a n c
 s2:∃a n c,x.2.2=.slice a n c
 sum:0<x.1.sum.length->∃g c yB,x.2.1=.slice (some ⟨g,0,none⟩) x.1.sum.length c/\qP w g yB x.1.sum
 EV:0<x.1.nd.length->∃g c yB,x.2.2=.slice (some ⟨g,0,none⟩) x.1.nd.length c/\xT w g yB x.1.nd
theorem cR.kt{w:World}{W:Nat}{x:LX}(h:cR w x)(hk:KT W w w'):cR w' x :=
 ⟨h.s1,h.s2,λh0=>let ⟨g,c,yB,e,p⟩:=h.sum h0;⟨g,c,yB,e,p.kt hk⟩,λh0=>let ⟨g,c,yB,e,p⟩:=h.EV h0;⟨g,c,yB,e,p.kt hk⟩⟩
theorem cR.iu{w:World}{B:Nat}{x:LX}(h:tE w B x.2.1 x.2.2 x.1):cR w x:=by
 refine⟨uB h.1,uB h.2,λh0=>?_,λh0=>?_⟩
 ·rcases h.1.2 with ⟨_,h2⟩|⟨g,cap,yB,h1,_,h3,_,_,_,h7⟩
  ·omega
  ·exact⟨g,cap,yB,h1,h3,h7⟩
 ·rcases h.2.2 with ⟨_,h2⟩|⟨g,cap,yB,h1,_,h3,_,_,_,h7⟩
  ·omega
  ·exact⟨g,cap,yB,h1,h3,h7⟩
theorem PO(w:World)(W:Nat)(st:qX)(x:LX)(h:kG w W st)(hg:bG x.1)(hb:cR w x)(hn:(rA x.1 st).1.length<=tS) :
 Calls prog 82 #[.pointer (some ⟨W,0,none⟩),uG x.2.1 x.2.2 x.1] w λe w'=>e=.returned (.tuple #[])/\kG w' W (rA x.1 st)/\KT W w w':=by
 obtain⟨⟨k,nm,lo,hi,cc,S,N,ro,te,de,lw⟩,sv,nv⟩:=x;obtain⟨sa,sn,sc,e1⟩:=hb.s1;obtain⟨na,nn,nc,e2⟩:=hb.s2;simp only at e1 e2;simp only[uG,rA]at hn ⊢;have hk:=hg.kinds;simp only at hk;by_cases k1:k=1
 ·subst k1 e1 e2;simp only[dj]at hn ⊢
  exact GO w W st lo hi te de nm cc lw sa na sn sc nn nc ro h hg.EX hg.Hf hg.ai hg.eu hn
 rw[tj k1]at hn ⊢;by_cases k2:k=2
 ·subst k2 e1 e2;simp only[dj]at hn ⊢
  exact Cg w W st lo hi te de nm cc lw sa na sn sc nn nc ro h hn
 rw[tj k2]at hn ⊢;by_cases k3:k=3
 ·subst k3;simp only[dj]at hn ⊢
  obtain⟨hs0,cV,dB⟩:=hg.rule rfl;simp only at hs0 cV dB;obtain⟨gS,cS,aQ,f1,hp⟩:=hb.sum hs0;obtain⟨gN,cN,aR,f2,hq⟩:=hb.EV (by show 0<N.length;omega);simp only at f1 f2 hp hq;subst f1 f2;obtain⟨root,rfl⟩:=mz cV;rw[fm]at hn ⊢;exact Ce w W st lo hi te de nm cc lw gS cS gN cN root aQ aR S N h hp hq hg.AU hg.sums hg.nodes (by omega) hn
 ·rw[tj k3]at hn ⊢
  have k4:k=4:=by omega
  subst k4 e1 e2;exact Cf w W st lo hi te de nm cc lw sa na sn sc nn nc ro h hn
def lz:LX:=(⟨0,[],0,0,[],[],[],0,0,0,[]⟩,(.slice none 0 0,.slice none 0 0))
def pP(ls:List LX)(i:Nat):LX:=ls.getD i lz
structure Y7(w:World)(gl:Nat)(yB:Array Value)(ls:List LX):Prop where
 blk:w.heap[gl]? = some (.cells yB 184 (0,0))
 row:yB.toList.take (ls.length*11)=lJ ls
theorem Y7.kt{w:World}{W:Nat}{yB:Array Value}{ls:List LX}(h:Y7 w gl yB ls)(hk:KT W w w'):Y7 w' gl yB ls:=⟨hk.kept _ _ h.blk (zU),h.row⟩
theorem Y7.lt{w:World}{yB:Array Value}{ls:List LX}(h:Y7 w gl yB ls):gl<w.heap.size:=by
 rcases mc gl w.heap.size with h1|h1
 ·exact h1
 ·have h2:=h.blk;rw[pw h1]at h2;cases h2
theorem uw(ls:List LX):∀i,i<ls.length->∀j,j<11->(lJ ls)[i*11+j]? = (eT (pP ls i))[j]? := by
 induction ls with
 | nil=>intro i h;simp at h
 | cons t r ih =>
   intro i h j hj;have e:lJ (t::r)=eT t++lJ r:=by simp[lJ]
   have hl:(eT t).length=11:=rfl
   cases i with
   | zero=>rw[e,mj (by rw[hl];omega)];simp[pP]
   | succ i =>
     rw[e,l8 (by rw[hl];omega),hl,show (i+1)*11+j-11=i*11+j by omega,ih i (by simpa using h) j hj];simp[pP]
theorem Y7.cell{w:World}{yB:Array Value}{ls:List LX}(h:Y7 w gl yB ls){a:Nat}(ha:a<ls.length)(j:Nat)(hj:j<11){u:Value}(hu:(eT (pP ls a))[j]? = some u):w.cell? ⟨gl,a*11+j,none⟩=some u :=
 xL h.blk h.row ((uw ls a ha j hj).trans hu)
def cB:List LX->qX->qX
 | [],st=>st
 | x::r,st=>cB r (rA x.1 st)
theorem GW(ls:List LX):∀st,st.1.length<=(cB ls st).1.length:=by
 induction ls with
 | nil=>intro st;exact tg _
 | cons x r ih=>intro st;rw[cB];exact tu (TE _ _) (ih _)
theorem LU(ls:List LX)(k:Nat)(h:k<ls.length):ls.drop k=pP ls k::ls.drop (k+1):=by
 rw[ph h];simp[pP,List.getD,h]
theorem Z8{ls:List LX}{k:Nat}(h:k<ls.length):pP ls k∈ls:=by simp[pP,List.getD,h]
theorem j9(w:World)(gl cap:Nat)(yB:Array Value)(ls:List LX)(hL:Y7 w gl yB ls)(dn:ls.length<=10000)(hg:∀x∈ls,bG x.1)(hb:∀x∈ls,cR w x)(bA:s9 w)(b8:∃g,prog.globalNamed "internal/strconv.uint64pow10" = some g/\g<w.heap.size)(hn:(cB ls ([],false)).1.length<=tS) :
 Calls prog 58 #[.slice (some ⟨gl,0,none⟩) ls.length cap] w λe w'=>e=.returned (.string ⟨(cB ls ([],false)).1.toArray⟩)/\Below w.heap.size w w':=by
 have ct:=zA hL;have dZ:=zA hg;have cv:=zA hb;have HN:=zA hn;have b6:KT w.heap.size w (w.alloc (oY (.slice none 0 0) false)):=(KT.refl _ w).new (tg _) _
 have cO:kG (w.alloc (oY (.slice none 0 0) false)) w.heap.size ([],false) :=
  ⟨⟨.slice none 0 0,zF _ _,ly _ _ _ _⟩,bA.below b8 b6.below,b8⟩
 have cb:=zA cO;have bw:=zA b6;generalize dD:w.heap.size=W at *;have dv:=zA dD;clear hL hg hb hn cO b6 bA b8
 go_enter func58,ntmps58
 go_wp2_with fail
 go_loopw [9] (λiv wr=>∃(i:Nat) (st:qX),i<=ls.length/\iv=.int .i64 i/\Hid (kG wr W st)/\Hid (Y7 wr gl yB ls)/\Hid (∀x∈ls,cR wr x)/\Hid (KT W w wr)/\Hid (cB (ls.drop i) st=cB ls ([],false))) (λiv _=>ls.length-(intOf iv).toNat)
 case atStart=>exact⟨0,([],false),p8,rfl,cb,zA (ct.out.kt bw.out),zA (λx hx=>(cv.out x hx).kt bw.out),bw,zA rfl⟩
 case round =>
  obtain⟨i,st,hi,rfl,bI,cJ,bR,bW,HE⟩:=hrel;clear cb bw ct cv;have bF:=bI.out.wr.lt;by_cases ar:i<ls.length
  ·have hx:=λj hj (u:Value) hu=>cJ.out.cell ar j hj (u:=u) hu
   have b7:=cJ.out.lt;have nX:wr.heap.size≠gl:=(by omega);have hE:=HE.out;rw[LU ls i ar,cB]at hE;have hb:=HN.out;rw[<-hE]at hb;have bE:=tu (GW _ _) hb;have bS:=Z8 ar;have cn:=zA (λw' (h':kG w' W st) (hB:cR w' (pP ls i))=>PO w' W st (pP ls i) h' (dZ.out _ bS) hB bE);have bt:=bR.out _ bS;obtain⟨sa,sn,sc,e1⟩:=bt.s1;obtain⟨na,nn,nc,e2⟩:=bt.s2;have dc:=zA bt;have av:=zA hE;have c0:=hx 0 (by omega) _ rfl;have c1:=hx 1 (by omega) _ rfl;have c2:=hx 2 (by omega) _ rfl;have c3:=hx 3 (by omega) _ rfl;have c4:=hx 4 (by omega) _ rfl;have c5:=hx 5 (by omega) _ rfl;have c6:=hx 6 (by omega) _ rfl;have c7:=hx 7 (by omega) _ rfl;have c8:=hx 8 (by omega) _ rfl;have c9:=hx 9 (by omega) _ rfl;have ax:=hx 10 (by omega) _ rfl;clear hE hb bE HE hx bt;generalize pP ls i=x at *;obtain⟨⟨k,nm,lo,hi',cc,S,N,ro,te,de,lw⟩,sv,nv⟩:=x;simp only at e1 e2 c0 c1 c2 c3 c4 c5 c6 c7 c8 c9 ax;subst e1 e2;simp only[uG]at cn;rw[lh]at c0;clear bS;go_wp2_with fail
   refine(cn.out _ (kG.new bI.out _) (dc.out.kt ((KT.refl W wr).new (p7 bF) _))).mono ?_;rintro e w1 ⟨rfl,hs1,aA⟩;have hk:KT W wr w1:=KT.trans ((KT.refl W wr).new (p7 bF) _) aA;have aF:=zA hs1;have aj:=zA (cJ.out.kt hk);have aS:Hid (∀x∈ls,cR w1 x):=λx hx=>(bR.out x hx).kt hk;have aC:Hid (KT W w w1):=bW.out.trans hk;clear hs1 aA hk c0 c1 c2 c3 c4 c5 c6 c7 c8 c9 ax;go_wp2_with fail
   go_roundw
   case rel=>exact⟨i+1,_,by omega,by go_num,aF,aj,aS,aC,av⟩
   case measure=>simp[intOf];omega
  ·have hE:=HE.out
   rw[pf (by omega),cB]at hE;have av:=zA hE;obtain⟨ov,cM,aN⟩:=bI.out.wr;obtain⟨c0,_,_⟩:=bU cM;have hcv:=Br aN;obtain⟨oa,on,oc,rfl⟩:=uB aN;clear hE HE cM aN;go_wp2_with fail
   go_ret
   rw[<-av.out];exact⟨rfl,bW.out.below⟩
def ZZ:List zE->qX->qX
 | [],st=>st
 | x::r,st=>ZZ r (rA x st)
theorem Cp(ls:List LX):∀st,cB ls st=ZZ (ls.map Prod.fst) st:=by
 induction ls with
 | nil=>intro st;rfl
 | cons x r ih=>intro st;rw[cB,cf,ZZ,ih]
structure zFV(n:Nat)(l:Bs):Prop where
 ow:(yZ l).2.2=true->0<=YN l
 reads:(yZ l).2.2=false->YN l<0
 gm:(yZ l).2.2=false->∀x∈(yZ l).1,bG x
 many:(yZ l).1.length<=10000
 text:(yZ l).2.2=false->(ZZ (yZ l).1 ([],false)).1=X9 n l
 short:(X9 n l).length<=tS
 LH:YN l<0->∀p∈Yi (xI l 0),Bb n (XO (xI l 0) p)
theorem ja(w:World):Calls prog 58 #[.slice none 0 0] w λe w'=>e=.returned (.string ⟨#[]⟩)/\Below w.heap.size w w':=by
 have hcv:∀w:World,(convert 118 9 (.slice none 0 0)).run prog w=.ok (.string ⟨#[]⟩) w:=λw=>Br (B:=0) (out:=[]) (ly w 0 5 1)
 go_enter func58,ntmps58
 go_wp2_with fail
 go_loop [9] (λiv=>iv=.int .i64 0) (λ_=>0)
 case atStart=>rfl
 case round =>
  obtain rfl:=hrel;go_wp2_with fail
  go_ret
  exact⟨rfl,fk (tg _) _⟩
theorem Cn{n:Nat}(h:4000<l.length):YA n l=([],1):=by unfold YA;rw[tr h]
theorem Co{n:Nat}(h:¬ 4000<l.length)(h2:0<=YN l):YA n l=([],2):=by unfold YA;rw[tj h,tr h2]
theorem S9{n:Nat}(h:¬ 4000<l.length)(h2:YN l<0):YA n l=(X9 n l,0):=by unfold YA;rw[tj h,i6]
def IZ(w:World):Prop:=s9 w/\∃g,prog.globalNamed "internal/strconv.uint64pow10" = some g/\g<w.heap.size
theorem QY(l:Bs)(w:World)(k:Int)(hk:k=1\/k=2)(p:Int)(hR:Calls prog 55 #[.string ⟨l.toArray⟩] w λe w'=>e=.returned (jE (.slice none 0 0) k p)/\Below w.heap.size w w') :
 Calls prog 38 #[.string ⟨l.toArray⟩] w λe w'=>e=.returned (.tuple #[.string ⟨#[]⟩,.int .i64 k])/\Below w.heap.size w w':=by
 have HR:=zA hR;have e1:(k != 0)=true:=by rcases hk with rfl|rfl <;> rfl
 clear hR hk
 go_enter func38,ntmps38
 go_wp2_with fail
 refine HR.out.mono ?_;rintro e w1 ⟨rfl,hb⟩;have HB:=zA hb;have hs:=hb.size;clear hb HR;unfold jE;go_wp2_with fail
 go_region_held3 (λw'=>w'.cell? ⟨w1.heap.size,1,none⟩=some (.int .i64 k)) (go_keep) (fail)
 go_wp2_with fail
 go_ret2
 exact⟨rfl,(HB.out.alloc hs _).drew⟩
theorem Fk(n:Nat)(l:Bs)(w:World)(cz:l.length<=maxLen)(hv:IZ w)(hp:l.length<=4000->zFV n l) :
 Calls prog 38 #[.string ⟨l.toArray⟩] w λe w'=>e=.returned (.tuple #[.string ⟨(YA n l).1.toArray⟩,.int .i64 (YA n l).2])/\Below w.heap.size w w':=by
 by_cases hl:4000<l.length
 ·rw[Cn hl]
  exact QY l w 1 (.inl rfl) 0 (bT l w cz hl)
 ·have hP:=hp (by omega)
  have hR:=lR l w (by omega);cases hf:(yZ l).2.2
  ·rw[S9 hl (hP.reads hf)]
   have bM:=hP.gm hf;have bJ:=hP.text hf;have a6:=hP.short;have bL:=hP.many;have HR:=zA hR
   have cj:Hid (∀w' e,lP w w' l e->∃lv ls,e=.returned (jE lv 0 0)/\ls.map Prod.fst=(yZ l).1/\wV w' w.heap.size lv ls):=by
    intro w' e h;unfold lP at h;rw[hf]at h;exact h
   generalize yZ l=F at *;generalize X9 n l=T at *;have HG:=zA bM;have HT:=zA bJ;have cg:=zA a6;have cm:=zA bL;have HV:=zA hv;clear hR hP hp bM bJ a6 bL hv hf
   go_enter func38,ntmps38
   go_wp2_with fail
   refine HR.out.mono ?_;rintro e w1 ⟨cU,hb⟩;obtain⟨lv,ls,rfl,bq,aN,hrows⟩:=cj.out _ _ cU;have HB:=zA hb;have hs:=hb.size;obtain⟨la,ln,lc,rfl⟩:=uB aN;have cY:∀x∈ls,bG x.1:=λx hx=>HG.out _ (by rw[<-bq];exact pd.2 ⟨x,hx,rfl⟩);have br:(cB ls ([],false)).1=T:=by rw[Cp,bq];exact HT.out
   have cX:ls.length<=10000:=by have h9:=gk List.length bq;rw[pt]at h9;rw[h9];exact cm.out
   have bO:∀o:Obj,Calls prog 58 #[.slice la ln lc] (w1.alloc o) λe w'=>e=.returned (.string ⟨T.toArray⟩)/\Below (w1.alloc o).heap.size (w1.alloc o) w':=by
    intro o;have bh:Below w.heap.size w (w1.alloc o):=HB.out.alloc hs o;obtain⟨bA,g,hg1,dC⟩:=HV.out;have dm:w.heap.size<=(w1.alloc o).heap.size:=bh.size;rcases aN.2 with ⟨k1,k2⟩|⟨gl,cap,yB,k1,_,k3,_,_,_,k7⟩
    ·have e0:ls=[]:=l5 k2
     subst e0;cases k1
     rw[<-br];exact ja _
    ·cases k1
     rw[<-br];refine j9 (w1.alloc o) gl _ yB ls ⟨yD k3,k7⟩ cX cY (λx hx=>cR.iu ⟨(hrows x hx).1.alloc _,(hrows x hx).2.alloc _⟩) (bA.below ⟨g,hg1,dC⟩ bh) ⟨g,hg1,by omega⟩ (by rw[br];exact cg.out)
   have cu:=zA bO;clear hb cU aN hrows cY br cX bO bq HR cj HG HT cg cm HV;unfold jE;go_wp2_with fail
   refine(cu.out _).mono ?_;rintro e w2 ⟨rfl,bE⟩;have aw:Hid (Below w.heap.size w w2):=(HB.out.alloc hs _).trans (bE.mono (by simp;omega));clear bE cu;go_wp2_with fail
   go_ret2
   exact⟨rfl,aw.out⟩
  ·rw[Co hl (hP.ow hf)]
   refine QY l w 2 (.inr rfl) (yB (rB l) (yZ l).2.1).p (hR.mono ?_);rintro e w' ⟨h1,h2⟩;unfold lP at h1;rw[hf]at h1;exact⟨h1,h2⟩
end Go.Proofs.YtnbpdffdnphbeabGreatDoor
