import Derived.Great.BuildSlice
import Derived.Deep.CutBlock
import Derived.Test.YtppjlpihaocdiaaGreatDoorAqQ
import Derived.Test.YtppjlpihaocdiaaGreatDoorAbQ
set_option linter.all false
set_option maxRecDepth 100000
set_option maxHeartbeats 16000000
namespace Go.Proofs.YtppjlpihaocdiaaGreatDoor
open Go.RowKit Go.Proofs.Tryz
variable{w u v:ae}{a b c d e:Nat}{s t:ag}{x y z:af}{p D:Int}{l:List af}{f:Bool}{g:List Nat}{h:Nat->Prop}{o:Option Addr}{r:List UInt8}{A:Nat->Bool}{B:Nat->Nat->Bool}{C:Nat->Nat->Prop}(i:Nat)(S T:ag)(V X:af)(j k m n:Nat)(Z:Int)(W:ae)
section
def bd.auz{w:ae}(g:bd w b l)(c:Nat)(d:List af)(n:c+d.length<=l.length):bd (w.setCells b c d) b (l.take c++d++l.drop (c+d.length)):=by
 have j:w.there b c d.length:=λe o=>by
  have:=g.free (c+e) Q;simpa using this
 have k:(l.take c++d++l.drop (c+d.length)).length=l.length:=qB
 refine⟨λe m f=>?_,by rw[k];exact World.there_setCells g.free b c _⟩;rw[qo];by_cases h:e<c
 .rw[yzr b _ _ _ _<|λ_ _=> .inl h];apply g.cell;rw[nt,oq qB,Cg,G h]at f;exact f
 by_cases p:e<c+d.length
 .have i:=World.rangeAt_setCells_same w b c d j (e-c) m (by
   rw[nt,sn qB,oq qB]at f;rw[yxb,yi Q]at f;exact f)
  rw[show c+(e-c)=e from Q]at i;exact i
 rw[yzr b _ _ _ _<|λ_ _=> .inr<|by show c+d.length<=e;omega];apply g.cell;rw[sn qB,zya]at f;simp only[ga,yxb]at f;rw[yi Q,show c+d.length+(e-(c+d.length))=e from Q]at f;exact f
section
variable {P:Program} {ops:Array Oper} {rest:List Oper} {op:Oper} {a:Act} {w:ae} {K:Exit->Act->ae->Prop}
def Av(l:op.guard=none)(f:TypeId)(i g:Operand)(o:op.op=.store f i g)(d c:Nat)(p:a.eval i= ab d c)(b:List af)(q:a.eval g=.agg b.toArray)(e j:List af)
  (k:bd w d e) (r:c+b.length<=e.length) (s:e.take c++b++e.drop (c+b.length)=j) (n:(P.info? f).map (·.size)=some b.length) (t:∀y∈b,y.oneCell'=true)
  (m:∀h,bd h d j->bf d w h->wpList P ops K rest (a.put op.dst undef) h):wpList P ops K (op::rest) a w:=by
 have u:w.there d c b.toArray.size:=λv x=>by
  have:=k.free (c+v) (by simp at x;omega);simpa using this
 refine wpList_store_mid l f i g o d c b.toArray p q u (qK n) (all_oneCell_toArray t) ?_;have:=m (w.setCells d c b) (s▸bd.auz k c b r)<|bf.setCells d _ c w;simpa using this
def Cs{j:Func}{i:Ending->ae->Prop}(g h:Tmp)(d:TypeId)(k:j.results=#[.cell g d,.tmp h])(hd:a.defers=[])(c:Nat)(o:a.tmps.getD g undef= ab c 0)(b:List af)(f:TypeDesc)(e:af)(p:a.tmps.getD h undef=e)
  (q:bd w c b) (r:P.underlying d=some f) (l:f.isRow=true) (n:(P.info? d).map (·.size)=some b.length) (s:i (.returned<|.tuple #[.agg b.toArray,e]) w):bodyPost P j i .ret a w:=by
 refine yyd (v:=.tuple #[.agg b.toArray,e]) ?_ hd s;have m:=run_loadVar_mid (P:=P) w c 0 d b f q.km r l n;simp only[results,k];have t:a.tmps[g]?.getD undef= ab c 0:=qK o
 have u:a.tmps[h]?.getD undef=e:=qK p
 simp[yzz,Result.andThen,t,u,asAddr,m]
end
def Mw.bj{g w w':ae}(e:Mw b g w)(f:bf c w w')(m:g.heap.size<=c:=by omega)(n:b<g.heap.size:=by omega):Mw b g w':=by
 have h:=f.block b Q;exact⟨f.os.trans e.os,f.tape.trans e.tape,f.output.trans e.output,by rw[f.size];exact e.size,λd i j=>(f.block d Q).trans<|e.block d i j,λd k l=>(ac d h).trans<|e.cell d k l,λd=>(ad d h).trans<|e.cd d⟩
def Cu.bj{w w':ae}(j:Cu w b s d p)(k:bf c w w')(m:b≠c:=by omega):Cu w' b s d p:=by
 let⟨⟨i,l,n,o,q⟩,r,t⟩:=j;have g:=k.block b m;have f:∀e,w'.cell? (O b e)=w.cell? (O b e):=λe=>ac e g
 have h:∀e,w'.frozen? (O b e)=w.frozen? (O b e):=λe=>ad e g
 exact⟨⟨(f 0).trans i,(f 1).trans l,(h 1).trans n,o,q⟩,(f 5).trans r,(h 5).trans t⟩
def du.bj{h w w':ae}(g:du b c h w)(e:bf d w w')(k:d<=b\/c<=d:=by omega):du b c h w':=
 ⟨λf i j=>(e.block f Q).trans<|g.same f i j,by rw[e.size];exact g.size⟩
def du.mw{i w j:ae}(e:du b c i w)(f:Mw d w j)(l:d<=b:=by omega):du b c i j:=
 ⟨λg k h=>(f.block g (ew h e.size) Q).trans<|e.same g k h,bq e.size f.size⟩
def ve(f g:Wh):Cm:={wd with fst:=f,snd:=g}
def yn(ao1:Option Addr)(l1 c1:Nat)(r1 g1:Int)(ao2:Option Addr)(l2 c2:Nat)(r2 g2:Int):fw:=⟨ao1,l1,c1,r1,g1,ao2,l2,c2,r2,g2,none,0,0,0,0,.slice none 0 0⟩
def Zi:(prog.info? 200).map (λb=>(b.zero,b.size))=some (some<|.agg (ff wd Dh).toArray,(ff wd Dh).length):=qF
def uy(c:Cm)(b:fw):(prog.info? 200).map (·.size)=some (ff c b).length:=by rw[abe];kernel_rfl
def Ma:(prog.info? 195).map (·.size)=some 5:=qF
def ur(f:Cm)(c:fw)(e:c.tv.oneCell'=true):∀d∈ff f c,d.oneCell'=true:=by
 intro d b
 simp only[ff,vc,za,or_false]at b;obtain rfl|rfl|rfl|rfl|rfl|rfl|rfl|rfl|rfl|rfl|rfl|rfl|rfl|rfl|rfl|rfl|rfl|rfl|rfl|rfl|rfl|rfl|rfl:=b<;>first|rfl|exact e
def akn(w:ae)(H:Cu w i S j Z):
  Calls prog 162 #[.pointer<|some ⟨i,0,none⟩] w λt U=>∃(g:Option Addr)(h m:Nat)(d n:Int)(x:Option Addr)(y z:Nat)(A B:Int),
   t=.returned (.tuple #[.agg (ff (ve (cq S j Z).2.1 (cq S j Z).2.2.1)<|yn g h m d n x y z A B).toArray,.bool (cq S j Z).2.2.2.2])/\Mw i w U/\Cu U i S (cq S j Z).1 (cq S j Z).2.2.2.1/\
   ((cq S j Z).2.2.2.2=true->Ft U w.heap.size U.heap.size (cq S j Z).2.1 g h m d n/\Ft U w.heap.size U.heap.size (cq S j Z).2.2.1 x y z A B):=by
 have r:=H.lt;have aU:=H.rc.le;have bD:=H.rc.li;rcases df (br S ws j)with D|D
 .have a7:=J D;have u:Y (cq S j Z=if(dc S j Z).2.2.2=true then(if pk S (dc S j Z).1=44 then(if(dc S ((dc S j Z).1+1) (dc S j Z).2.2.1).2.2.2=true then(skip S dh (dc S ((dc S j Z).1+1) (dc S j Z).2.2.1).1,(dc S j Z).2.1,(dc S ((dc S j Z).1+1) (dc S j Z).2.2.1).2.1,(dc S ((dc S j Z).1+1) (dc S j Z).2.2.1).2.2.1,true)else((dc S ((dc S j Z).1+1) (dc S j Z).2.2.1).1,(dc S j Z).2.1,(dc S ((dc S j Z).1+1) (dc S j Z).2.2.1).2.1,(dc S ((dc S j Z).1+1) (dc S j Z).2.2.1).2.2.1,false))else(skip S dh (dc S j Z).1,(dc S j Z).2.1,gi,(dc S j Z).2.2.1,true))else((dc S j Z).1,(dc S j Z).2.1,gi,(dc S j Z).2.2.1,false)):=by rw[Y,cq,G D]
  clear D;generalize b:cq S j Z=V at u;clear b;have aK:=Qx S j Z aU;generalize b:dc S j Z=aV at u aK;have aW:=J b;clear b;obtain⟨e,b,s,aX⟩:=aV;simp only at u aK;go_in;go_wp2_with (first
   |(refine gm 2 rfl rfl 200 rfl _ Zi ?_;intro M aY W E)
   |(go_at_call 161;refine(oj i S ws j _ (H.below E).rc).mono ?_;rw[a7.out];rintro t aZ ⟨rfl,X,rfl⟩))
  refine(ajq i S j Z _<|(H.below E).drewN X).mono ?_;rw[aW.out];rintro t w3 ⟨g,h,m,d,n,rfl,c,a8,f⟩;have a9:=((Mw.below E r).drewN X).trans c;have aL:w.heap.size<M.heap.size:=Q
  have aA:=W.cw ((c.block w.heap.size aL Q).trans rfl);have b0:=J f;have bE:=ew aL c.size;have bF:M.heap.size<=w3.heap.size:=c.size;clear c f W E;simp only;cases aX with
  |false=>
   have K:Y (V=(e,b,gi,s,false)):=by rw[Y,u.out];rfl
   clear u;go_wp2_with (first
    |(refine Av rfl 195 (.tmp 15) (.tmp 13) rfl w.heap.size 1 rfl [I b.sort,I b.num,.slice g h m,I d,I n] rfl (ff wd Dh) (ff (ve b gi)<|yn g h m d n none 0 0 0 0) aA (by show 1+5<=23;omega) rfl Ma (by intro a1 o;simp only[vc,za,or_false]at o;obtain rfl|rfl|rfl|rfl|rfl:=o<;>rfl) ?_;intro aM R v)
    |(first
   |(refine ir 18 rfl rfl 200 (.tmp 2) rfl _ rfl _ _ (R) underlying200 rfl (uy _ _) ?_)
   |(refine hw rfl 200 (.tmp 2) (.tmp 18) rfl _ rfl _ rfl _ (R) rfl (uy _ _) (ur _ _ rfl) ?_;intro T C c)))
   rw[K.out];exact Cs 2 3 200 rfl rfl w.heap.size rfl _ _ _ rfl C underlying200 rfl (uy _ _) ⟨g,h,m,d,n,none,0,0,0,0,rfl,(a9.bj v ah r).bj c ah r,(a8.bj v Q).bj c Q,λf=>(by cases f)⟩
  |true=>
   have aN:Y (Ft w3 M.heap.size w3.heap.size b g h m d n):=b0 rfl;by_cases L:pk S e=((44:Nat):Int)
   .have aB:=J L;obtain⟨bG,_⟩:=ho (s:=S) (i:=e) (by rw[L];decide);have a2:Y (V=if(dc S (e+1) s).2.2.2=true then(skip S dh (dc S (e+1) s).1,b,(dc S (e+1) s).2.1,(dc S (e+1) s).2.2.1,true)else((dc S (e+1) s).1,b,(dc S (e+1) s).2.1,(dc S (e+1) s).2.2.1,false)):=by
     rw[Y,u.out,G rfl,G<|by rw[L];rfl]
    have aO:=Qx S (e+1) s Q;generalize q:dc S (e+1) s=b1 at a2 aO;have b2:=J q;clear q L u;obtain⟨a3,q,aP,b3⟩:=b1;simp only at a2 aO;go_wp2_with (first
     |(refine Av rfl 195 (.tmp 15) (.tmp 13) rfl w.heap.size 1 rfl [I b.sort,I b.num,.slice g h m,I d,I n] rfl (ff wd Dh) (ff (ve b gi)<|yn g h m d n none 0 0 0 0) aA (by show 1+5<=23;omega) rfl Ma (by intro a1 o;simp only[vc,za,or_false]at o;obtain rfl|rfl|rfl|rfl|rfl:=o<;>rfl) ?_;intro aM R v))
    have aC:=a9.bj v ah r;have a0:=a8.bj v Q;have b4:=v.size;go_call sr i S e 44 _ a0.rc Q aB as t T ⟨rfl,k⟩;have aD:=aC.trans<|.mv k;have a4:=a0.mv k Q;have aE:=R.cw (k.only.block _ Q);have aF:du M.heap.size w3.heap.size w3 T:=((du.refl ah).bj v Q).mw (.mv k) Q;have bH:=k.only.size.trans b4;clear k;go_wp21;refine(ajq i S (e+1) s _ a4).mono ?_;rw[b2.out];rintro t a5 ⟨x,y,z,A,B,rfl,p,aQ,F⟩;have aR:=aD.trans p;have aS:=aE.cw (p.block w.heap.size Q Q);have b5:=aF.mw p Q;have b6:=J F;have bI:=p.size;clear p F;simp only;cases b3 with
    |false=>
     have K:Y (V=(a3,b,q,aP,false)):=by rw[Y,a2.out];rfl
     go_wp2_with (first
      |(refine Av rfl 195 (.tmp 28) (.tmp 26) rfl w.heap.size 6 rfl [I q.sort,I q.num,.slice x y z,I A,I B] rfl (ff (ve b gi)<|yn g h m d n none 0 0 0 0) (ff (ve b q)<|yn g h m d n x y z A B) aS (by show 6+5<=23;omega) rfl Ma (by intro a1 o;simp only[vc,za,or_false]at o;obtain rfl|rfl|rfl|rfl|rfl:=o<;>rfl) ?_;intro b7 a6 p)
      |(first
   |(refine ir 31 rfl rfl 200 (.tmp 2) rfl _ rfl _ _ (a6) underlying200 rfl (uy _ _) ?_)
   |(refine hw rfl 200 (.tmp 2) (.tmp 31) rfl _ rfl _ rfl _ (a6) rfl (uy _ _) (ur _ _ rfl) ?_;intro aG C c)))
     rw[K.out];exact Cs 2 3 200 rfl rfl w.heap.size rfl _ _ _ rfl C underlying200 rfl (uy _ _) ⟨g,h,m,d,n,x,y,z,A,B,rfl,(aR.bj p ah r).bj c ah r,(aQ.bj p Q).bj c Q,λf=>(by cases f)⟩
    |true=>
     have K:Y (V=(skip S dh a3,b,q,aP,true)):=by rw[Y,a2.out];rfl
     have b8:Y (Ft a5 T.heap.size a5.heap.size q x y z A B):=b6 rfl;go_wp2_with (first
      |(refine Av rfl 195 (.tmp 28) (.tmp 26) rfl w.heap.size 6 rfl [I q.sort,I q.num,.slice x y z,I A,I B] rfl (ff (ve b gi)<|yn g h m d n none 0 0 0 0) (ff (ve b q)<|yn g h m d n x y z A B) aS (by show 6+5<=23;omega) rfl Ma (by intro a1 o;simp only[vc,za,or_false]at o;obtain rfl|rfl|rfl|rfl|rfl:=o<;>rfl) ?_;intro b7 a6 p))
     have aT:=aQ.bj p Q;go_call Mb i S dh a3 _ aT.rc as t aG ⟨rfl,l⟩;have aH:=(aR.bj p ah r).trans<|.mv l;have aI:=aT.mv l (si S dh a3 Q);have F:=a6.cw (l.only.block _ Q);have aJ:=(b5.bj p Q).mw (.mv l) Q;have b9:du T.heap.size a5.heap.size a5 aG:=((du.refl ah).bj p Q).mw (.mv l) Q;clear l;go_wp2_with (first
   |(refine ir 36 rfl rfl 200 (.tmp 2) rfl _ rfl _ _ (F) underlying200 rfl (uy _ _) ?_)
   |(refine hw rfl 200 (.tmp 2) (.tmp 36) rfl _ rfl _ rfl _ (F) rfl (uy _ _) (ur _ _ rfl) ?_;intro bA C c))
     rw[K.out];exact Cs 2 3 200 rfl rfl w.heap.size rfl _ _ _ rfl C underlying200 rfl (uy _ _) ⟨g,h,m,d,n,x,y,z,A,B,rfl,aH.bj c ah r,aI.bj c Q,λ_=>⟨λf=>(aN f).keep (aJ.bj c Q) Q,λf=>(b8 f).keep (b9.bj c Q) Q⟩⟩
   .have aB:=J L;have K:Y (V=(skip S dh e,b,gi,s,true)):=by rw[Y,u.out,G rfl,N<|λt=>L<|by rw[t];rfl]
    clear L u;go_wp2_with (first
     |(refine Av rfl 195 (.tmp 15) (.tmp 13) rfl w.heap.size 1 rfl [I b.sort,I b.num,.slice g h m,I d,I n] rfl (ff wd Dh) (ff (ve b gi)<|yn g h m d n none 0 0 0 0) aA (by show 1+5<=23;omega) rfl Ma (by intro a1 o;simp only[vc,za,or_false]at o;obtain rfl|rfl|rfl|rfl|rfl:=o<;>rfl) ?_;intro aM R v))
    have aC:=a9.bj v ah r;have a0:=a8.bj v Q;go_call qq i S e 44 _ a0.rc Q aB as t T ⟨rfl,k⟩;have aD:=aC.trans<|.mv k;have a4:=a0.mv k Q;have aE:=R.cw (k.only.block _ Q);have aF:du M.heap.size w3.heap.size w3 T:=((du.refl ah).bj v Q).mw (.mv k) Q;clear k;go_wp21;go_call Mb i S dh e _ a4.rc as t aG ⟨rfl,l⟩;have aH:=aD.trans<|.mv l;have aI:=a4.mv l (si S dh e Q);have F:=aE.cw (l.only.block _ Q);have aJ:=aF.mw (.mv l) Q;clear l;go_wp2_with (first
   |(refine ir 36 rfl rfl 200 (.tmp 2) rfl _ rfl _ _ (F) underlying200 rfl (uy _ _) ?_)
   |(refine hw rfl 200 (.tmp 2) (.tmp 36) rfl _ rfl _ rfl _ (F) rfl (uy _ _) (ur _ _ rfl) ?_;intro bA C c))
    rw[K.out];exact Cs 2 3 200 rfl rfl w.heap.size rfl _ _ _ rfl C underlying200 rfl (uy _ _) ⟨g,h,m,d,n,none,0,0,0,0,rfl,aH.bj c ah r,aI.bj c Q,λ_=>⟨λf=>(aN f).keep (aJ.bj c Q) Q,λf=>cb f<|by show ¬((0:Nat)=3);decide⟩⟩
 have a7:=J D;have u:Y (cq S j Z=(j,gi,gi,Z,true)):=by rw[Y,cq,D];rfl
 clear D;rw[u.out];go_in;go_wp2_with (first
  |(refine gm 2 rfl rfl 200 rfl _ Zi ?_;intro M aY W E)
  |(go_at_call 161;refine(oj i S ws j _ (H.below E).rc).mono ?_;rw[a7.out];rintro t aZ ⟨rfl,X,rfl⟩)
  |(refine ir 9 rfl rfl 200 (.tmp 2) rfl _ rfl _ _ (W.cw rfl) underlying200 rfl (uy _ _) ?_)
  |(refine hw rfl 200 (.tmp 2) (.tmp 9) rfl _ rfl _ rfl _ (W.cw rfl) rfl (uy _ _) (ur _ _ rfl) ?_;intro w4 C c))
 exact Cs 2 3 200 rfl rfl w.heap.size rfl _ _ _ rfl C underlying200 rfl (uy _ _) ⟨none,0,0,0,0,none,0,0,0,0,rfl,((Mw.below E r).drewN X).bj c ah r,((H.below E).drewN X).bj c Q,λ_=>⟨λf=>cb f<|by show ¬((0:Nat)=3);decide,λf=>cb f<|by show ¬((0:Nat)=3);decide⟩⟩
end
def adx:(prog.info? 200).map (λa=>(a.zero,a.size,a.bytes))=some (some<|.agg (ff wd Dh).toArray,23,264):=qF
def LC(v:af):Sem af:=Instr.loadAt 200 v
def BC(ps:Array (Nat×af)):Sem af:=Instr.buildSlice 94 1 ps
def Zw:Instr.loadAt 200 V=LC V:=rfl
def Zl(a:Array (Nat×af)):Instr.buildSlice 94 1 a=BC a:=rfl
def ahz(c:bd w a l)(b:l.length=23):(LC<|ab a 0).run prog w=.ok (.agg l.toArray) w:=
 run_loadAt_mid (P:=prog) w a 0 200 l _ c.km underlying200 rfl (by rw[b];kernel_rfl)
def ahx(a:List af)(f:a.length=23):(BC #[(0,.agg a.toArray)]).run prog W=.ok (aa W.heap.size 1 1) (W.alloc<|.cells a.toArray 200):=by
 let⟨h,d,e,b,j⟩:=yyf adx;have i:=Great.fill_whole (s:=23) Q [Value.agg a.toArray] ((Array.range<|1*23).map ((Value.agg (ff wd Dh).toArray).cells[·%(Value.agg (ff wd Dh).toArray).cells.size]!))
  (λg c=>by
   obtain rfl:g=.agg a.toArray:=qK c
   simp[Value.cells,f]) qD
 have:=run_buildSlice (P:=prog) W 94 200 1 #[(0,.agg a.toArray)] a.toArray h _ underlying94 d e (by rw[b];omega) (by rw[b];omega) (by
  rw[b];have g:(#[(0,Value.agg a.toArray)]:Array (Nat×af)).toList=(([Value.agg a.toArray].zipIdx 0).map λc=>(c.2,c.1)):=rfl;rw[g];simpa[Value.cells]using i)
 exact this
theorem Rk.added{d i:ae}{b h l k j:Nat}{X:ag}{g:cj}{m n:af}{aN:Obj}{r:Cm}{v:fw}{xs:List af}(P:Rk d b X g m n)(a3:mq d k j r v)(F:b<=k)(D:j<=d.heap.size)
  (H:∀c,m.ownBlock=some c->c<=k\/j<=c) (a4:∀c,n.ownBlock=some c->c<=k\/j<=c) (E:d.ownsRow (b+1) 200 23 m g.U.length xs) (a2:Rn d b m n xs g.U)
  (o:(d.alloc aN).drew.grownBy i m.ownBlock) (W:i.ownsRow (b+1) 200 23 (aa h (g.U.length+1) l) (g.U.length+1) (xs++ff r v))
  (w:m.ownBlock=some h\/h=d.heap.size+1):
  Rk (i.setCell (O b 3)<|aa h (g.U.length+1) l) b X {g with U:=g.U++[r]} (aa h (g.U.length+1) l) n/\
  Fq b m (aa h (g.U.length+1) l) n n d (i.setCell (O b 3)<|aa h (g.U.length+1) l):=by
 have aL:=P.lt;let⟨⟨⟨aP,aQ,aR,a5,a6⟩,aG,aK⟩,aD,aE,aF,aH,aI,aJ,_,t,S⟩:=P;have K:∀a,a<d.heap.size->some a≠m.ownBlock->i.heap[a]?=d.heap[a]? :=λa f x=>by
  rw[o.block a qB x];exact im _ _ _ f
 have aS:=(W.lt h rfl).1;have R:=K b aL (λe=>by have:=(E.lt b e.symm).1;omega);have T:∀a,i.cell? (O b a)=d.cell? (O b a):=λa=>ac a R
 have aM:∀a,i.frozen? (O b a)=d.frozen? (O b a):=λa=>ad a R
 have p:∀a,a≠3->(i.setCell (O b 3)<|aa h (g.U.length+1) l).cell? (O b a)=d.cell? (O b a):=λa f=>
  (jm (h:=Cr<|.inr<|Ne.symm f) ..).trans (T a)
 have q:∀a,(i.setCell (O b 3)<|aa h (g.U.length+1) l).frozen? (O b a)=d.frozen? (O b a):=λa=>by
  simp_all
 have wg:∀a,a<d.heap.size->a≠b->some a≠m.ownBlock->(i.setCell (O b 3)<|aa h (g.U.length+1) l).heap[a]?=d.heap[a]? :=λa f y x=>by
  rw[er _ _ _ _ y];exact K a f x
 have u:d.heap.size<=(i.setCell (O b 3)<|aa h (g.U.length+1) l).heap.size:=by
  have:=o.size;rw[kg];simp at this;omega
 have hcut:∀{k j:Nat},j<=d.heap.size->(∀c,m.ownBlock=some c->c<=k\/j<=c)->∀c,(aa h (g.U.length+1) l).ownBlock=some c->c<=k\/j<=c:=λZ A c a7=>by
  have z:h=c:=by simpa[Value.ownBlock]using a7
  grind
 have U:∀{k j:Nat},b<=k->j<=d.heap.size->(∀c,m.ownBlock=some c->c<=k\/j<=c)->du k j d (i.setCell (O b 3)<|aa h (g.U.length+1) l):=λaT Z A=>
  ⟨λs qa B=>wg s Q Q (λe=>qE),bq Z u⟩
 refine⟨⟨⟨⟨(p 0 Q).trans aP,(p 1 Q).trans aQ,(q 1).trans aR,a5,a6⟩,(p 5 Q).trans aG,(q 5).trans aK⟩,(p 2 Q).trans aD,qz _ _ _<|(T 3).trans aE,(p 4 Q).trans aF,(q 2).trans aH,(q 3).trans aI,(q 4).trans aJ,⟨xs++ff r v,?_,λa a1 s=> ?_⟩,da t λa f=>wg a (t.lt a f).2 (by have:=(t.lt a f).1;omega)<|λe=>S a e.symm f,?_⟩,?_⟩
 .simp only[ga,qx];exact da W λa f=>er _ _ _ _ (by
   have:h=a:=by simpa[Value.ownBlock]using f
   simp only;omega)
 .by_cases f:a<g.U.length
  .rw[oq f]at s;let⟨a8,a9,aO,L,B,M,aA,aB,aC⟩:=a2 a a1 s;refine⟨a8,a9,aO,L,bq B u,hcut B M,aA,aB.keep<|U L B M,λV a0 C=> ?_⟩;grind
  have B:a=g.U.length:=by
   have:=(jy.1 s).1;simp at this;omega
  subst B;have L:a1=r:=qK s.symm
  subst L;refine⟨k,j,v,F,bq D u,hcut D H,a4,a3.keep<|U F D H,λV a0 C=> ?_⟩;rw[sn<|by rw[E.1];omega,E.1,yyi];exact C
 .intro a f B
  have z:h=a:=by simpa[Value.ownBlock]using f
  obtain e|e:=w
  .grind
  have:=(t.lt a B).2;omega
 refine⟨o.os,o.tape,o.output,u,λa f y qa _=>wg a f y qa,?_,.inl rfl⟩;obtain e|e:=w
 .exact .inl (by rw[e];rfl)
 right;intro a f
 have:h=a:=by simpa[Value.ownBlock]using f
 omega
def Rk.tw{k:cj}(j:Rk w a s k x y)(l:w.heap.size<=u.heap.size)(e:∀b,b<w.heap.size->u.heap[b]?=w.heap[b]?):Rk u a s k x y:=by
 have n:=j.lt;let⟨⟨⟨o,p,q,S,T⟩,r,t⟩,v,z,A,B,C,D,⟨xs,h,U⟩,i,qa⟩:=j;have m:=e a n;have c:∀b,u.cell? (O a b)=w.cell? (O a b):=λb=>ac b m
 have d:∀b,u.frozen? (O a b)=w.frozen? (O a b):=λb=>ad b m
 refine⟨⟨⟨(c 0).trans o,(c 1).trans p,(d 1).trans q,S,T⟩,(c 5).trans r,(d 5).trans t⟩,(c 2).trans v,(c 3).trans z,(c 4).trans A,(d 2).trans B,(d 3).trans C,(d 4).trans D,⟨xs,da h λb f=>e b (h.lt b f).2,λb X W=> ?_⟩,da i λb f=>e b (i.lt b f).2,qa⟩;let⟨E,F,V,H,g,K,L,M,P⟩:=U b X W;exact⟨E,F,V,H,bq g l,K,L,M.keep ⟨λR a0 a1=>e R Q,bq g l⟩,P⟩
def Fq.below{k:cj}{f h g i:af}(b:Fq a f h g i w u)(c:Rk w a s k f g):Below a w u:=by
 let⟨xs,j,_⟩:=c.own;have l:=c.lt;exact⟨b.os,b.tape,b.output,b.size,λe m=>b.block e Q Q (λd=>by have:=(j.lt e d.symm).1;omega) (λd=>by have:=(c.wj.lt e d.symm).1;omega)⟩
theorem aqt(c:Nat)(b:ag)(a:cj)(d f:af)(e:ae)(j:Rk e c b a d f)(y:a.H<b.size)(r:a.bh.length<=1000)(n:a.U.length<=1000):
  Calls prog 163 #[.pointer<|some ⟨c,0,none⟩] e λk m=>∃h,k=.returned (.bool<|decide (a.H+1<eg b 8 (a.H+1)))/\Rk m c b (a.qu b (a.H+1) false) d h/\Fq c d d f h e m:=by
 have o:Rk (e.setCell (O c 1)<|I<|(a.H:Int)+1) c b {a with H:=a.H+1} d f:=j.mw ((Mw.refl c e).sg _) (j.cu.put (a.H+1));have p:Fq c d d f f e (e.setCell (O c 1)<|I<|(a.H:Int)+1):=Fq.mw<|(Mw.refl c e).sg _;have z:=j.cu.rc.li;let⟨u,v,w,_,_⟩:=j.cu.rc;have x:=Am b 8 (a.H+1) Q;have A:(b.extract (a.H+1)<|eg b 8<|a.H+1).size=eg b 8 (a.H+1)-(a.H+1):=by simp[lw];omega
 have s:Y ((!(b.extract (a.H+1)<|eg b 8<|a.H+1).toList.isEmpty)=decide (a.H+1<eg b 8 (a.H+1))):=by
  rw[Y,vv,yxz,zyf,List.isEmpty_eq_false_iff,yyn];constructor
  .intro l
   by_cases q:a.H+1<eg b 8 (a.H+1)
   all_goals simp_all
  intro l k
  have:(b.extract (a.H+1)<|eg b 8<|a.H+1).data.toList.length=0:=by rw[k];rfl
  have q:(b.extract (a.H+1)<|eg b 8<|a.H+1).size=0:=this;omega
 go_in;go_wp21;go_call Vh as k t ⟨h,rfl,g,i⟩;have l:Rk t c b (a.qu b (a.H+1) false) d h:=g;have q:=p.trans i;clear g i;simp only;go_wp21;exact yyd (v:=.bool<|decide (a.H+1<eg b 8 (a.H+1))) (by rw[<-s.out];simp[results,results163,go_sem]) rfl ⟨h,rfl,l,q⟩
def um(d b:Nat)(s:ag)(p:cj)(cv lv:af)(w:ae)(r:cj×Bool):Ending->ae->Prop:=λe w'=>
 (r.2=true/\e=.returned (.bool true)/\(∃cv' lv',Rk w' b s r.1 cv' lv'/\Fq b cv cv' lv lv' w w')/\r.1.op=p.op/\r.1.U.length<=r.1.H/\r.1.bh.length<=r.1.H/\p.H+d<=r.1.H/\p.U.length<=r.1.U.length)\/
 (r.2=false/\e=.returned (.bool false)/\Rc w' b s r.1.H/\Below b w w')
def Hr(N:Nat):Prop:=∀(b:Nat)(s:ag)(p:cj)(cv lv:af)(w:ae),Rk w b s p cv lv->p.U.length<=p.H->p.bh.length<=p.H->p.op<=5->6<=p.op+N->
 Calls prog 69 #[.pointer<|some ⟨b,0,none⟩] w (um 0 b s p cv lv w<|Qqf s N p)
def Rk.Ep{j:cj}(M:Rk w a s j x y)(f:Nat)(W:p=f:=by omega):Rk (w.setCell (O a 2)<|I p) a s {j with op:=f} x y:=by
 subst W;let⟨⟨⟨l,m,n,qa,R⟩,o,q⟩,r,t,u,v,z,A,⟨xs,h,S⟩,i,L⟩:=M;have d:∀b,b≠2->(w.setCell (O a 2)<|I f).cell? (O a b)=w.cell? (O a b):=λb c=>jm (h:=Cr<|.inr<|Ne.symm c) ..
 have e:∀b,(w.setCell (O a 2)<|I f).frozen? (O a b)=w.frozen? (O a b):=λb=>jf ..
 have g:∀b,b≠a->(w.setCell (O a 2)<|I f).heap[b]?=w.heap[b]? :=λb c=>er _ _ _ _ c
 refine⟨⟨⟨(d 0 Q).trans l,(d 1 Q).trans m,(e 1).trans n,qa,R⟩,(d 5 Q).trans o,(e 5).trans q⟩,qz _ _ _ r,(d 3 Q).trans t,(d 4 Q).trans u,(e 2).trans v,(e 3).trans z,(e 4).trans A,⟨xs,da h λb c=>g b (by have:=(h.lt b c).1;omega),λb V U=>?_⟩,da i λb c=>g b (by have:=(i.lt b c).1;omega),L⟩;let⟨B,C,T,D,k,E,F,H,K⟩:=S b V U;exact⟨B,C,T,D,by rw[kg];exact k,E,F,H.keep ⟨λP X Z=>g P Q,by rw[kg];exact k⟩,K⟩
def Fq.set{f d g e:af}(c:Fq a f d g e w u)(v:af):Fq a f d g e w (u.setCell (O a b) v):=
 ⟨c.os,c.tape,c.output,by rw[kg];exact c.size,λj i h k l=>by rw[er _ _ _ _ h];exact c.block j i h k l,c.cl,c.ll⟩
def Dj(a:List Cm)(c b:Nat):(setGoal a c b).length=a.length:=by
 unfold setGoal;split
 .simp
 rfl
def aul(e:List Cm)(c h:Nat){i:Cm}(g:e[c]?=some i)(b:Nat)(f:Cm)(a:(setGoal e c h)[b]?=some f):(b=c/\f={i with cn:=h})\/(b≠c/\e[b]?=some f):=by
 unfold setGoal at a;rw[g]at a;simp only at a;rw[yzk]at a;by_cases d:c=b
 .subst d;have j:=(jy.1 g).1;simp[j]at a;exact .inl ⟨rfl,a.symm⟩
 rw[N d]at a;exact .inr ⟨Ne.symm d,a⟩
def Rk.cn{i c C z d e:Nat}{h:cj}(a9:Rk w i s h (aa c C z) x)(W:d<h.U.length)(g:p=e):
  Rk (w.setCell (O c<|d*23+12)<|I p) i s {h with U:=setGoal h.U d e} (aa c C z) x:=by
 subst g;let⟨⟨⟨X,Z,a0,P,qa⟩,a1,a2⟩,a3,a4,a5,a6,a7,a8,⟨xs,B,L⟩,R,H⟩:=a9;have aE:=(B.lt c rfl).1;have S:c≠i:=Q
 have aB:C=h.U.length:=by
  obtain⟨f,_⟩|⟨_,_,_,f,_⟩:=B.2
  .cases f
  cases f;rfl
 subst aB;have k:∀b,(w.setCell (O c<|d*23+12)<|I e).cell? (O i b)=w.cell? (O i b):=λb=>jm (h:=Cr<|.inl S) ..
 have q:∀b,(w.setCell (O c<|d*23+12)<|I e).frozen? (O i b)=w.frozen? (O i b):=λb=>jf ..
 have E:∀b,b≠c->(w.setCell (O c<|d*23+12)<|I e).heap[b]?=w.heap[b]? :=λb t=>er _ _ _ _ t
 obtain⟨D,F⟩:∃D,h.U[d]?=some D:=⟨_,dy W⟩;have T:=(B.stored (d*23+12)<|I e).1;refine⟨⟨⟨(k 0).trans X,(k 1).trans Z,(q 1).trans a0,P,qa⟩,(k 5).trans a1,(q 5).trans a2⟩,(k 2).trans a3,(k 3).trans a4,(k 4).trans a5,(q 2).trans a6,(q 3).trans a7,(q 4).trans a8,⟨xs.set (d*23+12)<|I e,by simp only[Dj];exact T,λA M aD=>?_⟩,da R λb t=>E b<|λf=>H c rfl<|by rw[<-f];exact t,H⟩;have K:∀{l j:Nat},j<=w.heap.size->(∀b,(aa c h.U.length z).ownBlock=some b->b<=l\/j<=b)->du l j w (w.setCell (O c<|d*23+12)<|I e):=λU aA=>
  ⟨λa m n=>E a (λf=>by have:=aA c rfl;omega),by rw[kg];exact U⟩
 obtain⟨rfl,rfl⟩|⟨aF,V⟩:=aul h.U d e F A M aD
 .let⟨l,j,b,u,m,n,v,y,r⟩:=L A D F;refine⟨l,j,b,u,by rw[kg];exact m,n,v,?_,λa p g=>?_⟩
  .have o:=y.keep<|K m n;exact⟨o.fst,o.snd,o.L,o.gj,o.one⟩
  have aC:a<23:=(jy.1 g).1;rw[yzk];by_cases f:a=12
  .subst f;have o:=(jy.1<|r 12 _ rfl).1;rw[G rfl,G o];exact g
  rw[N];apply r;have o:a=0\/a=1\/a=2\/a=3\/a=4\/a=5\/a=6\/a=7\/a=8\/a=9\/a=10\/a=11\/a=13\/a=14\/a=15\/a=16\/a=17\/a=18\/a=19\/a=20\/a=21\/a=22:=Q
  obtain rfl|rfl|rfl|rfl|rfl|rfl|rfl|rfl|rfl|rfl|rfl|rfl|rfl|rfl|rfl|rfl|rfl|rfl|rfl|rfl|rfl|rfl:=o<;>exact g
 let⟨l,j,b,u,m,n,v,y,r⟩:=L A M V;refine⟨l,j,b,u,by rw[kg];exact m,n,v,y.keep<|K m n,λa p g=>?_⟩;have aC:a<23:=(jy.1 g).1;rw[yzk,N];exact r a p g
section
attribute [local go_sem↓] Zw Zl Go.wp_at_zero Go.wp_at_succ
structure vy(w:ae)(b lo hi:Nat)(cv lv:af)(x:Cm)(q:fw):Prop where
 cm:mq w lo hi x q
 qp:b<=lo
 vj:hi<=w.heap.size
 ym:∀g,cv.ownBlock=some g->g<=lo\/hi<=g
 yo:∀g,lv.ownBlock=some g->g<=lo\/hi<=g
def vy.of{f:Cm}{q:fw}(d:vy w a b c x y f q)(e:du b c w u):vy u a b c x y f q:=⟨d.cm.keep e,d.qp,e.size,d.ym,d.yo⟩
def Fq.Ya{f g i h:af}(d:Fq a f g i h w u)(m:f.ownBlock=some b\/w.heap.size<=b):Fq a f g i h w (u.setCell (O b c) x):=
 ⟨d.os,d.tape,d.output,by rw[kg];exact d.size,λl n o j p=>by
  rw[er _ _ _ _ (by
   obtain e|e:=m
   .intro k;simp only at k;exact j<|by rw[e,k]
   simp only;omega)]
  exact d.block l n o j p,d.cl,d.ll⟩
def Fq.drew{e c f d:af}(b:Fq a e c f d w u):Fq a e c f d w u.drew:=⟨b.os,b.tape,b.output,b.size,b.block,b.cl,b.ll⟩
def adz:∃a,prog.info? 200=some a/\a.zero=some (.agg (ff wd Dh).toArray)/\a.size=23/\a.bytes=264:=yyf adx
def alc(aD:Hr i)(c:Nat)(d:ag)(a:cj)(K h:af)(o:ae)(m:Rk o c d a K h)(f:Cm)(w:fw)(aE aC:Nat)(A:vy o c aE aC K h f w)(b8:a.U.length<=a.H)(b9:a.bh.length<=a.H)(bA:a.H<d.size)(bD:a.op<=5)(bM:6<=a.op+1+i):
  Calls prog 197 #[.pointer<|some ⟨c,0,none⟩,.agg (ff f w).toArray] o (um 1 c d a K h o<|qr (Qqf d i) d a f):=by
 have aO:=J aD;have aB:=m.lt;have S:=m.cu.rc.le;have b5:=m.cu.rc.li;have S:=m.c2;clear aD;by_cases T:a.op=5
 .have l:Y (qr (Qqf d i) d a f=(a,false)):=by rw[Y,qr,G T]
  have aT:(((a.op:Nat):Int)==5)=true:=by rw[T];rfl
  go_in;go_wp2_with (first
   |(refine ti 3 rfl rfl 200 (.tmp 1) rfl _ rfl ?_;intro q z p g;have b:=(g.cell (p:=O c 2) aB).trans S;clear p))
  go_ret;rw[l.out];exact .inr ⟨rfl,rfl,Rc.below m.cu.rc g,g.mono Q⟩
 have aT:(((a.op:Nat):Int)==5)=false:=hh Q;obtain⟨j,k,rfl⟩:∃j k,K=.slice j a.U.length k:=by
  obtain⟨xs,x,_⟩:=m.own;obtain⟨e,b⟩|⟨n,f,_,e,_⟩:=x.2
  .exact⟨none,0,by rw[e,b]⟩
  exact⟨_,_,e⟩
 have l:Y (qr (Qqf d i) d a f=if(Qqf d i {a with H:=a.H+1,op:=a.op+1,U:=a.U++[f]}).2=true/\pk d (Qqf d i {a with H:=a.H+1,op:=a.op+1,U:=a.U++[f]}).1.H=125 then({(Qqf d i {a with H:=a.H+1,op:=a.op+1,U:=a.U++[f]}).1 with H:=(Qqf d i {a with H:=a.H+1,op:=a.op+1,U:=a.U++[f]}).1.H+1,op:=(Qqf d i {a with H:=a.H+1,op:=a.op+1,U:=a.U++[f]}).1.op-1,U:=setGoal (Qqf d i {a with H:=a.H+1,op:=a.op+1,U:=a.U++[f]}).1.U a.U.length (Qqf d i {a with H:=a.H+1,op:=a.op+1,U:=a.U++[f]}).1.U.length},true)else((Qqf d i {a with H:=a.H+1,op:=a.op+1,U:=a.U++[f]}).1,false)):=by rw[Y,qr,N T]
 generalize n:Qqf d i {a with H:=a.H+1,op:=a.op+1,U:=a.U++[f]}=b at l;have aN:=J n;clear n;generalize n:qr (Qqf d i) d a f=L at l;clear n S;obtain⟨b3,aU,aV,aW,aX⟩:=adz;go_in;go_upto_region 6 with(first
  |(refine ti 3 rfl rfl 200 (.tmp 1) rfl _ rfl ?_;intro q z p g;have s:=J<|m.tw g.size g.block;obtain⟨⟨⟨E,F,R,_,_⟩,qa,t⟩,H,M,P,v,C,D,_,_,_⟩:=s.out))
 have B:Y (Rk ((q.setCell (O c 1)<|I<|(a.H:Int)+1).setCell (O c 2)<|I<|(a.op:Int)+1) c d {a with H:=a.H+1,op:=a.op+1} (Value.slice j a.U.length k) h):=(s.mw ((Mw.refl c q).sg _)<|s.cu.put (a.H+1) Q Q).Ep (a.op+1) Q;have W:Fq c (Value.slice j a.U.length k) (Value.slice j a.U.length k) h h o ((q.setCell (O c 1)<|I<|(a.H:Int)+1).setCell (O c 2)<|I<|(a.op:Int)+1):=(((Fq.mw<|Mw.below g aB).set _).set _);have X:bd ((q.setCell (O c 1)<|I<|(a.H:Int)+1).setCell (O c 2)<|I<|(a.op:Int)+1) o.heap.size (ff f w):=p.cw (by rw[er _ _ _ _ qC,er _ _ _ _ qC]);have y:vy ((q.setCell (O c 1)<|I<|(a.H:Int)+1).setCell (O c 2)<|I<|(a.op:Int)+1) c aE aC (Value.slice j a.U.length k) h f w:=A.of ⟨λu z bL=>by rw[er _ _ _ _ (by have:=A.qp;simp only;omega),er _ _ _ _ (by have:=A.qp;simp only;omega)];exact g.block u (by have:=A.vj;omega),by rw[kg,kg];have:=A.vj;omega⟩;generalize((q.setCell (O c 1)<|I<|(a.H:Int)+1).setCell (O c 2)<|I<|(a.op:Int)+1)=n at B W X y|-;clear E F R qa t H M P v C D s p g A;have Z:=m;clear m;have b4:a.H<=400:=Q
 go_cut [] (λaM=>∃E D,Y (Rk aM c d {a with H:=a.H+1,op:=a.op+1,U:=a.U++[f]} (aa E (a.U.length+1) D) h)/\Y (Fq c (Value.slice j a.U.length k) (aa E (a.U.length+1) D) h h o aM))
 case first=>
  obtain⟨xs,x,g⟩:=B.own;have t:=J x;have M:=J g;have P:Y (∀u,((Value.slice j a.U.length k)).ownBlock=some u->c+1<=u/\u<n.heap.size):=λu V=>x.lt u V
  clear x g;obtain⟨⟨⟨a8,a9,aG,_,_⟩,aF,a3⟩,g,U,aA,a4,qa,a5,_,_,_⟩:=B.out;have R:=B.lt;have a6:=ahz (w:=n.drew) (X.cw rfl) rfl;have a7:=ahx n.drew (ff f w) rfl;go_region_law
   ((refine step_append_lies _ (by rfl) _ _ _ (by rfl) (c+1) 200 b3 _ 23 264 underlying94 aU aV aW aX (by rfl) Q (Value.slice j a.U.length k) a.U.length xs (by rfl) ((t.alloc _).drew)
      (O n.heap.size 0) 1 1 (ff f w) (by rfl) (by rfl) (World.news_of_block (cs:=((ff f w)).toArray) (t:=200) (fr:=(0,0))<|yyb n _) (ur _ _ y.cm.one)
      Q qH Q qB (n.heap.size+1) qD ?_;intro E D H v s C a0;have p:=(s.block c qB (λe=>by have:=(P.out _ e.symm).1;omega)).trans<|im n _ c R;have a1:=ac 3 p;have a2:=ad 3 p;rw[U]at a1;rw[qa]at a2;have F:Y _:=B.added y.cm y.qp y.vj y.ym y.yo t.out M.out s v C;clear p v s C a0))
  all_goals go_wp2
  all_goals go_meet
  all_goals exact⟨E,D,F.1,W.trans F.2⟩
 obtain⟨E,D,aY,a1⟩:=hcut;go_wp21;go_call aO.out c d {a with H:=a.H+1,op:=a.op+1,U:=a.U++[f]} _ h _ aY.out qB qC qC qC as e bP U;unfold um at U;rw[aN.out]at U;obtain⟨z,rfl,⟨aP,H,s,a2⟩,V,bE,bF,aZ,a3⟩|⟨z,rfl,aQ,a4⟩:=U
 .have a5:=a1.out.trans a2;have aR:=s.cu.rc.le;clear a2;simp only at V aZ a3;rw[ga,qx]at a3;by_cases t:pk d b.1.H=((125:Nat):Int)
  .have M:=J t;obtain⟨a0,_⟩:=ho (s:=d) (i:=b.1.H) (by rw[t];decide);have C:Y (L=({b.1 with H:=b.1.H+1,op:=b.1.op-1,U:=setGoal b.1.U a.U.length b.1.U.length},true)):=by rw[Y,l.out,G ⟨z,by rw[t];rfl⟩]
   clear t l;obtain⟨g,p,rfl⟩:∃g p,aP= aa g b.1.U.length p:=by
    obtain⟨xs,x,_⟩:=s.own;obtain⟨g,p,e,_⟩:=x.form Q;exact⟨g,p,e⟩
   go_wp21;go_call sr c d b.1.H 125 _ s.cu.rc Q M.out as e w3 ⟨rfl,r⟩;have a6:Rk w3 c d {b.1 with H:=b.1.H+1} (aa g b.1.U.length p) H:=s.mw (.mv r) (s.cu.mv r Q);have P:=a5.trans<|Fq.mw<|.mv r;clear r;have bG:=V;have qa:Y (Rk (w3.setCell (O c 2)<|I a.op) c d {b.1 with H:=b.1.H+1,op:=b.1.op-1} (aa g b.1.U.length p) H):=a6.Ep (b.1.op-1) Q;have R:Fq c (Value.slice j a.U.length k) (aa g b.1.U.length p) h H o (w3.setCell (O c 2)<|I a.op):=P.set _;obtain⟨⟨⟨aF,aG,aL,_,_⟩,aK,a7⟩,aH,aI,aJ,a8,a9,aA,_,_,_⟩:=a6;have b6:b.1.op<=6:=Q
   go_wp21;generalize w3.setCell (O c 2) (I a.op)=w4 at qa R|-;clear aF aG aL aK a7 aH aI aJ a8 a9 aA;obtain⟨⟨⟨aF,aG,aL,_,_⟩,aK,a7⟩,aH,aI,aJ,a8,a9,aA,v,_,_⟩:=qa.out;have b0:Y (∀F:Int,F=(b.1.U.length:Nat)->Rk (w4.setCell (O g<|a.U.length*23+12)<|I F) c d {b.1 with H:=b.1.H+1,op:=b.1.op-1,U:=setGoal b.1.U a.U.length b.1.U.length} (aa g b.1.U.length p) H):=λF b2=>qa.cn (show a.U.length<b.1.U.length from Q) b2
   obtain⟨bH,v,_⟩:=v;have aS:∃F,w4.cell? (O g<|a.U.length*23+12)=some F:=by
    rw[v.cellAt (a.U.length*23+12)<|by show a.U.length*23+12<b.1.U.length*23;omega];exact⟨_,dy<|by rw[v.1];show a.U.length*23+12<b.1.U.length*23;omega⟩
   obtain⟨bO,bI⟩:=aS;have bJ:=v.frozenAt<|a.U.length*23+12;have b7:=(v.lt g rfl).1;have bK:c≠g:=Q
   have b1:Y (((Value.slice j a.U.length k)).ownBlock=some g\/o.heap.size<=g):=by
    obtain e|e:=R.cl
    .exact .inl (by rw[<-e];rfl)
    exact .inr<|e g rfl
   clear v;have v:(0:Int)<=a.U.length:=Q
   have bN:(a.U.length:Int)<b.1.U.length:=Q
   go_region
   all_goals go_wp21
   all_goals go_ret
   all_goals rw[C.out]
   all_goals exact .inl ⟨rfl,rfl,⟨_,_,(b0.out _ rfl).tw ah<|λ_ _=>rfl,(R.Ya b1.out).drew⟩,(by show b.1.op-1=a.op;omega),(by show(setGoal b.1.U a.U.length b.1.U.length).length<=b.1.H+1;rw[Dj];omega),(by show b.1.bh.length<=b.1.H+1;omega),(by show a.H+1<=b.1.H+1;omega),(by show a.U.length<=(setGoal b.1.U a.U.length b.1.U.length).length;rw[Dj];omega)⟩
  have M:=J t;have C:Y (L=(b.1,false)):=by rw[Y,l.out,N<|λp=>t<|by rw[p.2];rfl]
  clear t l;go_wp21;go_call qq c d b.1.H 125 _ s.cu.rc Q M.out as e w3 ⟨rfl,r⟩;have v:=r.rc s.cu.rc aR;have P:=a5.trans<|Fq.mw<|.mv r;clear r;go_wp21;go_ret;rw[C.out];exact .inr ⟨rfl,rfl,v,P.below Z⟩
 have C:Y (L=(b.1,false)):=by rw[Y,l.out,N (λp=>by rw[z]at p;exact cb p.1 qG)]
 have t:=(a1.out.below Z).trans a4;clear a4 l;go_wp21;go_ret;rw[C.out];exact .inr ⟨rfl,rfl,aQ,t⟩
end
def xq(ao:Option Addr)(l c:Nat)(r g:Int)(tv:af)(num:Nat)(all kr:Bool):List af:=[.slice ao l c,I r,I g,tv,I num,.bool all,.bool kr]
def ajx:(prog.info? 198).map (λa=>(a.zero,a.size))=some (some<|.agg (xq none 0 0 0 0 (.slice none 0 0) 0 false false).toArray,(xq none 0 0 0 0 (.slice none 0 0) 0 false false).length):=qF
def yv:(prog.info? 198).map (·.size)=some 7:=qF
def ah6:(prog.info? 88).map (·.size)=some 3:=qF
def Lr(d:Option Addr)(h e:Nat)(k f:Int)(i:Nat)(c j:Bool)(g:x.oneCell'=true):∀b∈xq d h e k f x i c j,b.oneCell'=true:=by
 intro b a
 simp only[xq,vc,za,or_false]at a;obtain rfl|rfl|rfl|rfl|rfl|rfl|rfl:=a<;>first|rfl|exact g
theorem bd.flags{j l:Bool}{k:Nat}(q:bd w b (xq o d e p D x 0 false false))(i:Fl a b w u c j l k):bd u b (xq o d e p D x k j l):=by
 have r:∀f h,(xq o d e p D x k j l)[f]?=some h->u.cell? (O b f)=some h:=by
  intro f h g
  have m:f<7:=(jy.1 g).1;by_cases s:f<4
  .rw[i.pc f s];apply q.cell;have n:f=0\/f=1\/f=2\/f=3:=Q
   obtain rfl|rfl|rfl|rfl:=n<;>exact g
  have n:f=4\/f=5\/f=6:=Q
  obtain rfl|rfl|rfl:=n
  .rw[i.p4];exact g
  .rw[i.p5];exact g
  rw[i.p6];exact g
 refine⟨λf h g=>qE,λf m=>?_⟩;have n:f<7:=m;obtain⟨h,g⟩:∃h,(xq o d e p D x k j l)[f]?=some h:=⟨_,dy m⟩;rw[qo];exact⟨by rw[r f h g];rfl,by rw[i.pf f];exact q.frozen<|by exact n⟩
def Mw.fl{j m:Bool}(g:Mw a w u)(f:Fl a b u v c j m d)(n:w.heap.size<=b:=by omega):Mw a w v:=
 ⟨f.os.trans g.os,f.tape.trans g.tape,f.output.trans g.output,by rw[f.size];exact g.size,λe k h=>(f.block e h Q).trans<|g.block e k h,λe i l=>(f.cell e i).trans<|g.cell e i l,λe=>(f.cd e).trans<|g.cd e⟩
def Cu.fl{h j:Bool}(g:Cu w a s c p)(f:Fl a b w u d h j e)(i:d<=s.size:=by omega):Cu u a s d p:=
 ⟨f.rc g.rc i,(f.cell 5 Q).trans g.c5,(f.cd 5).trans g.f5⟩
def du.fl{c b k l a f:Nat}{h m:Bool}(e:du a f w u)(d:Fl c b u v k h m l)(n:c<=a:=by omega)(o:b<=a:=by omega):du a f w v:=
 ⟨λg i j=>(d.block g Q Q).trans<|e.same g i j,by rw[d.size];exact e.size⟩
def Bf(b:Nat)(s:ag)(w:ae)(x:Cm)(r:Nat×Cm×Int×Bool):Ending->ae->Prop:=λe w'=>∃(ao:Option Addr)(l c:Nat)(r3 g:Int)(tv:af)(num:Nat)(all kr:Bool),
   e=.returned (.tuple #[.agg (xq ao l c r3 g tv num all kr).toArray,.bool r.2.2.2])/\tv.oneCell'=true/\Mw b w w'/\Cu w' b s r.1 r.2.2.1/\
   (r.2.2.2=true->∃pt tp,r.2.1={x with L:=pt,gj:=tp,num:=num,all:=all,kr:=kr}/\jz w' w.heap.size w'.heap.size pt (.slice ao l c) (I r3) (I g)/\Du w' w.heap.size w'.heap.size tp tv)
def as2(p:Nat)(a:ag)(b:Nat)(c:Int)(e:Cm)(d:ae)(A:Cu d p a b c):
  Calls prog 199 #[.pointer<|some ⟨p,0,none⟩] d (Bf p a d e<|ii a b c e):=by
 have k:=A.lt;have bH:=A.rc.le;have bG:=A.rc.li;by_cases C:pk a b=((47:Nat):Int)
 .have V:=J C;let⟨bI,_⟩:=ho (s:=a) (i:=b) (by rw[C];decide);have s:Y (ii a b c e=if(dx a (b+1) c).2.2.2=true then(if(ks a (eo (dx a (b+1) c).2.1) (dx a (b+1) c).1).2.2=true then((flagF a 4 (ks a (eo (dx a (b+1) c).2.1) (dx a (b+1) c).1).1 false false 0).1,{e with L:=(dx a (b+1) c).2.1,gj:=(ks a (eo (dx a (b+1) c).2.1) (dx a (b+1) c).1).2.1,num:=(flagF a 4 (ks a (eo (dx a (b+1) c).2.1) (dx a (b+1) c).1).1 false false 0).2.2.2,all:=(flagF a 4 (ks a (eo (dx a (b+1) c).2.1) (dx a (b+1) c).1).1 false false 0).2.1,kr:=(flagF a 4 (ks a (eo (dx a (b+1) c).2.1) (dx a (b+1) c).1).1 false false 0).2.2.1},(dx a (b+1) c).2.2.1,true)else((ks a (eo (dx a (b+1) c).2.1) (dx a (b+1) c).1).1,e,(dx a (b+1) c).2.2.1,false))else((dx a (b+1) c).1,e,(dx a (b+1) c).2.2.1,false)):=by rw[Y,ii,G<|by rw[C];rfl]
  clear C;generalize f:ii a b c e=T at s;clear f;have a5:=Lj a (b+1) c;generalize f:dx a (b+1) c=aG at s a5;have aJ:=J f;clear f;obtain⟨i,S,L,bA⟩:=aG;simp only at s a5;go_in;go_wp2_with (first
   |(refine gm 2 rfl rfl 198 rfl _ ajx ?_;intro bE b6 W x)
   |(go_at_call 100;go_call sr p a b 47 _ (A.below x).rc Q V as H E ⟨rfl,j⟩;have Z:=(Mw.below x k).trans<|.mv j;have a0:=(A.below x).mv j Q;have U:=W.cw (j.only.block _ Q);have aL:d.heap.size<E.heap.size:=(by have:=j.only.size;omega);clear j))
  refine(Ps p a (b+1) c _ a0).mono ?_;rw[aJ.out];rintro H w3 ⟨o,r,q,B,t,rfl,f,a6,g⟩;have a7:=Z.trans f;have a8:=U.cw (f.block d.heap.size aL Q);have aM:=J g;have bJ:=f.size;clear f g;simp only;cases bA with
  |false=>
   have D:Y (T=(i,e,L,false)):=by rw[Y,s.out];rfl
   go_wp2_with (first
    |(refine Av rfl 88 (.tmp 15) (.tmp 13) rfl d.heap.size 0 rfl [.slice o r q,I B,I t] rfl (xq none 0 0 0 0 (.slice none 0 0) 0 false false) (xq o r q B t (.slice none 0 0) 0 false false) a8 (by show 0+3<=7;omega) rfl ah6 (by intro bD R;simp only[vc,za,or_false]at R;obtain rfl|rfl|rfl:=R<;>rfl) ?_;intro a4 M y)
    |(first
   |(refine ir 18 rfl rfl 198 (.tmp 2) rfl _ rfl _ _ (M) underlying198 rfl yv ?_)
   |(refine hw rfl 198 (.tmp 2) (.tmp 18) rfl _ rfl _ rfl _ (M) rfl yv (Lr _ _ _ _ _ _ _ _<|by first|rfl|exact K) ?_;intro h z g)))
   rw[D.out];refine Cs 2 3 198 rfl rfl d.heap.size rfl _ _ _ rfl z underlying198 rfl yv (show Bf _ _ _ _ _ _ _ by unfold Bf;exact⟨o,r,q,B,t,_,0,false,false,rfl,rfl,(a7.bj y ah k).bj g ah k,(a6.bj y).bj g,λqa=>(by cases qa)⟩)
  |true=>
   have X:Y (jz w3 E.heap.size w3.heap.size S (.slice o r q) (I B)<|I t):=aM rfl;obtain⟨f,l⟩:∃f,eo S=f:=⟨_,rfl⟩;have aN:f<=9:=by rw[<-l];exact X.2.1
   have aO:Y (t=(f:Int)):=by
    have:=X.1;rw[l]at this;injection this
   have P:Y (T=if(ks a f i).2.2=true then((flagF a 4 (ks a f i).1 false false 0).1,{e with L:=S,gj:=(ks a f i).2.1,num:=(flagF a 4 (ks a f i).1 false false 0).2.2.2,all:=(flagF a 4 (ks a f i).1 false false 0).2.1,kr:=(flagF a 4 (ks a f i).1 false false 0).2.2.1},L,true)else((ks a f i).1,e,L,false)):=by rw[Y,s.out,G rfl,l]
   clear s l;generalize l:ks a f i=aH at P;have aP:=J l;clear l;let⟨u,a3,aQ⟩:=aH;simp only at P;go_wp2_with (first
    |(refine Av rfl 88 (.tmp 15) (.tmp 13) rfl d.heap.size 0 rfl [.slice o r q,I B,I t] rfl (xq none 0 0 0 0 (.slice none 0 0) 0 false false) (xq o r q B t (.slice none 0 0) 0 false false) a8 (by show 0+3<=7;omega) rfl ah6 (by intro bD R;simp only[vc,za,or_false]at R;obtain rfl|rfl|rfl:=R<;>rfl) ?_;intro a4 M y;have b8:=M.xc 2))
   have aR:=a7.bj y ah k;have a9:=a6.bj y;have bK:=y.size;have aS:du E.heap.size w3.heap.size w3 a4:=(du.refl ah).bj y;rw[aO.out];refine(av8 p a f i _ a9.rc aN).mono ?_;rw[aP.out];rintro H h ⟨l,m,n,rfl,F,aT,a2⟩;have K:(Value.slice l m n).oneCell'=true:=rfl;have aA:=aR.trans<|Mw.vp F;have aB:=a9.vp F aT;have a1:=M.cw (F.block d.heap.size Q Q);have aU:=aS.mw<|Mw.vp F;have aV:=J a2;have bL:=F.size;have b9:=a1.xc 3;have b2:=a1.frozen (k:=3) (by show 3<7;omega);have v:bd (h.setCell (O d.heap.size 3)<|.slice l m n) d.heap.size (xq o r q B t (.slice l m n) 0 false false):=a1.put 3 (by show 3<7;omega)<|.slice l m n;have w:bf d.heap.size h (h.setCell (O d.heap.size 3)<|.slice l m n):=(bf.refl _ _).setCell _ _;clear F a2;simp only;cases aQ with
   |false=>
    have D:Y (T=(u,e,L,false)):=by rw[Y,P.out];rfl
    go_wp2_with (first
   |(refine ir 30 rfl rfl 198 (.tmp 2) rfl _ rfl _ _ (v) underlying198 rfl yv ?_)
   |(refine hw rfl 198 (.tmp 2) (.tmp 30) rfl _ rfl _ rfl _ (v) rfl yv (Lr _ _ _ _ _ _ _ _ Q) ?_;intro bF z g))
    rw[D.out];refine Cs 2 3 198 rfl rfl d.heap.size rfl _ _ _ rfl z underlying198 rfl yv (show Bf _ _ _ _ _ _ _ by unfold Bf;exact⟨o,r,q,_,_,_,0,false,false,rfl,K,(aA.bj w ah k).bj g ah k,(aB.bj w).bj g,λqa=>(by cases qa)⟩)
   |true=>
    have aK:Y (Ni h a4.heap.size h.heap.size a3<|.slice l m n):=aV rfl;have D:Y (T=((flagF a 4 u false false 0).1,{e with L:=S,gj:=a3,num:=(flagF a 4 u false false 0).2.2.2,all:=(flagF a 4 u false false 0).2.1,kr:=(flagF a 4 u false false 0).2.2.1},L,true)):=by rw[Y,P.out];rfl
    clear P;generalize F:flagF a 4 u false false 0=aI at D;have aW:=J F;clear F;let⟨bN,b3,b5,b4⟩:=aI;simp only at D;have a2:Cu (h.setCell (O d.heap.size 3)<|.slice l m n) p a u L:=aB.bj w Q;have aC:=aA.bj w ah k;have aD:=aU.bj w Q;have aE:du d.heap.size h.heap.size h (h.setCell (O d.heap.size 3)<|.slice l m n):=(du.refl ah).bj w Q;go_wp21;generalize h.setCell (O d.heap.size 3) (.slice l m n)=bO at v a2 aC aD aE|-;clear b9 b2 b8 w;refine(aor p d.heap.size a u _ a2.rc Q (v.xc 4) (v.xc 5) (v.xc 6)<|λb7 bM=>v.frozen<|by show b7<7;omega).mono ?_;rw[aW.out];rintro H bF ⟨rfl,F,aX⟩;have aF:=bd.flags v F;have aY:=aC.fl F ah;have aZ:=a2.fl F aX;have b0:=aD.fl F Q Q;have b1:=aE.fl F Q Q;clear F;simp only;go_wp2_with (first
   |(refine ir 33 rfl rfl 198 (.tmp 2) rfl _ rfl _ _ (aF) underlying198 rfl yv ?_)
   |(refine hw rfl 198 (.tmp 2) (.tmp 33) rfl _ rfl _ rfl _ (aF) rfl yv (Lr _ _ _ _ _ _ _ _ Q) ?_;intro F z g))
    rw[D.out];refine Cs 2 3 198 rfl rfl d.heap.size rfl _ _ _ rfl z underlying198 rfl yv (show Bf _ _ _ _ _ _ _ by unfold Bf;exact⟨o,r,q,_,_,_,b4,b3,b5,rfl,K,aY.bj g ah k,aZ.bj g Q,λ_=>⟨S,a3,rfl,X.keep (b0.bj g Q) Q,aK.av7 Q<|b1.bj g Q⟩⟩)
 have V:=J C;have s:Y (ii a b c e=(b,e,c,false)):=by rw[Y,ii,N<|λH=>C<|by rw[H];rfl]
 clear C;go_in;go_wp2_with (first
  |(refine gm 2 rfl rfl 198 rfl _ ajx ?_;intro bE b6 W x)
  |(go_at_call 100;go_call qq p a b 47 _ (A.below x).rc Q V as H E ⟨rfl,j⟩;have Z:=(Mw.below x k).trans<|.mv j;have a0:=(A.below x).mv j Q;have U:=W.cw (j.only.block _ Q);clear j)
  |(first
  |(refine ir 9 rfl rfl 198 (.tmp 2) rfl _ rfl _ _ (U) underlying198 rfl yv ?_)
  |(refine hw rfl 198 (.tmp 2) (.tmp 9) rfl _ rfl _ rfl _ (U) rfl yv (Lr _ _ _ _ _ _ _ _<|by first|rfl|exact K) ?_;intro w4 z g)))
 rw[s.out];refine Cs 2 3 198 rfl rfl d.heap.size rfl _ _ _ rfl z underlying198 rfl yv (show Bf _ _ _ _ _ _ _ by unfold Bf;exact⟨none,0,0,0,0,_,0,false,false,rfl,rfl,Z.bj g ah k,a0.bj g,λqa=>(by cases qa)⟩)
def Du.keep{d:List Pc}(f:Du w a c d x)(i:du a c w u)(g:b<=a:=by omega):Du u b u.heap.size d x:=
 ⟨f.1,ah,λj k=>World.ownsRow.mono (f.2.2 j λh l e=>(k h Q<|ew e i.size).trans<|i.same h l e) Q⟩
def mq.plain{e c:Cm}{h:fw}(k:mq w a b e h)(l:du a b w u)(g:¬c.R=19)(i:c.fst=e.fst)(j:c.snd=e.snd):mq u a b c h:=by
 have d:=k.keep l;exact⟨by rw[i];exact d.fst,by rw[j];exact d.snd,λf=>cb f g,λf=>cb f g,d.one⟩
def Rk.akj{l:cj}{z:Obj}{xs A:List af}(k:Rk w a s l x y)(i:w.ownsRow (a+1) 200 23 x d xs)
  (f:(w.alloc z).drew.grownBy u x.ownBlock) (C:u.ownsRow (a+1) 200 23 (aa b (d+1) c) (d+1) A):
  Rc (u.setCell (O a 3)<|aa b (d+1) c) a s l.H/\Below a w (u.setCell (O a 3)<|aa b (d+1) c):=by
 have B:=k.lt;let⟨o,p,q,r,t⟩:=k.cu.rc;have j:∀e,e<w.heap.size->some e≠x.ownBlock->u.heap[e]?=w.heap[e]? :=λe g v=>by
  rw[f.block e qB v];exact im _ _ _ g
 have m:=j a B (λh=>by have:=(i.lt a h.symm).1;omega);have n:∀e,e≠3->(u.setCell (O a 3)<|aa b (d+1) c).cell? (O a e)=w.cell? (O a e):=λe g=>
  (jm (h:=Cr<|.inr<|Ne.symm g) ..).trans (ac e m)
 refine⟨⟨(n 0 Q).trans o,(n 1 Q).trans p,?_,r,t⟩,⟨f.os,f.tape,f.output,?_,λe g=>?_⟩⟩
 .rw[jf];exact(ad 1 m).trans q
 .have:=f.size;rw[kg];simp at this;omega
 rw[er _ _ _ _ qC];exact j e Q (λh=>by have:=(i.lt e h.symm).1;omega)
def Yt(b:ag)(c:Nat):∀(f a:Nat)(d:List Pc),a<=b.size->a<=(qe b c f a d).1
 |0,a,d,h=>ah
 |f+1,a,d,h=>by
  have e:=Pv b c a h;unfold qe;split
  .simp only;omega
  split
  .have:=Yt b c f (ih b c a).1 (d++[(ih b c a).2.1]) e.1;omega
  exact e.2
def Kj(e:ag):∀(f a:Nat)(b d:Bool)(c:Nat),a<=(flagF e f a b d c).1
 |0,a,b,d,c=>ah
 |f+1,a,b,d,c=>by
  unfold flagF;split
  .have:=Kj e f (a+1) true d c;omega
  split
  .have:=Kj e f (a+1) b true c;omega
  split
  .have:=Kj e f (a+1) b d<|au e a-48;omega
  exact ah
def ai3(b:ag)(d:Nat):∀(f a:Nat)(c:List Pc),a<=b.size->(qe b d f a c).1<=b.size
 |0,a,c,h=>h
 |f+1,a,c,h=>by
  have e:=Pv b d a h;unfold qe;split
  .rename_i g;let⟨i,_⟩:=ho (s:=b) (i:=a) (by rw[g];decide);simp only;omega
  split
  .exact ai3 b d f _ _ e.1
  exact e.1
def as1(d:Cm)(g:j<=S.size):j<=(ii S j Z d).1:=by
 unfold ii;split
 .rename_i a;let⟨f,_⟩:=ho (s:=S) (i:=j) (by rw[a];decide);have b:=Lj S (j+1) Z;simp only;split
  .have c:=Yt S (eo (dx S (j+1) Z).2.1) (S.size+1) (dx S (j+1) Z).1 [] b.1;have e:(dx S (j+1) Z).1<=(ks S (eo (dx S (j+1) Z).2.1) (dx S (j+1) Z).1).1:=c;split
   .have:=Kj S 4 (ks S (eo (dx S (j+1) Z).2.1) (dx S (j+1) Z).1).1 false false 0;simp only;omega
   simp only;omega
  simp only;omega
 exact ah
def Xl(b:ag):∀(f a:Nat)(c:List Nat),a<=b.size->a<=(rowL b f a c).1/\(rowL b f a c).1<=b.size
 |0,a,c,h=>⟨ah,h⟩
 |f+1,a,c,h=>by
  have d:=Hd b c a h;unfold rowL;split
  .rename_i e;let⟨g,_⟩:=ho (s:=b) (i:=a) (by rw[e];decide);simp only;omega
  split
  .have:=Xl b f (fa b c a).1 (c++[(fa b c a).2.1]) d.1;omega
  simp only;omega
def ahg(b:ag):∀(f a:Nat)(c:List Nat),a<=b.size->a<=(mp b f a c).1
 |0,a,c,h=>ah
 |f+1,a,c,h=>by
  have d:=Hd b [] a h;unfold mp;split
  .have:=ahg b f (fa b [] a).1 (c++[(fa b [] a).2.1]) d.1;omega
  simp only;omega
def aht(e:j<=S.size):j<=(jo S j).1:=by
 unfold jo;split
 .rename_i a;let⟨c,_⟩:=ho (s:=S) (i:=j) (by rw[a];decide);have b:=Xl S (S.size+1) (j+1) [] Q;have d:=ahg S (rowL S (S.size+1) (j+1) []).2.1.length (rowL S (S.size+1) (j+1) []).1 [] b.2;simp only;split
  .split
   .split
    .simp only;omega
    simp only;omega
   simp only;omega
  simp only;omega
 exact ah
def ap6(c:br s pm a=true):a<s.size/\Lib.indexByte pm.data.toList ((au s a:Nat):Int).toNat.toUInt8=(ei (au s a):Int)/\ei (au s a)<=20:=by
 simp[br]at c;refine⟨c.1,?_⟩;have d:=c.2;have b:au s a∈[123,100,68,110,78,112,80,103,71,104,72,120,61,113,97,105,99,98,116,115,121]:=by
  simp[bn,pm]at d;simp only[vc,za,or_false];omega
 generalize au s a=e at b;simp only[vc,za,or_false]at b;obtain rfl|rfl|rfl|rfl|rfl|rfl|rfl|rfl|rfl|rfl|rfl|rfl|rfl|rfl|rfl|rfl|rfl|rfl|rfl|rfl|rfl:=b<;>exact⟨qG,qG⟩
section
attribute [local go_sem↓] Zw Zl Go.wp_at_zero Go.wp_at_succ
def Rk.aki{h:cj}{p:Obj}{i:Cm}{j:fw}{xs:List af}{f:List Cm}(m:Rk w a s h x y)(q:h.U=f)(g:vy w a d e x y i j)(n:w.ownsRow (a+1) 200 23 x f.length xs)(k:Rn w a x y xs h.U)
  (r:(w.alloc p).drew.grownBy u x.ownBlock) (l:u.ownsRow (a+1) 200 23 (aa b (f.length+1) c) (f.length+1) (xs++ff i j))
  (o:x.ownBlock=some b\/b=w.heap.size+1):
  Rk (u.setCell (O a 3)<|aa b (f.length+1) c) a s {h with U:=f++[i]} (aa b (f.length+1) c) y/\
  Fq a x (aa b (f.length+1) c) y y w (u.setCell (O a 3)<|aa b (f.length+1) c):=by
 subst q;exact m.added g.cm g.qp g.vj g.ym g.yo n k r l o
def ajl(bY:Hr i)(g:Nat)(b:ag)(a:cj)(aW v:af)(c:ae)(aQ:Rk c g b a aW v)(h:Cm)(F:fw)(a3 R:Nat)(bZ:vy c g a3 R aW v h F)(aO:∀l,aW.ownBlock=some l->l<=a3)(cF:∀l,v.ownBlock=some l->l<=a3)(d3:a3<=c.heap.size)(cG:a.U.length<=a.H)(cH:a.bh.length<=a.H)(cI:a.op<=5)(cJ:6<=a.op+1+i):
  Calls prog 164 #[.pointer<|some ⟨g,0,none⟩,.agg (ff h F).toArray] c (um 1 g b a aW v c<|lm (Qqf b i) b a h):=by
 have A:=J aQ;have cK:=J bY;have e:=J bZ;have W:=aQ.lt;have d4:=aQ.cu.rc.le;have d5:=aQ.cu.rc.li;have b8:=J aQ.cu;clear aQ bY bZ;rcases df (br b pm a.H)with T|T
 .have bK:=J T;obtain⟨c0,b9,cM⟩:=ap6 T;have u:Y (lm (Qqf b i) b a h=if ei (au b a.H)=0 then qr (Qqf b i) b a {h with R:=ei<|au b a.H} else if ei (au b a.H)=14\/ei (au b a.H)=15\/ei (au b a.H)=16 then(if pk b (a.H+1)=32 then({a with H:=ci b<|a.H+1+1,U:=a.U++[{h with R:=ei<|au b a.H,text:=b.extract (a.H+1+1)<|ci b<|a.H+1+1}]},true)else({a with H:=a.H+1,U:=a.U++[{h with R:=ei<|au b a.H}]},false))else if ei (au b a.H)=17\/ei (au b a.H)=18 then((a.qu b (a.H+1) true).add {h with R:=ei<|au b a.H},true)else if ei (au b a.H)=19 then({a with H:=(ii b (a.H+1) a.bk {h with R:=ei<|au b a.H}).1,U:=a.U++[(ii b (a.H+1) a.bk {h with R:=ei<|au b a.H}).2.1],bk:=(ii b (a.H+1) a.bk {h with R:=ei<|au b a.H}).2.2.1},(ii b (a.H+1) a.bk {h with R:=ei<|au b a.H}).2.2.2)else if ei (au b a.H)=20 then({a with H:=(jo b<|a.H+1).1,U:=a.U++[{h with R:=ei<|au b a.H,la:=(jo b<|a.H+1).2.1,oo:=(jo b<|a.H+1).2.2.1}]},(jo b<|a.H+1).2.2.2)else({a with H:=a.H+1,U:=a.U++[{h with R:=ei<|au b a.H}]},true)):=by rw[Y,lm,G T]
  clear T;generalize d:lm (Qqf b i) b a h=s at u;clear d;obtain⟨B,C,rfl⟩:∃B C,aW=.slice B a.U.length C:=by
   obtain⟨xs,a4,_⟩:=A.out.own;obtain⟨d,bL⟩|⟨l,h,_,d,_⟩:=a4.2
   .exact⟨none,0,by rw[d,bL]⟩
   exact⟨_,_,d⟩
  have d6:=oz b a.H c0;have cN:=ms b a.H;have c1:=J b9;generalize ei (au b a.H)=p at u c1 cM;clear b9;obtain⟨c2,c3,c4,c5,c6⟩:=adz;have d7:(0:Int)<=a.H:=Q
  have d8:(a.H:Int)<b.size:=Q
  go_in;go_upto_region 3 with(first
   |(refine ti 3 rfl rfl 200 (.tmp 1) rfl _ rfl ?_;intro aX a8 bA aY;have k:=J bA;have S:=J aY;clear bA aY)
   |(go_at_call 161;refine(oj g b pm a.H _ (b8.out.below S.out).rc).mono ?_;rw[bK.out];rintro d a9 ⟨rfl,aP,rfl⟩))
  have bM:=J<|(Mw.below S.out W).drewN aP;have bD:=J<|(b8.out.below S.out).drewN aP;have aZ:Y (bd (aX.drewN aP) c.heap.size<|ff h F):=k.out.cw rfl;have bN:c.heap.size<(aX.drewN aP).heap.size:=by show c.heap.size<aX.heap.size;omega
  generalize aX.drewN aP=a9 at bM bD aZ bN|-;clear k S;obtain⟨⟨bO,bP,bQ,_,_⟩,aE,bR⟩:=bD.out;have bS:=aZ.out.xc 0;have c7:=aZ.out.frozen (k:=0) (by show 0<23;omega);go_cut [] (λaR=>∃aA,aR=((a9.setCell (O c.heap.size 0)<|I p).drewN aA))
  case first=>
   go_region_with (go_at_call 194;refine(Uv pm (au b a.H) _ cN).mono ?_;rw[c1.out];rintro d w3 ⟨rfl,k⟩;subst k)
   all_goals (go_wp21;go_meet;exact⟨1,rfl⟩)
  obtain⟨aA,rfl⟩:=hcut;have aF:Y (Mw g c<|(a9.setCell (O c.heap.size 0)<|I p).drewN aA):=(bM.out.fi ah W _).drewN aA;have b0:Y (Cu ((a9.setCell (O c.heap.size 0)<|I p).drewN aA) g b a.H a.bk):=(bD.out.fi Q _).drewN aA;have b1:Y (bd ((a9.setCell (O c.heap.size 0)<|I p).drewN aA) c.heap.size<|ff {h with R:=p} F):=(bd.put aZ.out 0 (by show 0<23;omega)<|I p).cw rfl;have bT:c.heap.size<((a9.setCell (O c.heap.size 0)<|I p).drewN aA).heap.size:=by show c.heap.size<(a9.setCell _ _).heap.size;rw[kg];exact bN
  generalize((a9.setCell (O c.heap.size 0)<|I p).drewN aA)=w3 at aF b0 b1 bT|-;clear bO bP bQ aE bR bS c7 bM bD aZ bN;obtain⟨⟨bO,bP,bQ,_,_⟩,aE,bR⟩:=b0.out;have bS:=b1.out.xc 0;by_cases c8:p=0
  .subst c8;have k:Y (s=qr (Qqf b i) b a {h with R:=0}):=by rw[Y,u.out,G rfl]
   clear u;go_wp2_with (first|(refine ir 28 rfl rfl 200 (.tmp 3) rfl _ rfl _ _ b1.out underlying200 rfl (uy _ _) ?_));go_call alc i cK.out g b a (Value.slice B a.U.length C) v _ (A.out.mw aF.out b0.out) {h with R:=0} F a3 R ⟨e.out.cm.plain ((du.refl e.out.vj).mw aF.out e.out.qp) (show ¬(0:Nat)=19 from qG) rfl rfl,e.out.qp,bq e.out.vj aF.out.size,e.out.ym,e.out.yo⟩ cG cH c0 cI cJ as d w4 f;rw[<-k.out]at f;unfold um at f;obtain⟨a8,rfl,⟨t,b2,m,n⟩,o⟩|⟨a8,rfl,q,r⟩:=f
   .have j:Y (um 1 g b a (Value.slice B a.U.length C) v c s (.returned<|.bool true) w4):=.inl ⟨a8,rfl,⟨t,b2,m,(Fq.mw aF.out).trans n⟩,o⟩;clear m n o a8;go_wp21;go_ret;exact j.out
   have j:Y (um 1 g b a (Value.slice B a.U.length C) v c s (.returned<|.bool false) w4):=.inr ⟨a8,rfl,q,((Fq.mw aF.out).below A.out).trans r⟩;clear q r a8;go_wp21;go_ret;exact j.out
  have d9:((p:Int)==0)=false:=hh Q;go_upto_block 0 with fail
  have H:Y (Mw g c<|w3.setCell (O g 1)<|I<|(a.H:Int)+1):=aF.out.sg _;have E:Y (Cu (w3.setCell (O g 1)<|I<|(a.H:Int)+1) g b (a.H+1) a.bk):=b0.out.put (a.H+1) Q Q;have U:Y (bd (w3.setCell (O g 1)<|I<|(a.H:Int)+1) c.heap.size<|ff {h with R:=p} F):=b1.out.cw (er _ _ _ _ qC);have Z:c.heap.size<(w3.setCell (O g 1)<|I<|(a.H:Int)+1).heap.size:=by rw[kg];exact bT
  generalize w3.setCell (O g 1) (I<|(a.H:Int)+1)=aS at H E U Z|-;clear bO bP bQ aE bR bS aF b0 b1 bT;have c9:=J<|(du.refl e.out.vj).mw H.out e.out.qp;go_cut [5] (λs5 aR=>∃(b3:Bool)(aB:cj)(aG:List af)(b2:af),s5=.bool b3/\Y (Rk aR g b aB (Value.slice B a.U.length C) b2)/\Y (bd aR c.heap.size aG/\aG.length=23/\∀aS∈aG,aS.oneCell'=true)/\Y (Fq g (Value.slice B a.U.length C) (Value.slice B a.U.length C) v b2 c aR)/\Y (s.2=b3/\s.1.H=aB.H)/\Y (b3=true->∃bU cA cP,aG=ff bU cA/\vy aR g a3 cP (Value.slice B a.U.length C) b2 bU cA/\s.1={aB with U:=a.U++[bU]})/\Y (aB.U=a.U)/\aB.bh.length<=aB.H/\Y (aB.op=a.op)/\a.H+1<=aB.H/\aB.H<=400)
  case first=>
   by_cases cR:p=14\/p=15\/p=16
   .have k:Y (s=if pk b (a.H+1)=32 then({a with H:=ci b<|a.H+1+1,U:=a.U++[{h with R:=p,text:=b.extract (a.H+1+1)<|ci b<|a.H+1+1}]},true)else({a with H:=a.H+1,U:=a.U++[{h with R:=p}]},false)):=by rw[Y,u.out,N c8,G cR]
    clear u;have cS:¬p=19:=Q
    obtain n|⟨n,o|⟨o,r⟩⟩:((p:Int)==14)=true\/((p:Int)==14)=false/\(((p:Int)==15)=true\/((p:Int)==15)=false/\((p:Int)==16)=true):=by obtain rfl|rfl|rfl:=cR<;>simp
    all_goals
     clear cR;go_wp21;go_call Vm g b (a.H+1) _ E.out.rc as d j aH;obtain⟨q,rfl,f,a0⟩|⟨q,rfl,f⟩:=aH
     .obtain⟨bV,_⟩:=ho (s:=b) (i:=a.H+1) (by rw[q];decide);have aI:=(Ki b (a.H+1+1) Q).2.2.1;have x:=J<|H.out.trans<|Mw.vp f;have t:=J<|E.out.vp f a0;have m:=J (U.out.cw<|f.block c.heap.size Z Q);have r:Y (s=({a with H:=ci b<|a.H+1+1,U:=a.U++[{{h with R:=p} with text:=b.extract (a.H+1+1)<|ci b<|a.H+1+1}]},true)):=by rw[Y,k.out,G q]
      have aJ:=m.out.xc 13;have aK:=m.out.frozen (k:=13) (by show 13<23;omega);clear f q k;generalize ci b (a.H+1+1)=n at a0 aI t r;have o:Y (Mw g c<|j.setCell (O c.heap.size 13)<|.string<|b.extract (a.H+1+1) n):=x.out.fi ah W _;have y:Y (Cu (j.setCell (O c.heap.size 13)<|.string<|b.extract (a.H+1+1) n) g b n a.bk):=t.out.fi Q _;have z:Y (bd (j.setCell (O c.heap.size 13)<|.string<|b.extract (a.H+1+1) n) c.heap.size<|ff {{h with R:=p} with text:=b.extract (a.H+1+1) n} F):=m.out.put 13 (by show 13<23;omega) _;have D:=J<|(du.refl e.out.vj).mw o.out e.out.qp;go_wp21;go_meet;exact⟨true,{a with H:=n},_,v,rfl,A.out.mw o.out y.out,⟨z.out,rfl,ur _ _ e.out.cm.one⟩,Fq.mw o.out,⟨by rw[r.out],by rw[r.out]⟩,λ_=>⟨_,_,R,rfl,⟨e.out.cm.plain D.out cS rfl rfl,e.out.qp,D.out.size,e.out.ym,e.out.yo⟩,by rw[r.out]⟩,rfl,(by show a.bh.length<=n;omega),rfl,(by show a.H+1<=n;omega),(by show n<=400;omega)⟩
     have x:=J<|H.out.trans<|Mw.vp f;have t:=J (E.out.vp f Q);have m:=J (U.out.cw<|f.block c.heap.size Z Q);have r:Y (s.2=false/\s.1.H=a.H+1):=by rw[Y,k.out,N q];exact⟨rfl,rfl⟩
     have aJ:=m.out.xc 13;have aK:=m.out.frozen (k:=13) (by show 13<23;omega);clear f q k;have o:Y (Mw g c<|j.setCell (O c.heap.size 13)<|.string fo):=x.out.fi ah W _;have y:Y (Cu (j.setCell (O c.heap.size 13)<|.string fo) g b (a.H+1) a.bk):=t.out.fi Q _;have z:Y (bd (j.setCell (O c.heap.size 13)<|.string fo) c.heap.size<|ff {{h with R:=p} with text:=fo} F):=m.out.put 13 (by show 13<23;omega) _;go_wp21;go_meet;exact⟨false,{a with H:=a.H+1},_,v,rfl,A.out.mw o.out y.out,⟨z.out,rfl,ur _ _ e.out.cm.one⟩,Fq.mw o.out,r.out,λK=>(by cases K),rfl,(by show a.bh.length<=a.H+1;omega),rfl,ah,(by show a.H+1<=400;omega)⟩
   have cU:((p:Int)==14)=false:=hh Q;have cV:((p:Int)==15)=false:=hh Q;have cX:((p:Int)==16)=false:=hh Q;by_cases cZ:p=17\/p=18
   .have k:Y (s=((a.qu b (a.H+1) true).add {h with R:=p},true)):=by rw[Y,u.out,N c8,N Q,G cZ]
    clear u;have cS:¬p=19:=Q
    obtain n|⟨n,o⟩:((p:Int)==17)=true\/((p:Int)==17)=false/\((p:Int)==18)=true:=by obtain rfl|rfl:=cZ<;>simp
    all_goals
     clear cZ;have bE:=J<|A.out.mw H.out E.out;go_wp21;go_call Vh g b {a with H:=a.H+1} (Value.slice B a.U.length C) v true _ bE.out qC qC as d j ⟨X,rfl,aL,a5⟩;have bF:Y (Rk j g b (a.qu b (a.H+1) true) (Value.slice B a.U.length C) X):=aL;have L:=J<|(Fq.mw H.out).trans a5;have bG:∀l,((Value.slice B a.U.length C)).ownBlock=some l->l<c.heap.size:=λl w=>by obtain⟨xs,a4,_⟩:=A.out.own;exact(a4.lt l w).2
     have bH:∀l,v.ownBlock=some l->l<c.heap.size:=λl w=>(A.out.wj.lt l w).2
     have m:=J (U.out.cw<|a5.block c.heap.size Z Q (λd=>by have:=bG _ d.symm;omega) (λd=>by have:=bH _ d.symm;omega));have aM:Y (du a3 R c j):=⟨λa6 a8 cV=>L.out.block a6 (by have:=e.out.vj;omega) (by have:=e.out.qp;omega) (λd=>by have:=e.out.ym a6 d.symm;omega) (λd=>by have:=e.out.yo a6 d.symm;omega),bq e.out.vj L.out.size⟩;have cW:=Am b 8 (a.H+1) Q;have bI:Y (∀l,X.ownBlock=some l->l<=a3\/R<=l):=λl w=>by
      obtain d|d:=L.out.ll
      .exact e.out.yo l (by rw[<-d];exact w)
      exact .inr<|bq e.out.vj<|d l w
     clear aL a5;simp only;go_wp21;go_meet;exact⟨true,a.qu b (a.H+1) true,_,X,rfl,bF.out,⟨m.out,rfl,ur _ _ e.out.cm.one⟩,L.out,⟨by rw[k.out],by rw[k.out];rfl⟩,λ_=>⟨_,_,R,rfl,⟨e.out.cm.plain aM.out cS rfl rfl,e.out.qp,aM.out.size,e.out.ym,bI.out⟩,by rw[k.out];rfl⟩,rfl,(by show(a.bh++[_]).length<=eg b 8 (a.H+1);rw[ga,qx];omega),rfl,(by show a.H+1<=eg b 8 (a.H+1);omega),(by show eg b 8 (a.H+1)<=400;omega)⟩
   by_cases c0:p=19
   .subst c0;have k:Y (s=({a with H:=(ii b (a.H+1) a.bk {h with R:=19}).1,U:=a.U++[(ii b (a.H+1) a.bk {h with R:=19}).2.1],bk:=(ii b (a.H+1) a.bk {h with R:=19}).2.2.1},(ii b (a.H+1) a.bk {h with R:=19}).2.2.2)):=by rw[Y,u.out,N qG,N qG,N qG,G rfl]
    clear u;go_wp21;go_call as2 g b (a.H+1) a.bk {h with R:=19} _ E.out as d j b5;unfold Bf at b5;have bW:=as1 b (a.H+1) a.bk {h with R:=19} Q;generalize ii b (a.H+1) a.bk {h with R:=19}=bJ at b5 k bW;obtain⟨M,b9,cZ,aT⟩:=bJ;obtain⟨P,qa,a1,aE,b4,a7,aN,aC,aD,rfl,b6,f,V,a2⟩:=b5;simp only at bW a2 V k|-;have x:=J<|H.out.trans f;have t:=J V;have m:=J (U.out.cw<|f.block c.heap.size Z Q);have d0:Y (aT=true->∃aU aV,b9={{h with R:=19} with L:=aU,gj:=aV,num:=aN,all:=aC,kr:=aD}/\jz j aS.heap.size j.heap.size aU (.slice P qa a1) (I aE) (I b4)/\Du j aS.heap.size j.heap.size aV a7):=a2;have c7:=f.size;have bX:=V.rc.le;clear f V a2;go_wp2_with (first
     |(refine Av rfl 198 (.tmp 63) (.tmp 61) rfl c.heap.size 14 rfl (xq P qa a1 aE b4 a7 aN aC aD) rfl (ff {h with R:=19} F) (ff {{h with R:=19} with num:=aN,all:=aC,kr:=aD} {F with a3:=P,l3:=qa,c3:=a1,r3:=aE,g3:=b4,tv:=a7}) m.out (by show 14+7<=23;omega) rfl yv (Lr _ _ _ _ _ _ _ _ b6) ?_;intro cC a2 b7;have z:=J a2;have V:=J b7;clear a2 b7))
    have o:=J<|x.out.bj V.out ah W;have y:=J (t.out.bj V.out Q);have D:=J<|(du.refl e.out.vj).mw o.out e.out.qp;have b7:Y (du aS.heap.size j.heap.size j cC):=(du.refl ah).bj V.out Q;go_meet;refine⟨aT,{a with H:=M,bk:=cZ},_,v,rfl,A.out.mw o.out y.out,⟨z.out,rfl,ur _ _ b6⟩,Fq.mw o.out,⟨by rw[k.out],by rw[k.out]⟩,λa2=> ?_,rfl,(by show a.bh.length<=M;omega),rfl,(by show a.H+1<=M;omega),(by show M<=400;omega)⟩;obtain⟨aU,aV,rfl,d1,d2⟩:=d0.out a2;have cE:a3<=aS.heap.size:=by have:=e.out.qp;omega
    refine⟨{{h with R:=19} with L:=aU,gj:=aV,num:=aN,all:=aC,kr:=aD},{F with a3:=P,l3:=qa,c3:=a1,r3:=aE,g3:=b4,tv:=a7},cC.heap.size,rfl,⟨⟨λK=>(e.out.cm.fst K).keep D.out ah,λK=>(e.out.cm.snd K).keep D.out ah,λ_=>d1.keep b7.out cE,λ_=>d2.keep b7.out cE,b6⟩,e.out.qp,ah,λl w=> .inl<|aO l w,λl w=> .inl<|cF l w⟩,by rw[k.out]⟩
   by_cases aN:p=20
   .subst aN;have k:Y (s=({a with H:=(jo b<|a.H+1).1,U:=a.U++[{h with R:=20,la:=(jo b<|a.H+1).2.1,oo:=(jo b<|a.H+1).2.2.1}]},(jo b<|a.H+1).2.2.2)):=by rw[Y,u.out,N qG,N qG,N qG,N qG,G rfl]
    clear u;go_wp21;refine(Qzp g b (a.H+1) _ E.out.rc).mono ?_;have a1:=aht b (a.H+1) Q;generalize jo b (a.H+1)=bJ at k a1|-;obtain⟨M,aC,aU,aT⟩:=bJ;simp only at k a1|-;rintro d j ⟨P,qa,rfl,f,bX,a7⟩;have aD:=a1;have x:=J<|H.out.trans<|Mw.vp f;have t:=J<|E.out.vp f bX;have m:=J (U.out.cw<|f.block c.heap.size Z Q);have V:=J a7;have aV:=m.out.xc 21;have b5:=m.out.frozen (k:=21) (by show 21<23;omega);have aC:=m.out.xc 22;have b6:=m.out.frozen (k:=22) (by show 22<23;omega);clear f a7;have o:Y (Mw g c<|(j.setCell (O c.heap.size 21)<|.string P).setCell (O c.heap.size 22)<|.string qa):=(x.out.fi ah W _).fi ah W _;have y:Y (Cu ((j.setCell (O c.heap.size 21)<|.string P).setCell (O c.heap.size 22)<|.string qa) g b M a.bk):=(t.out.fi Q _).fi Q _;have z:Y (bd ((j.setCell (O c.heap.size 21)<|.string P).setCell (O c.heap.size 22)<|.string qa) c.heap.size<|ff {{h with R:=20} with la:=P,oo:=qa} F):=bd.put (bd.put m.out 21 (by show 21<23;omega)<|.string P) 22 (by show 22<23;omega)<|.string qa;have D:=J<|(du.refl e.out.vj).mw o.out e.out.qp;go_wp21;go_meet;refine⟨aT,{a with H:=M},_,v,rfl,A.out.mw o.out y.out,⟨z.out,rfl,ur _ _ e.out.cm.one⟩,Fq.mw o.out,⟨by rw[k.out],by rw[k.out]⟩,λa2=>⟨_,_,R,rfl,⟨e.out.cm.plain D.out (show ¬(20:Nat)=19 from qG) rfl rfl,e.out.qp,D.out.size,e.out.ym,e.out.yo⟩,?_⟩,rfl,(by show a.bh.length<=M;omega),rfl,aD,(by show M<=400;omega)⟩;obtain⟨rfl,rfl⟩:=V.out a2;rw[k.out]
   have a7:((p:Int)==17)=false:=hh Q;have aC:((p:Int)==18)=false:=hh Q;have aD:((p:Int)==19)=false:=hh Q;have V:((p:Int)==20)=false:=hh Q;have k:Y (s=({a with H:=a.H+1,U:=a.U++[{h with R:=p}]},true)):=by rw[Y,u.out,N c8,N Q,N Q,N Q,N Q]
   clear u;go_wp21;go_meet;exact⟨true,{a with H:=a.H+1},_,v,rfl,A.out.mw H.out E.out,⟨U.out,rfl,ur _ _ e.out.cm.one⟩,Fq.mw H.out,⟨by rw[k.out],by rw[k.out]⟩,λ_=>⟨_,_,R,rfl,⟨e.out.cm.plain c9.out (show ¬p=19 from Q) rfl rfl,e.out.qp,c9.out.size,e.out.ym,e.out.yo⟩,by rw[k.out]⟩,rfl,(by show a.bh.length<=a.H+1;omega),rfl,ah,(by show a.H+1<=400;omega)⟩
  obtain⟨b3,w,aG,V,rfl,m,x,a0,y,z,a5,P,qa,aU,aV⟩:=hcut;have bE:a.U.length<=400:=Q
  have aT:=J x.out.1;have D:=J x.out.2.1;have a1:=J x.out.2.2;obtain⟨xs,a4,f⟩:=m.out.own;have r:Y (wc.ownsRow (g+1) 200 23 (Value.slice B a.U.length C) a.U.length xs):=by rw[a5.out]at a4;exact a4
  have a7:=J f;have a6:Y (∀p,((Value.slice B a.U.length C)).ownBlock=some p->g+1<=p/\p<wc.heap.size):=λp aH=>a4.lt p aH
  clear a4 f;obtain⟨⟨⟨bF,bG,bH,_,_⟩,b4,bI⟩,b5,aI,bJ,b6,aJ,a2,_,_,_⟩:=m.out;have aK:=m.out.lt;have bV:=ahz (w:=wc.drew) (aT.out.cw rfl) D.out;have bW:=ahx wc.drew aG D.out;cases b3 with
  |true=>
   obtain⟨aO,aL,bX,rfl,j,f⟩:=z.out rfl;have aM:=J j;have aN:Y (s=({w with U:=a.U++[aO]},true)):=by
    obtain⟨n,o⟩:=s;simp only at f;have:=y.out.1;simp only at this;rw[Y,f,this]
   clear j f z;go_wp21;go_region_law
    ((refine step_append_lies _ (by rfl) _ _ _ (by rfl) (g+1) 200 c2 _ 23 264 underlying94 c3 c4 c5 c6 (by rfl) Q (Value.slice B a.U.length C) a.U.length xs (by rfl) ((r.out.alloc _).drew)
       (O wc.heap.size 0) 1 1 (ff aO aL) (by rfl) (by rfl) (World.news_of_block (cs:=(ff aO aL).toArray) (t:=200) (fr:=(0,0))<|yyb wc _) (ur _ _ aM.out.cm.one)
       Q qH Q qB (wc.heap.size+1) qD ?_;intro aC aD n o f t K;have j:=(f.block g qB (λd=>by have:=(a6.out _ d.symm).1;omega)).trans<|im wc _ g aK;have L:=ac 3 j;have M:=ad 3 j;rw[aI]at L;rw[aJ]at M;have q:Y _:=m.out.aki a5.out aM.out r.out a7.out f o t;clear j o f t K))
   all_goals go_wp2
   all_goals go_ret
   all_goals rw[aN.out]
   all_goals exact .inl ⟨rfl,rfl,⟨_,_,q.out.1,a0.out.trans q.out.2⟩,qa.out,(by show(a.U++[aO]).length<=w.H;rw[ga,qx];omega),P,(by show a.H+1<=w.H;omega),(by show a.U.length<=(a.U++[aO]).length;rw[ga];omega)⟩
  |false=>
   clear z;go_wp21;go_region_law
    ((refine step_append_lies _ (by rfl) _ _ _ (by rfl) (g+1) 200 c2 _ 23 264 underlying94 c3 c4 c5 c6 (by rfl) Q (Value.slice B a.U.length C) a.U.length xs (by rfl) ((r.out.alloc _).drew)
       (O wc.heap.size 0) 1 1 aG (by rfl) (by rw[D.out]) (World.news_of_block (cs:=aG.toArray) (t:=200) (fr:=(0,0))<|yyb wc _) a1.out
       Q qH Q qB (wc.heap.size+1) qD ?_;intro aC aD n o f t K;have j:=(f.block g qB (λd=>by have:=(a6.out _ d.symm).1;omega)).trans<|im wc _ g aK;have L:=ac 3 j;have M:=ad 3 j;rw[aI]at L;rw[aJ]at M;have q:Y _:=m.out.akj r.out f o;clear j o f t K))
   all_goals go_wp2
   all_goals go_ret
   all_goals exact .inr ⟨y.out.1,rfl,by rw[y.out.2];exact q.out.1,(a0.out.below A.out).trans q.out.2⟩
 have bK:=J T;have u:Y (lm (Qqf b i) b a h=(a,false)):=by rw[Y,lm,T];rfl
 clear T;go_in;go_wp2_with (first
  |(refine ti 3 rfl rfl 200 (.tmp 1) rfl _ rfl ?_;intro aX a8 bA aY;have S:=J aY;clear bA aY)
  |(go_at_call 161;refine(oj g b pm a.H _ (b8.out.below S.out).rc).mono ?_;rw[bK.out];rintro d a9 ⟨rfl,aP,rfl⟩))
 go_ret;rw[u.out];exact .inr ⟨rfl,rfl,(b8.out.below S.out).rc.drewN aP,⟨S.out.os,S.out.tape,S.out.output,S.out.size,λp aH=>S.out.block p Q⟩⟩
end
def No(d:j<=S.size):j<=(cq S j Z).1:=by
 unfold cq;split
 .have a:=Qx S j Z d;simp only;split
  .split
   .rename_i b;let⟨e,_⟩:=ho (s:=S) (i:=(dc S j Z).1) (by rw[b];decide);have c:=Qx S ((dc S j Z).1+1) (dc S j Z).2.2.1;split
    .have:=An S dh (dc S ((dc S j Z).1+1) (dc S j Z).2.2.1).1 c.1;simp only;omega
    simp only;omega
   have:=An S dh (dc S j Z).1 a.1;simp only;omega
  simp only;omega
 exact ah
def Tg(b3:Hr i)(e:Nat)(b:ag)(a:cj)(o q:af)(j:ae)(B:Rk j e b a o q)(bP:a.U.length<=a.H)(bQ:a.bh.length<=a.H)(aQ:a.op<=5)(b1:6<=a.op+1+i):
  Calls prog 112 #[.pointer<|some ⟨e,0,none⟩] j (um 1 e b a o q j<|iw (Qqf b i) b a):=by
 have y:=B;have aN:=J b3;have b2:=B.lt;have bA:=B.cu.rc.le;have bO:=B.cu.rc.li;have b7:=B.cu;have c:∀h,o.ownBlock=some h->h<=j.heap.size:=λh s=>by obtain⟨xs,bD,_⟩:=B.own;have:=(bD.lt h s).2;omega
 have d:∀h,q.ownBlock=some h->h<=j.heap.size:=λh s=>by have:=(B.wj.lt h s).2;omega
 have aC:=J c;have aD:=J d;obtain⟨⟨n,r,u,_,_⟩,t,k⟩:=B.cu;clear B b3 c d;have x:Y (iw (Qqf b i) b a=if(cq b a.H a.bk).2.2.2.2=true then(if pk b (cq b a.H a.bk).1=33 then(if pk b (skip b dh<|(cq b a.H a.bk).1+1)=58 then({a with H:=skip b dh<|(cq b a.H a.bk).1+1,bk:=(cq b a.H a.bk).2.2.2.1},false)else lm (Qqf b i) b {a with H:=skip b dh<|(cq b a.H a.bk).1+1,bk:=(cq b a.H a.bk).2.2.2.1} {ve (cq b a.H a.bk).2.1 (cq b a.H a.bk).2.2.1 with neg:=true})else if pk b (cq b a.H a.bk).1=58 then(if(cq b a.H a.bk).1=a.H then(cj.qu {a with H:=(cq b a.H a.bk).1,bk:=(cq b a.H a.bk).2.2.2.1} b ((cq b a.H a.bk).1+1) false,decide ((cq b a.H a.bk).1+1<eg b 8 ((cq b a.H a.bk).1+1)))else({a with H:=(cq b a.H a.bk).1,bk:=(cq b a.H a.bk).2.2.2.1},false))else lm (Qqf b i) b {a with H:=(cq b a.H a.bk).1,bk:=(cq b a.H a.bk).2.2.2.1} (ve (cq b a.H a.bk).2.1 (cq b a.H a.bk).2.2.1))else({a with H:=(cq b a.H a.bk).1,bk:=(cq b a.H a.bk).2.2.2.1},false)):=rfl;generalize c:iw (Qqf b i) b a=p at x;clear c;have aR:=No b a.H a.bk bA;generalize c:cq b a.H a.bk=b5 at x aR;have b6:=J c;clear c;obtain⟨c,z,A,g,bJ⟩:=b5;simp only at x aR;go_in;go_wp21;refine(akn e b a.H a.bk _ b7).mono ?_;rw[b6.out];rintro d l ⟨v,a6,F,aA,a4,a2,a7,a3,a8,a5,rfl,aO,aP,f⟩;have aS:=J f;have bE:=aP.rc.le;have bR:=aO.size;clear f n r u t k;simp only;go_upto_region 3 with(first
  |(refine gm 4 rfl rfl 200 rfl _ Zi ?_;intro bT aG r k)
  |(refine hw rfl 200 (.tmp 4) (.tmp 14) rfl _ rfl _ rfl _ r rfl (uy _ _) (ur _ _ rfl) ?_;intro w3 aT f))
 have aJ:=(aO.trans<|Mw.below k Q).bj f Q b2;have P:Cu w3 e b c g:=(aP.below k).bj f Q;have aU:Y (du j.heap.size l.heap.size l w3):=⟨λL n aG=>(f.block L Q).trans<|k.block L aG,by rw[f.size];omega⟩;have bS:l.heap.size<w3.heap.size:=by rw[f.size];omega
 clear r k f;cases bJ with
 |false=>
  have u:Y (p=({a with H:=c,bk:=g},false)):=by rw[Y,x.out];rfl
  clear x;go_wp21;go_ret;rw[u.out];exact .inr ⟨rfl,rfl,P.rc,(Fq.mw aJ).below y⟩
 |true=>
  obtain⟨f,k⟩:=aS rfl;have aV:Y (∀{b4:ae} {aF:Cm},du j.heap.size l.heap.size l b4->aF.R=0->aF.fst=z->aF.snd=A->mq b4 j.heap.size l.heap.size aF (yn v a6 F aA a4 a2 a7 a3 a8 a5)):=λL b0 n aG=>⟨by rw[n];exact λd=>(f d).of L.same L.size,by rw[aG];exact λd=>(k d).of L.same L.size,λd=>by rw[b0]at d;omega,λd=>by rw[b0]at d;omega,rfl⟩
  clear f k aS;by_cases M:pk b c=((33:Nat):Int)
  .have aI:=J M;obtain⟨aW,_⟩:=ho (s:=b) (i:=c) (by rw[M];decide);have r:Y (p=if pk b (skip b dh<|c+1)=58 then({a with H:=skip b dh<|c+1,bk:=g},false)else lm (Qqf b i) b {a with H:=skip b dh<|c+1,bk:=g} {ve z A with neg:=true}):=by rw[Y,x.out,G rfl,G<|by rw[M];rfl]
   have bF:=An b dh (c+1) Q;have aX:=si b dh (c+1) Q;generalize f:skip b dh (c+1)=t at r bF aX;have b8:=J f;clear f M x;go_wp21;go_call sr e b c 33 _ P.rc Q aI as d w4 ⟨rfl,m⟩;have C:=aJ.trans<|.mv m;have D:=P.mv m Q;have qa:=aT.cw (m.only.block _ Q);have aE:=aU.mw (.mv m) Q;clear m;have k:=qa.xc 11;have w:=qa.frozen (k:=11) (by show 11<23;omega);have bG:Mw e j (w4.setCell (O l.heap.size 11)<|.bool true):=C.fi Q b2 _;have aY:Cu (w4.setCell (O l.heap.size 11)<|.bool true) e b (c+1) g:=D.fi Q _;have bH:bd (w4.setCell (O l.heap.size 11)<|.bool true) l.heap.size (ff {ve z A with neg:=true} (yn v a6 F aA a4 a2 a7 a3 a8 a5)):=bd.put qa 11 (by show 11<23;omega) _;have b9:du j.heap.size l.heap.size l (w4.setCell (O l.heap.size 11)<|.bool true):=aE.set Q;go_wp21;refine(Mb e b dh (c+1) _ aY.rc).mono ?_;rw[b8.out];rintro d bN ⟨rfl,f⟩;have R:=bG.trans<|.mv f;have S:=aY.mv f aX;have bI:bd bN l.heap.size (ff {ve z A with neg:=true} (yn v a6 F aA a4 a2 a7 a3 a8 a5)):=bH.cw (f.only.block _ Q);have aZ:=b9.mw (.mv f) Q;clear f k w;by_cases k:pk b t=((58:Nat):Int)
   .have E:=J k;have u:Y (p=({a with H:=t,bk:=g},false)):=by rw[Y,r.out,G<|by rw[k];rfl]
    clear k r;obtain⟨bK,bL,bM,_,_⟩:=S.rc;have w:((t:Int)==a.H)=false:=hh Q;go_wp2_with (go_at_call 110;refine(iz e b t _ S.rc).mono ?_;rw[E.out];rintro d aH ⟨rfl,f,rfl⟩);go_ret;rw[u.out];exact .inr ⟨rfl,rfl,S.rc.drewN f,(Fq.mw<|R.drewN f).below y⟩
   have u:Y (p=lm (Qqf b i) b {a with H:=t,bk:=g} {ve z A with neg:=true}):=by rw[Y,r.out,N<|λd=>k<|by rw[d];rfl]
   clear r;have aK:(pk b (t)==58)=false:=hh (λd=>k<|by rw[d];rfl);obtain⟨aB,K⟩:∃aB,pk b (t)=aB:=⟨_,rfl⟩;have E:=J K;rw[K]at aK;clear k K;go_wp2_with (first|(refine ir 44 rfl rfl 200 (.tmp 4) rfl _ rfl _ _ (bI.cw rfl) underlying200 rfl (uy _ _) ?_)|(go_at_call 110;refine(iz e b (t) _ S.rc).mono ?_;rw[E.out];rintro d aH ⟨rfl,f,rfl⟩));go_call ajl i aN e b {a with H:=t,bk:=g} o q _ (y.mw (R.drewN f)<|S.drewN f) ({ve z A with neg:=true}) (yn v a6 F aA a4 a2 a7 a3 a8 a5) j.heap.size l.heap.size ⟨aV (aZ.drewN f) rfl rfl rfl,Q,(aZ.drewN f).size,λh s=> .inl<|aC h s,λh s=> .inl<|aD h s⟩ aC aD (R.drewN f).size (by show a.U.length<=t;omega) (by show a.bh.length<=t;omega) aQ b1 as d a9 H;rw[<-u.out]at H;unfold um at H;obtain⟨n,rfl,⟨aL,aM,T,U⟩,V,W,X,Z,a0⟩|⟨n,rfl,a1,v⟩:=H
   .have w:Y (um 1 e b a o q j p (.returned<|.bool true) a9):=.inl ⟨n,rfl,⟨aL,aM,T,(Fq.mw<|R.drewN f).trans U⟩,V,W,X,(by simp only at Z;omega),a0⟩;clear T U W X Z a0 V n;go_wp21;go_ret;exact w
   have w:Y (um 1 e b a o q j p (.returned<|.bool false) a9):=.inr ⟨n,rfl,a1,((Fq.mw<|R.drewN f).below y).trans v⟩;clear a1 v n;go_wp21;go_ret;exact w
  have aI:=J M;have r:Y (p=if pk b c=58 then(if c=a.H then(cj.qu {a with H:=c,bk:=g} b (c+1) false,decide (c+1<eg b 8 (c+1)))else({a with H:=c,bk:=g},false))else lm (Qqf b i) b {a with H:=c,bk:=g} (ve z A)):=by rw[Y,x.out,G rfl,N<|λd=>M<|by rw[d];rfl]
  clear M x;go_wp21;go_call qq e b c 33 _ P.rc Q aI as d w4 ⟨rfl,m⟩;have C:=aJ.trans<|.mv m;have D:=P.mv m bE;have qa:=aT.cw (m.only.block _ Q);have aE:=aU.mw (.mv m) Q;clear m;by_cases k:pk b c=((58:Nat):Int)
  .have E:=J k;obtain⟨aW,_⟩:=ho (s:=b) (i:=c) (by rw[k];decide);obtain⟨bK,bL,bM,_,_⟩:=D.rc;by_cases t:c=a.H
   .have u:Y (p=(cj.qu {a with H:=c,bk:=g} b (c+1) false,decide (c+1<eg b 8 (c+1)))):=by rw[Y,r.out,G<|by rw[k];rfl,G t]
    have aZ:((c:Int)==a.H)=true:=by rw[t];simp
    have b8:Y (∀S,Rk (w4.drewN S) e b {a with H:=c,bk:=g} o q):=λS=>y.mw (C.drewN S)<|D.drewN S
    have bF:=Am b 8 (c+1) Q;have bG:a.U.length<=c:=Q
    have bH:a.bh.length<=c:=Q
    have bI:a.H<=c:=Q
    clear k r t;go_wp2_with (go_at_call 110;refine(iz e b c _ D.rc).mono ?_;rw[E.out];rintro d aH ⟨rfl,f,rfl⟩);go_call aqt e b {a with H:=c,bk:=g} o q _ (b8 f) aW (by show a.bh.length<=1000;omega) (by show a.U.length<=1000;omega)as d b9 ⟨F,rfl,aX,R⟩;have aY:=(Fq.mw<|C.drewN f).trans R;clear R;have w:Y (um 1 e b a o q j p (.returned<|.bool<|decide<|c+1<eg b 8 (c+1)) b9):=by
     rw[u.out];by_cases R:c+1<eg b 8 (c+1)
     .exact .inl ⟨qK R,by rw[decide_eq_true R],⟨o,F,aX,aY⟩,rfl,(by show a.U.length<=eg b 8 (c+1);omega),(by show(a.bh++[_]).length<=eg b 8 (c+1);rw[ga,qx];omega),(by show a.H+1<=eg b 8 (c+1);omega),ah⟩
     exact .inr ⟨qK R,by rw[wu R],aX.cu.rc,aY.below y⟩
    simp only;generalize decide (c+1<eg b 8 (c+1))=R at w|-;go_wp21;go_ret;exact w
   have u:Y (p=({a with H:=c,bk:=g},false)):=by rw[Y,r.out,G<|by rw[k];rfl,N t]
   have aZ:((c:Int)==a.H)=false:=hh Q;clear k r;go_wp2_with (go_at_call 110;refine(iz e b c _ D.rc).mono ?_;rw[E.out];rintro d aH ⟨rfl,f,rfl⟩);go_ret;rw[u.out];exact .inr ⟨rfl,rfl,D.rc.drewN f,(Fq.mw<|C.drewN f).below y⟩
  have u:Y (p=lm (Qqf b i) b {a with H:=c,bk:=g} (ve z A)):=by rw[Y,r.out,N<|λd=>k<|by rw[d];rfl]
  clear r;have aK:(pk b (c)==58)=false:=hh (λd=>k<|by rw[d];rfl);obtain⟨aB,K⟩:∃aB,pk b (c)=aB:=⟨_,rfl⟩;have E:=J K;rw[K]at aK;clear k K;go_wp2_with (first|(refine ir 44 rfl rfl 200 (.tmp 4) rfl _ rfl _ _ (qa.cw rfl) underlying200 rfl (uy _ _) ?_)|(go_at_call 110;refine(iz e b (c) _ D.rc).mono ?_;rw[E.out];rintro d aH ⟨rfl,f,rfl⟩));go_call ajl i aN e b {a with H:=c,bk:=g} o q _ (y.mw (C.drewN f)<|D.drewN f) (ve z A) (yn v a6 F aA a4 a2 a7 a3 a8 a5) j.heap.size l.heap.size ⟨aV (aE.drewN f) rfl rfl rfl,Q,(aE.drewN f).size,λh s=> .inl<|aC h s,λh s=> .inl<|aD h s⟩ aC aD (C.drewN f).size (by show a.U.length<=c;omega) (by show a.bh.length<=c;omega) aQ b1 as d a9 H;rw[<-u.out]at H;unfold um at H;obtain⟨n,rfl,⟨aL,aM,T,U⟩,V,W,X,Z,a0⟩|⟨n,rfl,a1,v⟩:=H
  .have w:Y (um 1 e b a o q j p (.returned<|.bool true) a9):=.inl ⟨n,rfl,⟨aL,aM,T,(Fq.mw<|C.drewN f).trans U⟩,V,W,X,(by simp only at Z;omega),a0⟩;clear T U W X Z a0 V n;go_wp21;go_ret;exact w
  have w:Y (um 1 e b a o q j p (.returned<|.bool false) a9):=.inr ⟨n,rfl,a1,((Fq.mw<|C.drewN f).below y).trans v⟩;clear a1 v n;go_wp21;go_ret;exact w
def atp(a2:Hr i):Hr (i+1):=by
 intro e a j R S aR w aA aB aW b3
 have a9:=J a2;have b4:=w.lt;have aX:=w.cu.rc.le;have aU:=w.cu.rc.li;clear a2;generalize b:Qqf a (i+1) j=o;have aC:=J b;clear b;go_in;go_wp21;go_loopw [] (λwr=>∃(g:Nat)(b:cj)(q r:af),Y (Rk wr e a b q r)/\Y (Fq e R q S r aR wr)/\Y (b.op=j.op)/\b.U.length<=b.H/\b.bh.length<=b.H/\j.H<=b.H/\j.U.length<=b.U.length/\a.size+1<=g+b.H/\Y (o=rowL' (Qqf a i) a g b)) (λwr=>a.size-xi wr e)
 .exact⟨a.size+1,j,R,S,w,Fq.refl _ _ _ _,rfl,aA,aB,ah,ah,Q,aC.symm⟩
 obtain⟨g,b,q,r,z,aD,H,aY,aZ,b0,T,b5,c⟩:=hrel;have M:=z.cu.rc.le;have aE:=J<|pu z.cu.rc.c1;have u:Y (o=if pk a (skip a fc b.H)=-1\/uq a {b with H:=skip a fc b.H}=true then({b with H:=skip a fc b.H},true)else if(iw (Qqf a i) a {b with H:=skip a fc b.H}).2=true then(if pk a (skip a dh (iw (Qqf a i) a {b with H:=skip a fc b.H}).1.H)=-1\/br a parts (skip a dh (iw (Qqf a i) a {b with H:=skip a fc b.H}).1.H)=true\/uq a {(iw (Qqf a i) a {b with H:=skip a fc b.H}).1 with H:=skip a dh (iw (Qqf a i) a {b with H:=skip a fc b.H}).1.H}=true then rowL' (Qqf a i) a (g-1) {(iw (Qqf a i) a {b with H:=skip a fc b.H}).1 with H:=skip a dh (iw (Qqf a i) a {b with H:=skip a fc b.H}).1.H} else({(iw (Qqf a i) a {b with H:=skip a fc b.H}).1 with H:=skip a dh (iw (Qqf a i) a {b with H:=skip a fc b.H}).1.H},false))else iw (Qqf a i) a {b with H:=skip a fc b.H}):=by
  rw[Y,c.out]
  conv=>lhs;rw[show g=(g-1)+1 from Q,rowL']
 clear c;have aF:=An a fc b.H M;have U:=si a fc b.H M;generalize d:skip a fc b.H=c at u aF U;have a8:=J d;clear d;go_wp21;refine(Mb e a fc b.H _ z.cu.rc).mono ?_;rw[a8.out];rintro m n ⟨rfl,d⟩;have s:=z.mw (.mv d)<|z.cu.mv d U;have A:=aD.trans<|Fq.mw<|.mv d;clear d;have aV:=H.out;by_cases p:pk a c=-1
 .have B:=J p;have h:Y (o=({b with H:=c},true)):=by rw[Y,u.out,G<|.inl p]
  clear p u;go_wp2_with (go_at_call 110;refine(iz e a c _ s.cu.rc).mono ?_;rw[B.out];rintro m a3 ⟨rfl,L,rfl⟩);go_ret;rw[h.out];exact .inl ⟨rfl,rfl,⟨q,r,s.tw ah<|λ_ _=>rfl,A.trans<|Fq.mw<|(Mw.refl e n).drewN L⟩,H,(by show b.U.length<=c;omega),(by show b.bh.length<=c;omega),(by show j.H+0<=c;omega),T⟩
 obtain⟨b1,_⟩:=ho p;have aG:=hh p;obtain⟨a4,F⟩:∃a4,pk a c=a4:=⟨_,rfl⟩;have B:=J F;rw[F]at aG;have C:Y (∀f,Calls prog 111 #[.pointer<|some ⟨e,0,none⟩] (n.drewN f) λm aS=>m=.returned (.bool<|uq a {b with H:=c})/\∃aO,aS=(n.drewN f).drewN aO):=λf=>Ob e a c b.op _ (s.cu.rc.drewN f) s.c2
 rcases df (uq a {b with H:=c})with l|l
 .have h:Y (o=({b with H:=c},true)):=by rw[Y,u.out,G<|.inr l]
  rw[l]at C;clear p u l F;go_wp2_with (first|(go_at_call 110;refine(iz e a c _ s.cu.rc).mono ?_;rw[B.out];rintro m a3 ⟨rfl,L,rfl⟩)|(go_at_call 111;refine(C _).mono ?_;rintro m aT ⟨rfl,nq,rfl⟩));go_ret;rw[h.out];exact .inl ⟨rfl,rfl,⟨q,r,s.tw ah<|λ_ _=>rfl,A.trans<|Fq.mw<|(Mw.refl e n).drewN _⟩,H,(by show b.U.length<=c;omega),(by show b.bh.length<=c;omega),(by show j.H+0<=c;omega),T⟩
 have h:Y (o=if(iw (Qqf a i) a {b with H:=c}).2=true then(if pk a (skip a dh (iw (Qqf a i) a {b with H:=c}).1.H)=-1\/br a parts (skip a dh (iw (Qqf a i) a {b with H:=c}).1.H)=true\/uq a {(iw (Qqf a i) a {b with H:=c}).1 with H:=skip a dh (iw (Qqf a i) a {b with H:=c}).1.H}=true then rowL' (Qqf a i) a (g-1) {(iw (Qqf a i) a {b with H:=c}).1 with H:=skip a dh (iw (Qqf a i) a {b with H:=c}).1.H} else({(iw (Qqf a i) a {b with H:=c}).1 with H:=skip a dh (iw (Qqf a i) a {b with H:=c}).1.H},false))else iw (Qqf a i) a {b with H:=c}):=by rw[Y,u.out,N<|by rw[l];simp;exact p]
 rw[l]at C;clear p u l F;have aH:Y (∀f,Rk (n.drewN f) e a {b with H:=c} q r):=λf=>s.tw ah<|λ_ _=>rfl
 have D:Y (∀f,Calls prog 112 #[.pointer<|some ⟨e,0,none⟩] (n.drewN f)<|um 1 e a {b with H:=c} q r (n.drewN f)<|iw (Qqf a i) a {b with H:=c}):=λf=>Tg i a9 e a {b with H:=c} q r _ (aH f) (by show b.U.length<=c;omega) (by show b.bh.length<=c;omega) (by show b.op<=5;omega) (by show 6<=b.op+1+i;omega)
 generalize iw (Qqf a i) a {b with H:=c}=a5 at h D;obtain⟨d,b2⟩:=a5;simp only at h;go_wp2_with (first|(go_at_call 110;refine(iz e a c _ s.cu.rc).mono ?_;rw[B.out];rintro m a3 ⟨rfl,L,rfl⟩)|(go_at_call 111;refine(C _).mono ?_;rintro m aT ⟨rfl,nq,rfl⟩));go_call D _ as m w3 a1;unfold um at a1;obtain⟨y,rfl,⟨a6,a7,x,V⟩,W,aI,aJ,aK,aL⟩|⟨y,rfl,qa,X⟩:=a1
 .simp only at y W aI aJ aK aL;subst y;have aM:=(A.trans<|Fq.mw<|(Mw.refl e n).drewN _).trans V;have P:=x.cu.rc.le;have v:Y (o=if Bv a (skip a dh d.H) d.op=true then rowL' (Qqf a i) a (g-1) {d with H:=skip a dh d.H} else({d with H:=skip a dh d.H},false)):=by
   rw[Y,h.out,G rfl];congr 1;simp[Bv,uq,or_assoc]
  have aN:=An a dh d.H P;have Z:=si a dh d.H P;clear V h D;go_wp21;refine(asd e a d.H d.op _ x.cu.rc x.c2).mono ?_;generalize skip a dh d.H=k at v aN Z|-;rintro m w4 ⟨rfl,E⟩;have K:=x.mw (.mv E)<|x.cu.mv E Z;have a0:=aM.trans<|Fq.mw<|.mv E;clear E;rcases df (Bv a k d.op)with t|t
  .have E:Y (o=rowL' (Qqf a i) a (g-1) {d with H:=k}):=by rw[Y,v.out,G t]
   rw[t];clear t v;go_wp21;go_roundw
   .exact⟨g-1,{d with H:=k},a6,a7,K,a0,(by show d.op=j.op;rw[W];exact H),(by show d.U.length<=k;omega),(by show d.bh.length<=k;omega),(by show j.H<=k;omega),(by show j.U.length<=d.U.length;omega),(by show a.size+1<=g-1+k;omega),E⟩
   have aP:=pu K.cu.rc.c1;have aQ:=aE;rw[aP,aQ];show a.size-k<a.size-b.H
   omega
  have E:Y (o=({d with H:=k},false)):=by rw[Y,v.out,t];rfl
  rw[t];clear t v;go_wp21;go_ret;rw[E.out];exact .inr ⟨rfl,rfl,K.cu.rc,a0.below w⟩
 simp only at y qa;subst y;have v:Y (o=(d,false)):=by rw[Y,h.out];rfl
 have k:=((A.trans<|Fq.mw<|(Mw.refl e n).drewN _).below w).trans X;clear X h D;go_wp21;go_ret;rw[v.out];exact .inr ⟨rfl,rfl,qa,k⟩
def ahq:∀N,Hr N
 |0=>λb g f c d h _ _ _ e a=>cb a Q
 |N+1=>atp N<|ahq N
