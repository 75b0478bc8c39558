import Derived.Test.YtppjlpihaocdiaaGreatDoorBcQ
import Derived.Test.YtppjlpihaocdiaaGreatDoorBfQ
import Derived.Test.YtppjlpihaocdiaaGreatDoorBeQ
set_option linter.all false
set_option maxRecDepth 100000
set_option maxHeartbeats 16000000
namespace Go.Proofs.YtppjlpihaocdiaaGreatDoor
open Go.RowKit Go.Proofs.Tryz
variable{w u v:ae}{a b c d e:Nat}{s t:ag}{x y z:af}{p D:Int}{l:List af}{f:Bool}{g:List Nat}{h:Nat->Prop}{o:Option Addr}{r:List UInt8}{A:Nat->Bool}{B:Nat->Nat->Bool}{C:Nat->Nat->Prop}(i:Nat)(S T:ag)(V X:af)(j k m n:Nat)(Z:Int)(W:ae)
def yb(w:ae):Prop:=Tw w<|λk=>w.heap.size<=k
def yp(w:ae)(cv:af)(n:Nat):Ev:=⟨.slice none 0 0,.slice none 0 0,.slice none 0 0,cv, aa (w.heap.size+1) n n⟩
def Is{cf:Cf}{c:Array af}{d:Obj}{f:TypeId}(m:c.size=cf.U.length)(i:c.toList=ov (List.replicate cf.U.length false))(l:zy w (λa=>w.heap.size<=a) x cf.U)(n:cf.U.length<=1000):
  At (((w.alloc d).alloc<|.cells c 4).alloc<|.cells (pb cf (fy cf)<|yp w x cf.U.length).toArray f).drew (w.heap.size+1+1) cf (fy cf) (yp w x cf.U.length):=by
 have j:((w.alloc d).alloc<|.cells c 4).heap.size=w.heap.size+1+1:=qD
 have g:Below w.heap.size w (((w.alloc d).alloc<|.cells c 4).alloc<|.cells (pb cf (fy cf)<|yp w x cf.U.length).toArray f).drew:=ss ((Hz w _ _).trans<|(mj _ _).mono qB);have h:=bd.new ((w.alloc d).alloc<|.cells c 4) (pb cf (fy cf)<|yp w x cf.U.length) f;rw[j]at h;have k:(((w.alloc d).alloc<|.cells c 4).alloc<|.cells (pb cf (fy cf)<|yp w x cf.U.length).toArray f).drew.heap[w.heap.size+1]?=some (.cells c 4 (0,0)):=by
  have b:=heap_alloc_new (w.alloc d)<|.cells c 4;have e:(w.alloc d).heap.size=w.heap.size+1:=qD
  rw[e]at b;show(((w.alloc d).alloc<|.cells c 4).alloc _).heap[w.heap.size+1]?=_
  rw[im _ _ _ qD];exact b
 refine⟨h.cw rfl,World.ownsRow_nil _ _ _ 1,World.ownsRow_nil _ _ _ 1,World.ownsRow_nil _ _ _ 1,?_,?_,?_⟩
 .refine⟨by simp[fy,ov],.inr ⟨w.heap.size+1,cf.U.length,c,by simp[yp,fy],ey _,k,by simp[fy],qH,Q,?_⟩⟩;have b:(fy cf).bo=List.replicate cf.U.length false:=rfl;rw[b,List.length_replicate,Nat.mul_one,i,Hh<|by simp[ov]]
 .refine l.keep (λa e _=>g.block a e) g.size<|λa e=> .inl ?_;obtain b|b|b|b|b:=e
  .show w.heap.size<=a;omega
  .cases b
  .cases b
  .cases b
  have:w.heap.size+1=a:=by simpa[yp,Value.ownBlock]using b
  show w.heap.size<=a
  omega
 refine⟨(λb=>by cases b),(λb=>by cases b),(λb=>by cases b),?_,(λa b=>by cases b),(λa b=>by cases b),(λa b=>by cases b),(λa b=>by cases b),(λa b=>by cases b),(λa b=>by cases b)⟩;intro b
 simp[yp,Value.ownBlock]at b
def Ji(a:uf p D=true):p=((p.toNat:Nat):Int)/\(p.toNat:Int)<=D:=by
 unfold uf at a;have:=zyb a;omega
def xj(s:ag)(a b c:Int)(q:Bool):Cf:=⟨a.toNat,b.toNat,c.toNat,q,(jb s).1⟩
def alu{a b c:Int}(i:(jb s).2.1=0)(d:uo a b c=true):gx (xj s a b c f):=by
 unfold uo at d;simp only[Aw]at d;let⟨⟨e,g⟩,h⟩:=d;have l:=(Ji e).2;have m:=(Ji g).2;have n:=(Ji h).2;let⟨j,k⟩:=agw s i;exact⟨by show a.toNat<=80;omega,by show b.toNat<=80;omega,by show c.toNat<=1000;omega,j,k⟩
def Ts{cf:Cf}(b:gx cf):Rest cf 0 (fy cf):=by
 have c:=b.dt;have iv:Iv cf 0 0 (fy cf):=⟨by simp[fy,Bm,ByteArray.size],by simp[fy,Bm,ByteArray.size],(λd a=>by cases a),by simp[fy],by simp[fy],by simp[fy],by simp[fy,Ed.more],by simp[fy],by simp[fy,fz];omega,by simp[fy]⟩;exact⟨iv,λ_=>Im iv rfl⟩
def Uz{e:Cf}{c:Ed}(d:Iv e a b c)(f:a<=2000000):c.out.length<=1099511000000:=by
 have g:=d.num;have h:=d.wn;omega
def zp(s:ag)(a b c:Int):Bool:=decide ((jb s).2.1=0)&&uo a b c
def Ah(s:ag)(a b c:Int):Nat:=if(jb s).2.1=0 then(if uo a b c=true then 0 else 5)else(jb s).2.1
def aeu{h:Cf}{f:Ed}{d:Ev}(c:At w a h f d)(b:Nat)(g:ib a d b):b<w.heap.size:=by
 obtain e|e|e|e|e:=g
 .rw[e];exact c.lt
 .exact(c.nx.lt b e).2
 .exact(c.ot.lt b e).2
 .exact(c.cg.lt b e).2
 exact(c.op.lt b e).2
def ahs(a:List UInt8):Qjj (ce a)=a:=by simp[Qjj,ce]
def tz(one two:ag)(c:UInt8)(k:Nat):UInt8:=if(Qjj one).findIdx (·==c)<k then(Qjj two).getD ((Qjj one).findIdx (·==c)) 0 else c
def awr(a:UInt8):tz S T a S.size=yw S T a:=by
 rw[tz,yw,jn]
def aws{b:UInt8}(g:(Qjj s).Nodup)(h:(Qjj s)[a]?=some b):tz s t b (a+1)=(Qjj t).getD a 0:=by
 let⟨c,d⟩:=jy.1 h;have f:(Qjj s).findIdx (·==b)=a:=by
  rw[List.findIdx_eq c];refine⟨by simp[d],λe i=>?_⟩;have:(Qjj s)[e]≠(Qjj s)[a]:=List.pairwise_iff_getElem.1 g e a Q c i;rw[d]at this;simpa using this
 rw[tz,f,G]
def awt{b c:UInt8}(f:(Qjj s)[a]?=some c)(hd:c≠b):tz s t b (a+1)=tz s t b a:=by
 have d:(Qjj s).findIdx (·==b)≠a:=λd=>by
  let⟨e,g⟩:=jy.1 f;have:=(List.findIdx_eq e).1 d;rw[g]at this;exact hd<|qK this.1
 unfold tz;by_cases e:(Qjj s).findIdx (·==b)<a
 .rw[G e,G]
 rw[N e,N]
def alx(a b d:ag)(f:ae)(U:a.size<=100000)(R:b.size=d.size)(S:b.size<=1000)(s:(Qjj b).Nodup):
  Calls prog 143 #[.string a,.string b,.string d] f λD H=>D=.returned (.string<|trans b d a)/\Below f.heap.size f H:=by
 obtain⟨k,o,K,E,F⟩:∃k o,(convert 9 99<|.string a).run prog f=.ok (aa f.heap.size a.size o) k/\bd k f.heap.size (bv<|Qjj a)/\Below f.heap.size f k:=
  ⟨_,_,Lib.run_convert_string_bytes (P:=prog) f 9 99 5 a underlying9 underlying99 underlying5,Sy f a,Sx f a⟩
 have z:Y (Qjj b).Nodup:=s;go_in;go_wp21;(try go_simp);go_loopw [8] (λg wr=>∃(e:Nat),e<=a.size/\g=I e/\Y (bd wr f.heap.size<|bv<|tk b d (Qjj a) e)/\Y (Below f.heap.size f wr)) (λg _=>a.size+1-(intOf g).toNat)
 .exact⟨0,Q,rfl,by rw[Yx];exact E,F⟩
 obtain⟨c,T,rfl,t,u⟩:=hrel;by_cases A:c<a.size
 .have h:c<(Qjj a).length:=by rw[jn];exact A
  have x:a[c]=(Qjj a)[c]:=rfl;have v:Y (tk b d (Qjj a) (c+1)=(tk b d (Qjj a) c).set c (yw b d (Qjj a)[c])):=Yw _ _ _ _ h;have C:Y ((tk b d (Qjj a) c).set c (tz b d (Qjj a)[c] 0)=tk b d (Qjj a) c):=Yc _ _ _<|Qs _ _ _ _ h
  rw[<-awr]at v;go_wp21;(try go_simp);go_loopw [9] (λg w=>∃(e:Nat),e<=b.size/\g=I e/\Y (bd w f.heap.size<|bv<|(tk b d (Qjj a) c).set c<|tz b d (Qjj a)[c] e)/\Y (Below f.heap.size f w)) (λg _=>b.size+1-(intOf g).toNat)
  .exact⟨0,Q,rfl,by rw[C.out];exact t,u⟩
  obtain⟨e,W,rfl,i,p⟩:=hrel;have L:(c:Int)<a.size:=Q
  by_cases B:e<b.size
  .have M:(e:Int)<b.size:=Q
   have P:(e:Int)<d.size:=Q
   have l:(Qjj b)[e]?=some b[e]:=dy (by rw[jn];exact B);have q:(Qjj d).getD e 0=d[e]' Q:=by
    have j:e<(Qjj d).length:=by rw[jn];omega
    rw[yz,dy j];rfl
   by_cases m:((a[c].toNat:Int)==(b[e].toNat:Int))=true
   .have y:b[e]=(Qjj a)[c]:=by
     have:(a[c].toNat:Int)=(b[e].toNat:Int):=qK m
     rw[x]at this;exact(yzt.1 Q).symm
    have n:Y (tz b d (Qjj a)[c] (e+1)=d[e]' Q):=by
     rw[Y,<-q];exact aws z<|by rw[l,y]
    have X:=i.cell (k:=c) (by rw[bv,zyc,zv<|by rw[Et];exact h];rfl);have V:=i.frozen (k:=c) (by rw[Bk,tj,Et];exact h);have j:Y (∀r,bd ((wr.drewN r).setCell (O f.heap.size c)<|.int .u8 ((d[e]' Q).toNat:Int)) f.heap.size<|bv<|(tk b d (Qjj a) c).set c<|tz b d (Qjj a)[c]<|e+1):=λr=>by
     have:=(i.cw (w':=wr.drewN r) rfl).put c (by rw[Bk,tj,Et];exact h) (.int .u8 ((d[e]' Q).toNat:Int));rw[<-Sw,List.set_set]at this;rw[n.out];exact this
    clear q l y;go_wp21;go_quiet (fail);go_wp21;go_roundw
    .exact⟨e+1,Q,qJ,j _,alf (Nw p _) ah⟩
    simp[intOf];omega
   have y:((a[c].toNat:Int)==(b[e].toNat:Int))=false:=qK m
   have n:Y (tz b d (Qjj a)[c] (e+1)=tz b d (Qjj a)[c] e):=awt l (λr=>m<|by rw[x,r];simp);clear m q l;go_wp21;go_quiet (fail);go_wp21;go_roundw
   .exact⟨e+1,Q,qJ,by rw[n.out];exact i.cw rfl,Nw p _⟩
   simp[intOf];omega
  have l:e=b.size:=Q
  subst l;have j:Y (bd wr f.heap.size<|bv<|tk b d (Qjj a)<|c+1):=by rw[Y,v];exact i
  go_wp21;go_roundw
  .exact⟨c+1,Q,qJ,j,p⟩
  simp[intOf];omega
 have i:c=a.size:=Q
 subst i;have j:Y (bd wr f.heap.size<|bv<|Qjj<|trans b d a):=by
  rw[Y,trans,ahs,<-Yv b d (Qjj a) a.size (jn _).symm];exact t
 have h:=Sn (cap:=o) j;rw[jn,show(trans b d a).size=a.size by rw[<-jn,trans,ahs,yxr,jn]]at h;rw[show ce (Qjj<|trans b d a)=trans b d a from rfl]at h;go_wp21;go_ret;exact⟨rfl,u⟩
def Gp:List Nat:=[123,100,68,110,78,112,80,103,71,104,72,120,61,113,97,105,99,98,116,115,121]
structure xg(gl:ag->Nat)(c:Dc)(x:Cm):Prop where
 kd:x.R<=20
 lt:c.di=Gp.getD x.R 0
 fst:c.fst=x.fst
 snd:c.snd=x.snd
 neg:c.neg=x.neg
 cn:x.R=0->c.cn=x.cn
 text:x.R=14\/x.R=15\/x.R=16->c.text=x.text
 tz:c.text.size<=400
 wj:x.R=17\/x.R=18->gl c.text=x.cn
 su:x.R=19->Su c x
 rows:x.R=20->c.one=x.la/\c.two=x.oo/\c.one.size=c.two.size/\c.one.size<=1000/\(Qjj c.one).Nodup
def Dd.cz(mf:Mf)(p:Dw)(x:Cm)(c:Dc)(D:Dd):Dd×Int:=
 if x.R=1\/x.R=2\/x.R=16 then D.kj c
 else if x.R=13 then({D.jk p with ck:=2},-4)
 else if x.R=3\/x.R=4 then D.next p (decide (x.R=4))
 else if x.R=5 then(D.print D.L,-1)
 else if x.R=6 then(D.print<|qh D.L,-1)
 else if x.R=12 then(D.print<|itoa D.number,-1)
 else if x.R=14 then({D with ef:=D.ef++[x.text]},-1)
 else if x.R=15 then(D.print x.text,-1)
 else if x.R=17 then(D,x.cn)
 else if x.R=18 then(if D.put=true then({D with put:=false},(x.cn:Int))else(D,-1))
 else if x.R=19 then((D.subst mf p x).1,if(D.subst mf p x).2=true then-1 else-4)
 else if x.R=20 then({D with L:=trans x.la x.oo D.L},-1)
 else(D.wq p c.di,if(qm c.di D).size<=p.cf.space/\(ql c.di D).size<=p.cf.space then-1 else-4)
structure Dop(p:Dw)(D:Dd)(cv pv ta tb tt:af)(n:Nat)(ns:List ag)(gs:List Nat)(c:Dc)(x:Cm)(w:ae):Prop where
 de:DE p w D cv pv
 cm:xf w p.B c ta tb tt
 r:xg (λt=>goalF n t ns gs) c x
 rd:Hq w p.rb n ns gs
 rl:p.rb<p.B
 rk:∀v k,w.cell? (O p.rb 3)=some v\/w.cell? (O p.rb 4)=some v->v.ownBlock=some k->k<p.B
 n:n<=1000
 L:D.L.size<=80
 bt:D.bt.size<=80
 out:D.out.size+fz D.ef<=1099510000000
 num:D.number<=1099511000000
 arl:1<=D.number
 rest:D.rest.size<=1099511000000
 ji:D.ji=false
 sp:p.cf.space<=80
def Zq(mf:Mf)(p:Dw)(D:Dd)(cv pv:af)(c:Dc)(x:Cm)(w:ae)(e:Ending)(w':ae):Prop:=e=.returned (.int .i64 (D.cz mf p x c).2)/\∃cv',DQ p cv w w' (D.cz mf p x c).1 cv' pv
def DQ.later{g:Dw}{f:Dd}{o:Obj}(c:DQ g x w u f y z)(B:v.ownsRow g.B 9 1 (aa a (f.ef.length+1) b) (f.ef.length+1) (sv f.ef++[.string s]))(j:(u.alloc o).drew.grownBy v y.ownBlock)(n:y.ownBlock=some a\/a=u.heap.size+1):
  v.heap[g.b]?=u.heap[g.b]? /\DQ g x w (v.setCell (O g.b 11)<|aa a (f.ef.length+1) b) {f with ef:=f.ef++[s]} (aa a (f.ef.length+1) b) z:=by
 have F:u.heap.size+1<=v.heap.size:=by have:=j.size;simpa using this
 have l:∀d,d<u.heap.size->y.ownBlock≠some d->v.heap[d]?=u.heap[d]? :=λd h q=>(j.block d qB<|λe=>q e.symm).trans<|im u o d h
 have C:=c.1.lt;have k:a≠g.b/\z.ownBlock≠some a:=by
  obtain e|e:=n
  .exact⟨λi=>c.1.a1<|by rw[<-i];exact e,c.1.a3 a e⟩
  exact⟨Q,λi=>by have:=(c.1.op.lt a i).2;omega⟩
 have i:bf g.b v (v.setCell (O g.b 11)<|aa a (f.ef.length+1) b):=(bf.refl _ _).setCell _ _;have p:=l g.b C c.1.a1;have D:=da c.1.op λd h=>l d (c.1.op.lt d h).2<|λe=>c.1.a3 d e h
 refine⟨p,c.trans ⟨⟨(c.1.row.cw p).put 11 (by show 11<18;omega) _,?_,mc i D c.1.a2,c.1.le,λe=>k.1<|yyo e,c.1.a2,λd h=>by cases h;exact k.2⟩,i.os.trans j.os,i.tape.trans j.tape,i.output.trans j.output,by rw[i.size];omega,λm r t A E=>(i.block m t).trans<|l m r A,λd h=>?_⟩⟩
 .show World.ownsRow _ _ _ 1 _ (f.ef++[s]).length (sv<|f.ef++[s])
  rw[Dl,ga];exact mc i B<|λe=>k.1<|yyo e
 cases h
 obtain e|e:=n
 .exact .inl e
 exact .inr (by show u.heap.size<=a;omega)
section
def res(E:Ed):List UInt8×Nat:=(E.out,E.ck)
def nh(mf:Mf)(cf:Cf)(d:Bool)(E:Ed)(r:List UInt8):Ed:=if d=true then(E.ly mf cf r).rh mf cf else E.ly mf cf r
structure To(mf:Mf)(cf:Cf)(d:Bool)(F:List UInt8×Nat)(K l:Nat)(E:Ed)(r:List UInt8):Prop where
 ll:l<=4
 wz:Good cf K l E
 kk:K+r.length<=2000000
 ex:∃f,mu cf l E<f/\((E.dq=false/\res (nh mf cf d (E.hu mf cf f l) r)=F)\/(E.dq=true/\r=[]/\d=true/\res (E.hu mf cf f l)=F))
section
variable {mf:Mf} {cf:Cf} {d:Bool} {F:List UInt8×Nat} {K l l':Nat} {E E':Ed} {r:List UInt8}
def To.step(c:To mf cf d F K l E r)(e:l'<=4)(f:Good cf K l' E')(j:mu cf l' E'<mu cf l E)(g:E'.dq=E.dq)(i:∀a,E.hu mf cf (a+1) l=E'.hu mf cf a l'):To mf cf d F K l' E' r:=by
 let⟨a,k,b⟩:=c.ex;obtain⟨a,rfl⟩:∃h,a=h+1:=⟨a-1,Q⟩;rw[i]at b;exact⟨e,f,c.kk,a,Q,by rw[g];exact b⟩
def To.same(c:To mf cf d F K l E r)(e:l'<=4)(f:Good cf K l' E')(j:mu cf l' E'<=mu cf l E)(g:E'.dq=E.dq)(i:∀a,E.hu mf cf (a+1) l=E'.hu mf cf (a+1) l'):To mf cf d F K l' E' r:=by
 let⟨a,k,b⟩:=c.ex;obtain⟨a,rfl⟩:∃h,a=h+1:=⟨a-1,Q⟩;rw[i]at b;exact⟨e,f,c.kk,a+1,Q,by rw[g];exact b⟩
def To.stop(h:To mf cf d F K l E r)(e:E'.ck≠0)(f:∀b,E.hu mf cf (b+1) l=E'):F=res E':=by
 let⟨b,i,a⟩:=h.ex;obtain⟨b,rfl⟩:∃g,b=g+1:=⟨b-1,Q⟩;rw[f]at a;have c:E'.ru=false:=by simp[Ed.ru,e]
 obtain⟨_,a⟩|⟨_,_,_,a⟩:=a
 .rw[<-a,nh,Ot r E' c];split
  .rw[Ed.rh,N<|by rw[c];simp]
  rfl
 exact a.symm
theorem To.ji(h:gx cf)(e:To mf cf d F K l E r)(o:E'.ck=0)(p:E.dq=false)(i:E'.dq=false)(j:∀c,E.hu mf cf (c+1) l=E'):
  (∃a k,r=a::k/\To mf cf d F (K+1) (if E'.bg=0 then 0 else 2) (E'.add a) k)\/(r=[]/\d=true/\To mf cf d F K (if E'.bg=0 then 0 else 2) {E' with dq:=true} [])\/(r=[]/\d=false/\F=res E'):=by
 let⟨c,q,b⟩:=e.ex;have m:Rest cf K E':=by
  have:=zu h (by have:=e.kk;omega) c l E e.ll e.wz q (mf:=mf);obtain⟨c,rfl⟩:∃g,c=g+1:=⟨c-1,Q⟩;rwa[j]at this
 obtain⟨c,rfl⟩:∃g,c=g+1:=⟨c-1,Q⟩;rw[j]at b;have f:E'.ru=true:=by simp[Ed.ru,o,i]
 have n:=e.kk;obtain⟨_,b⟩|⟨b,_⟩:=b
 .obtain _|⟨a,r⟩:=r
  .obtain _|_:=d
   .exact .inr<|.inr ⟨rfl,rfl,b.symm⟩
   refine .inr (.inl ⟨rfl,rfl,by split<;>omega,Om m f,n,10000,Gt (K:=K) h,.inr ⟨rfl,rfl,rfl,?_⟩⟩);rw[<-b,nh,G rfl];show _=res (Ed.rh mf cf E')
   rw[Ed.rh,G f];rfl
  refine .inl ⟨a,r,rfl,by split<;>omega,?_,qE,10000,Gt (K:=K) h,.inl ⟨by rw[(Jt E' a).2.2.2];exact i,?_⟩⟩
  .have:=Nn m f a;rwa[(Jt E' a).1]at this
  rw[<-b];have s:E'.ly mf cf (a::r)=((E'.add a).work mf cf).ly mf cf r:=by
   show(E'.sc mf cf a).ly mf cf r=_
   rw[Ed.sc,G f]
  rw[nh,nh,s,Ed.work,(Jt E' a).1]
 grind
end
structure Rl(cf:Cf)(d:Bool)(D:Dd)(E:Ed)(r:List UInt8):Prop where
 rest:Qjj D.rest=E.next++(if E.whole=true then [10] else [])++r
 dq:D.dq=d
 en:E.dq=true->r=[]/\d=true
 number:D.number=E.number
 L:D.L=E.L
 bt:D.bt=E.bt
 ef:D.ef=E.cy
 out:Qjj D.out=E.out
 bo:D.bo=E.bo
 put:D.put=E.put
 dt:D.dt=E.cx
 st:D.ck=0
 es:E.ck=0
 ji:D.ji=false
 ps:D.L.size<=cf.space
 hs:D.bt.size<=cf.space
 nn:(10:UInt8)∉E.next
section
variable {mf:Mf} {cf:Cf} {d:Bool} {D:Dd} {F:List UInt8×Nat} {K l:Nat} {E:Ed} {r:List UInt8}
def Qc:S.toList.isEmpty=true↔Qjj S=[]:=by
 rw[List.isEmpty_iff];show S.toList=[]↔S.data.toList=[]
 rw[yyn]
theorem Rl.known(e:Rl cf d D E r)(g:E.known=true):D.yg=false/\D.zm= !E.more/\D.last=D:=by
 have c:D.yg=false/\D.zm= !E.more:=by
  unfold Dd.yg Dd.zm;have b:=e.rest;by_cases a:E.more=true
  .have:D.rest.toList.isEmpty=false:=by
    cases f:D.rest.toList.isEmpty
    .rfl
    rw[Qc]at f;rw[f]at b;simp only[Ed.more,uz,xz]at a;obtain a|a:=a
    .simp_all
    have:=congrArg List.length b;simp at this;exact cb (yyp Q) a
   grind
  have f:E.dq=true:=by
   simp only[Ed.known,uz]at g;exact g.resolve_left a
  obtain⟨rfl,rfl⟩:=e.en f;have:D.rest.toList.isEmpty=true:=by
   rw[Qc,b];simp only[Ed.more,uz,xz,not_or]at a;simp[a.1,Decidable.of_not_not a.2]
  rw[this,e.dq];simp[a]
 exact⟨c.1,c.2,by rw[Dd.last,c.1];rfl⟩
def Rl.yg(b:Rl cf false D E [])(a:E.known=false):D.yg=true:=by
 simp only[Ed.known,Ed.more,yyw,yza,zye]at a;have:Qjj D.rest=[]:=by rw[b.rest,a.1.1,a.1.2];rfl
 rw[<-Qc]at this;rw[Dd.yg,this,b.dq];rfl
def Rl.add{c:UInt8}(a:Rl cf d D E (c::r))(e:E.whole=false)(h:E.dq=false):Rl cf d D (E.add c) r:=by
 have f:=a.rest;rw[e]at f;have g:Qjj D.rest=(E.add c).next++(if(E.add c).whole=true then [10] else [])++r:=by
  rw[f,Ed.add];by_cases b:c=10
  .simp[b]
  simp[b,e]
 refine⟨g,a.dq,λb=> ?_,?_,?_,?_,?_,?_,?_,?_,?_,a.st,?_,a.ji,a.ps,a.hs,?_⟩
 .rw[(Jt E c).2.2.2,h]at b;cases b
 all_goals unfold Ed.add;split<;>first|exact a.nn|(rename_i b;simp only[og,yxh,not_or];exact⟨a.nn,λi=>b i.symm⟩)|exact a.number|exact a.L|exact a.bt|exact a.ef|exact a.out|exact a.bo|exact a.put|exact a.dt|exact a.es
def Rl.fin(a:Rl cf true D E []):Rl cf true D {E with dq:=true} []:=⟨a.rest,a.dq,λ_=>⟨rfl,rfl⟩,a.number,a.L,a.bt,a.ef,a.out,a.bo,a.put,a.dt,a.st,a.es,a.ji,a.ps,a.hs,a.nn⟩
def zz(E E':Ed):Prop:=∃nx wh en,E'={E with next:=nx,whole:=wh,dq:=en}
def Uy(E:Ed)(a:UInt8):zz E (E.add a):=by
 unfold Ed.add;split
 .exact⟨E.next,true,E.dq,rfl⟩
 exact⟨E.next++[a],E.whole,E.dq,rfl⟩
def To.known(n:gx cf)(k:To mf cf d F K l E r)(b:Rl cf d D E r)(g:l=if E.bg=0 then 0 else 2)(h:E.known=false)(o:∀j,E.hu mf cf (j+1) l=E):
  (∃p E' e,To mf cf d F p l E' e/\Rl cf d D E' e/\E'.known=true/\zz E E')\/(D.yg=true/\F=(Qjj D.out,0)):=by
 have f:=h;simp only[Ed.known,Ed.more,yyw]at f;let⟨⟨m,_⟩,c⟩:=f;obtain⟨i,e,rfl,a⟩|⟨rfl,rfl,a⟩|⟨rfl,rfl,a⟩:=k.ji n b.es c c o
 .rw[<-g]at a;exact .inl ⟨_,_,_,a,b.add m c,by simp[Ed.known,Sg],Uy E i⟩
 .rw[<-g]at a;exact .inl ⟨_,_,_,a,b.fin,by simp[Ed.known],E.next,E.whole,true,rfl⟩
 exact .inr ⟨b.yg h,by rw[a,res,b.es,b.out]⟩
end
end
section
section
variable {mf:Mf} {cf:Cf} {d:Bool} {D:Dd} {F:List UInt8×Nat} {K l:Nat} {E:Ed} {r:List UInt8} {x:Cm} {c:Dc}
def Rl.jl(g:Rl cf d D E r){a:Wh}(b:(E.jl mf a).2=true):D.rr mf a=(E.jl mf a).1/\D.lu a=D:=by
 unfold Ed.jl at b|-;unfold Dd.rr Dd.lu;by_cases e:a.sort=1
 .simp[e,g.number]
 by_cases f:a.sort=2
 .rw[N e,G f]at b|-;rw[N e,G f,G f];exact⟨(g.known b).2.1,(g.known b).2.2⟩
 by_cases h:a.sort=3
 .simp[h,g.L]
 simp[e,f,h]
theorem Rl.gz(b:Rl cf d D E r)(y:c.fst=x.fst)(z:c.snd=x.snd)(w:c.neg=x.neg)(A:x.snd.sort<=3)(a:(E.gz mf x).2.2=true):
  ∃h,(E.gz mf x).1={E with bo:=h}/\h.length=E.bo.length/\D.gz mf c E.H=({D with bo:=h},(E.gz mf x).2.1 !=x.neg):=by
 have t:{D with bo:=E.bo}=D:=by rw[<-b.bo]
 unfold Ed.gz at a|-;rw[Dd.gz,y,z,w];by_cases m:x.snd.sort=0
 .rw[G m]at a|-;rw[G m];let⟨i,j⟩:=b.jl a;grind
 rw[N m]at a|-;rw[N m,b.bo];simp only at a|-;have u:∀h,(E.qa mf x.snd h).2=true->(x.snd.sort=2->E.known=true):=λh p e=>by
  unfold Ed.qa Ed.jl at p;grind
 cases v:E.bo.getD E.H false
 .rw[v]at a;by_cases f:(E.jl mf x.fst).1=false\/(E.jl mf x.fst).2=false
  .rw[G ⟨rfl,f⟩]at a|-;let⟨i,j⟩:=b.jl a;have g:(E.jl mf x.fst).1=false:=by obtain e|e:=f;exact e;rw[a]at e;cases e
   exact⟨E.bo,rfl,rfl,by simp_all⟩
  rw[N<|λe=>f e.2]at a|-;simp only at a;simp only[not_or,Bool.not_eq_false]at f;let⟨i,j⟩:=b.jl f.2;have k:=u _ a;refine⟨E.bo.set E.H<|!(E.qa mf x.snd false).1,by rw[G a],qD,?_⟩;rw[N qG,i,j,N<|by rw[b.ji,f.1];simp,a];have q:(if x.snd.sort=2 then D.last else D)=D:=by
   split
   .rename_i e;exact(b.known<|k e).2.2
   rfl
  rw[q,b.bo];have s:(!(decide (x.snd.sort=2)&&D.zm)&& !(decide (x.snd.sort=1)&&decide (x.snd.num<=D.number)))= !(E.qa mf x.snd false).1:=by
   unfold Ed.qa Ed.jl;by_cases n:x.snd.sort=1
   .simp[n,b.number]
   by_cases g:x.snd.sort=2
   .have:=(b.known<|k g).2.1;simp[g,this]
   by_cases o:x.snd.sort=3
   .simp[o]
   omega
  rw[s];simp
 rw[v]at a;rw[N qD]at a|-;simp only at a;have k:=u _ a;refine⟨E.bo.set E.H<|!(E.qa mf x.snd true).1,by rw[G a],qD,?_⟩;rw[G rfl,a];have q:D.lu x.snd=D:=by
  unfold Dd.lu;split
  .rename_i e;exact(b.known<|k e).2.2
  rfl
 rw[q,b.bo];have s:(!(D.rr mf x.snd)&& !(decide (x.snd.sort=1)&&decide (x.snd.num<=D.number)))= !(E.qa mf x.snd true).1:=by
  unfold Ed.qa Ed.jl Dd.rr;by_cases n:x.snd.sort=1
  .simp[n,b.number];omega
  by_cases g:x.snd.sort=2
  .have:=(b.known<|k g).2.1;simp[g,this]
  by_cases o:x.snd.sort=3
  .simp[o,b.L]
  simp[n,g,o]
 rw[s];simp
theorem To.look(n:gx cf)(h:To mf cf d F K 1 E r)(g:E.ck=0)(e:E.H<cf.U.length):(E.cx=cf.dt/\F=(E.out,5))\/(E.cx≠cf.dt/\To mf cf d F K 2 {E with cx:=E.cx+1,bg:=2} r):=by
 have iv:=h.wz.iv;have j:cr 1 E.bg=81:=rfl;rw[j]at iv;have m:=iv.cx;have i:To mf cf d F K 2 {E with bg:=1} r:=h.step Q ⟨iv.jp E.H 1 E.ck E.put iv.H,λ_=>e,λ_=>⟨ah,qD⟩,λ_ a=>by simp at a,λ_ a=>by simp at a,.inl g⟩ (by simp[mu,Ed.more]) rfl (λf=>by rw[Ce,N]);by_cases b:E.cx=cf.dt
 .refine .inl ⟨b,i.stop (E':={E with bg:=1,ck:=5}) qD λf=> ?_⟩;rw[ug];simp[Ed.dv,b,Ed.stop]
 refine .inr ⟨b,i.same Q ⟨⟨iv.L,iv.bt,iv.ny,iv.bo,qC,iv.H,iv.num,iv.next,?_,iv.ca⟩,λ_=>e,λ_=>⟨qD,qD⟩,λ_ a=>by simp at a,λ_ a=>by simp at a,.inl g⟩ ?_ rfl λf=> ?_⟩
 .have k:cr 2 2=482:=rfl;have:=iv.wn;grind
 .simp[mu,Ed.more];omega
 rw[ug,ug];simp[Ed.dv,b]
theorem To.cmd(h:gx cf)(a:To mf cf d F K 2 E r)(i:(E.dv mf cf).1.dq=E.dq)(b:(E.dv mf cf).2≠0):To mf cf d F K (pj (E.dv mf cf).2) (nx<|E.dv mf cf) r:=by
 let⟨k,_,f⟩:=Ig h (by have:=a.kk;omega) a.wz (mf:=mf);let⟨g,j⟩:=f b;refine a.step (by grind[pj]) g j (by unfold nx;split<;>exact i) λm=> ?_
 rw[ug,N b];grind[pj,nx]
def Kb(a:cf.U[E.H]?=some x)(b:E.bg≠1:=by omega):E.dv mf cf=E.choose mf cf x:=by
 rw[Ed.dv,List.getD,a];simp[b]
def To.pick(o:gx cf)(h:To mf cf d F K 2 E r)(e:E.bg=2)(p:E.ck=0)(k:cf.U[E.H]?=some x){a:List Bool}(j:E.gz mf x=({E with bo:=a},f,true))(q:a.length=E.bo.length):
  (f=x.neg->To mf cf d F K 1 {E with bo:=a,H:=if x.R=0 then x.cn else E.H+1} r)/\(f≠x.neg->To mf cf d F K 2 {E with bo:=a,bg:=3} r):=by
 have m:=Kb (mf:=mf) k;have n:=h.wz;refine⟨λi=> ?_,λi=> ?_⟩
 .have b:E.dv mf cf=({E with bo:=a,H:=if x.R=0 then x.cn else E.H+1},1):=by rw[m,Ed.choose,G e,j];simp[i,Ed.fv]
  have:=h.cmd o (by rw[b]) (by rw[b];simp);rwa[b]at this
 have iv:=n.iv;rw[show cr 2 E.bg=482 by rw[e];rfl]at iv;refine h.same Q ⟨(iv.afn a q).jp E.H 3 E.ck E.put iv.H,λ_=>n.lt rfl,λ_=>⟨qD,qD⟩,λ_ g=>by simp at g,λ_ g=>by simp at g,.inl p⟩ (by simp[mu,Ed.more,e]) rfl λt=> ?_
 have b:({E with bo:=a,bg:=3}:Ed).dv mf cf=E.dv mf cf:=by
  have s:=Kb (mf:=mf) (cf:=cf) (E:={E with bo:=a,bg:=3}) k qD;rw[m,s,Ed.choose,Ed.choose,G e,j];simp[i]
 rw[ug,ug,b]
end
end
def Sf.pu{b:Ed->Ed}(k:Pu b){e a:Ed}(c:Sf r e a):Sf r (b e) (b a):=by
 let⟨h,i,j,d⟩:=k e a.out a.ca;rw[<-c.eq]at d;have f:(b a).out=a.out++h:=by rw[d];rfl
 have g:(b a).ca=a.ca:=by rw[d];rfl
 refine⟨by rw[f,g];exact d,?_,by rw[j];exact c.ca,by rw[f,g,ga];have:=c.le;omega⟩;rw[i,c.out,f,g,List.drop_append_of_le_length c.le,nt]
def ZX{e:Cf}{d:Ed}(c:Iv e a b d)(f:Int):Iv e a b (d.take f).1:=by
 have h:=c.ca;have g:d.ca+d.vr f<=d.out.length:=by unfold Ed.vr Ed.ud;omega
 rw[Yr];split
 .exact⟨c.L,c.bt,c.ny,c.bo,c.cx,c.H,c.num,c.next,by have:=c.wn;simp only[List.length_drop];omega,qD⟩
 exact⟨c.L,c.bt,c.ny,c.bo,c.cx,c.H,c.num,c.next,c.wn,g⟩
def ZK(a:Ed)(b:Int):(a.take b).1.bg=a.bg/\(a.take b).1.H=a.H/\(a.take b).1.ck=a.ck/\(a.take b).1.more=a.more:=by
 rw[Yr];split<;>exact⟨rfl,rfl,rfl,rfl⟩
def ZV{g:Cf}{f:Ed}(j:Rest g a f)(e:Int):Rest g a (f.take e).1:=by
 let⟨d,h,i,k⟩:=ZK f e;refine⟨ZX j.1 e,λl=>?_⟩;have c:=j.2<|i.symm.trans l;rw[d];exact⟨by rw[d];exact ZX c.iv e,λb=>by rw[h];exact c.lt b,λb=>by rw[d];exact c.st b,λb=>by rw[d,h];exact c.rd b,λb=>by rw[d,k];exact c.mr b,by rw[i];exact c.run⟩
def ZW:Qjj (S++T)=Qjj S++Qjj T:=by simp[Qjj]
def ZY(a:Qjj s=Qjj t):s=t:=by
 unfold Qjj at a;apply va;exact Array.ext' a
def ZP:Qjj (S.extract 0 j)=(Qjj S).take j:=by simp[Qjj,yyg]
def WZ(a:Cf):Sf [] (fy a) (fy a):=⟨rfl,rfl,rfl,by simp[fy]⟩
