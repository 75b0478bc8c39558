import Derived.Test.YtppjlpihaocdiaaGreatDoorBjQ
import Derived.Test.YtppjlpihaocdiaaGreatDoorBmQ
import Derived.Test.YtppjlpihaocdiaaGreatDoorBoQ
import Derived.Test.YtppjlpihaocdiaaGreatDoorBnQ
set_option linter.all false
set_option maxRecDepth 100000
set_option maxHeartbeats 16000000
namespace Go.Proofs.YtppjlpihaocdiaaGreatDoor
open Go.RowKit Go.Proofs.Tryz
variable{w u v:ae}{a b c d e:Nat}{s t:ag}{x y z:af}{p D:Int}{l:List af}{f:Bool}{g:List Nat}{h:Nat->Prop}{o:Option Addr}{r:List UInt8}{A:Nat->Bool}{B:Nat->Nat->Bool}{C:Nat->Nat->Prop}(i:Nat)(S T:ag)(V X:af)(j k m n:Nat)(Z:Int)(W:ae)
def akr(h:ae):Ch:=λg c b=>by
 have⟨j,o,p,d,_⟩:=afw g h (by omega) [];have⟨s,n,i,r,l,q,t,_,a,_⟩:=d;rcases a with⟨_,_,_,_,a⟩|⟨_,m,_,_,a⟩
 .have⟨u,k,_,_,e,f,_⟩:=a b;exact⟨ajs c,b,e,f⟩
 rw[c]at a;cases a
def ahu(b:Nat)(a:ag):∀(n:Nat)(c:ae)(d g:ie)(e i f:af),RE c b a d e i f->Cj d->Ht a n d g->Calls prog 90 #[.pointer<|some ⟨b,0,none⟩] c (RQ b a e i f c g)
 |0,_,_,_,_,_,_,_,_,h=>h.elim
 |n+1,c,d,g,e,i,f,h,hf,hR=>amc b a (Hk a<|Ht a n) (al9 b a (Ht a n)<|ahu b a n) (a.size+1) d g e i f c h hf hR
def RE.env{g:ie}{M:List Cm}(d:RE w a s g x y z)(A:Rv s M g):∃k,∀n:Dw,n.B=w.heap.size->n.rb=a->n.cf.U=M->gx n.cf->Env w n k g.cs g.ns g.gs:=by
 have⟨xs,t,T⟩:=d.ls;have⟨a4,a5,U⟩:=A.ye;have a2:=A.le;have a3:=A.s4;have F:=d.row.xc 2;have H:=d.row.xc 3;have K:=d.row.xc 4;have V:∀c h,g.cs[c]?=some h->∃m o p,(∀P v,(ig h m o p)[P]?=some v->xs[c*16+P]?=some v)/\xf w w.heap.size h m o p:=λc h r=>by
  have⟨m,o,p,C,D⟩:=T c h r;exact⟨m,o,p,C,D w ah λ_ _ _=>rfl⟩
 have Q:∃k,k<w.heap.size/\(∃l i,x=.slice l g.cs.length i/\(0<g.cs.length->l=some (O k 0)))/\∀j u,xs[j]?=some u->w.cell? (O k j)=some u:=by
  rcases yzu g.cs.length with e|e
  .have⟨l,i,b⟩:=yq t;refine⟨a,d.lt,⟨l,i,b,λq=>by omega⟩,λj u B=>?_⟩;have:=t.1;rw[je<|by omega]at B;cases B
  have⟨E,i,b,_,_⟩:=t.form e;have L:x.ownBlock=some E:=by rw[b];rfl
  refine⟨E,(t.lt E L).2,⟨_,i,b,λ_=>rfl⟩,λj u B=>?_⟩;have:=t.cells L j u B;rcases yzu j with q|q
  .subst q;exact this
  rw[Addr.add,N]at this;simpa using this
 have⟨k,W,⟨l,i,E,X⟩,Z⟩:=Q;refine⟨k,λn B b L R=>⟨⟨⟨l,i,?_,X⟩,λc h r=>?_,?_,?_,by omega⟩,⟨⟨l,i,?_⟩,⟨y,?_,d.ns.mono<|ey _⟩,⟨z,?_,d.gs.mono<|ey _⟩,U,by omega⟩,λv c f r=>?_,by rw[L];exact A.len,λc h a1 S a0=>A.rel c h a1 S<|by rw[<-L];exact a0,R⟩⟩
 .rw[b,F,E]
 .have⟨m,o,p,C,D⟩:=V c h r;exact⟨m,o,p,λj v f=>Z _ _<|C j v f,by rw[B];exact D⟩
 .rw[B,b];exact d.lt
 .rw[B];exact W
 .rw[b,F,E]
 .rw[b];exact H
 .rw[b];exact K
 rw[b]at f;rw[B];rcases f with f|f
 .rw[H]at f;cases f;exact(d.ns.lt c r).2
 rw[K]at f;cases f;exact(d.gs.lt c r).2
def atc{h:List Cm}{g:ie}(e:Rv s h g):Dq s h:=λf=>by
 have k:=hd e;have m:=e.s4;go_in;have n:=hd (show∀c:ae,bd c f.heap.size [.string s,I 0,.slice none 0 0,.slice none 0 0,.slice none 0 0]->RE c f.heap.size s ⟨0,[],[],[]⟩ (.slice none 0 0) (.slice none 0 0) (.slice none 0 0)from λc l=>
  ⟨l,⟨[],⟨rfl,.inl ⟨rfl,rfl⟩⟩,λd w a=>(by cases a)⟩,⟨rfl,.inl ⟨rfl,rfl⟩⟩,⟨rfl,.inl ⟨rfl,rfl⟩⟩,ey _,m,λd a=>(by cases a),λd a=>(by cases a)⟩)
 go_wp2_with (refine ti 6 rfl rfl 128 (.tmp 5) rfl [.string s,I 0,.slice none 0 0,.slice none 0 0,.slice none 0 0] rfl ?_;intro c p i j;have o:=hd<|n c i;have b:=hd j;clear i j p);have i:=ahu f.heap.size s 7 c ⟨0,[],[],[]⟩ g _ _ _ o ⟨ah,ah,rfl⟩ k.row;go_call i;rintro x y ⟨rfl,t,u,v,j,hF⟩;have p:=hd j;have r:=hd hF;go_wp21;go_ret;have⟨i,j⟩:=p.env k;refine⟨_,i,_,_,_,rfl,?_,j⟩;have hF:=r.out;exact⟨hF.os.trans b.os,hF.tape.trans b.tape,hF.output.trans b.output,bq b.size hF.size,λd a=>(hF.block d (ew a b.size) λq=>by
  rcases q with q|q|q|q
  .omega
  .cases q
  .cases q
  cases q).trans<|b.block d a⟩
def atd(g:ae){a:List Cm}(b:s.size<=400)(c:(hq s).2=true)(d:(hq s).1.bk=-1)(e:joinL (hq s).1.bh (hq s).1.U.length (hq s).1.bh 0 (hq s).1.U=.ok a):Dq s a:=by
 have⟨h,f⟩:=ate (akr g) b c d e;exact atc f
section
def aqn(a b c:Int)(f:Bool)(w:ae):Calls prog 38 #[.agg #[.int .i64 a,.int .i64 b,.int .i64 c,.bool f]] w λe w'=>e=.returned (.bool<|uo a b c)/\Below w.heap.size w w':=by
 go_in;go_wp21
 all_goals go_ret
 all_goals refine⟨congrArg (λg=>Ending.returned<|Value.bool g) ?_,mj w _⟩
 all_goals rw[vv]
 all_goals simp[uo,uf]
 all_goals omega
def Ib(bl:Nat)(s:ag)(cf:Cf)(inp:ag)(d:Bool)(t:Nat):List af:=
 [ab bl 0,.string s,I cf.line,I cf.space,I cf.dt,.bool cf.quiet,.string inp,.bool d,I t]
structure XX(o o':Nat->Nat)(i:Nat)(w w':ae):Prop where
 nz:i≠0
 os:w'.os=w.os
 tape:w'.tape=w.tape
 output:w'.output=w.output
 size:w.heap.size<=w'.heap.size
 old:∀k,k<w.heap.size->o' k=o k
 new:∀k,w.heap.size<=k->o' k=0\/o' k=i/\k<w'.heap.size
 block:∀k,k<w.heap.size->o k≠i->w'.heap[k]?=w.heap[k]?
def XV(o:Nat->Nat)(w:ae):Prop:=∀k,w.heap.size<=k->o k=0
section
variable {o o' o'':Nat->Nat} {i:Nat} {w w' w'':ae}
def XX.trans(a:XX o o' i w w')(b:XX o' o'' i w' w''):XX o o'' i w w'':=
 ⟨a.nz,b.os.trans a.os,b.tape.trans a.tape,b.output.trans a.output,bq a.size b.size,λj c=>(b.old j<|ew c a.size).trans<|a.old j c,λj c=>by
  by_cases g:j<w'.heap.size
  .rw[b.old j g];exact(a.new j c).imp id λe=>⟨e.1,ew e.2 b.size⟩
  exact b.new j<|by omega,λj c f=>(b.block j (ew c a.size)<|by rw[a.old j c];exact f).trans<|a.block j c f⟩
def XX.og(a:XX o o' i w w'):XV o' w':=λc b=>by
 rcases a.new c (bq a.size b)with e|e
 .exact e
 omega
def XV.below(e:XV o w)(f:i≠0)(a:Below w.heap.size w w'):XX o o i w w':=
 ⟨f,a.os,a.tape,a.output,a.size,λ_ _=>rfl,λc b=> .inl<|e c b,λc b _=>a.block c b⟩
def XV.bj(f:XV o w)(g:i≠0)(b:bf a w w')(l:o a=i):XX o o i w w':=
 ⟨g,b.os,b.tape,b.output,yh b.size.symm,λ_ _=>rfl,λc h=> .inl<|f c h,λc _ k=>b.block c λe=>k<|e▸l⟩
end
structure ZZ(o:Nat->Nat)(i:Nat)(w:ae)(bb bl:Nat)(s:ag)(cf:Cf)(inp:ag)(d:Bool)(t:Nat)(E:Ed):Prop where
 row:bd w bb (Ib bl s cf inp d t)
 ow:o bb=i
 nz:i≠0
 al:∃v,At w bl cf E v/\(∀k,ib bl v k->o k=i/\k≠bb)/\zy w (λk=>o k≠0) v.cm cf.U
@[reducible] def XJ (bb:Nat) (s:ag) (cf:Cf) (inp:ag) (d:Bool) (W:ae):Prop:=W.cell? (O bb 1)=some (.string s)/\W.cell? (O bb 2)=some (I cf.line)/\W.cell? (O bb 3)=some (I cf.space)/\W.cell? (O bb 4)=some (I cf.dt)/\W.cell? (O bb 5)=some (.bool cf.quiet)/\W.cell? (O bb 6)=some (.string inp)/\W.cell? (O bb 7)=some (.bool d)
def QQ{w w':ae}{bl:Nat}{cf:Cf}{E:Ed}{f:Ev}(c:At w bl cf E f)(e:∀a,ib bl f a->w'.heap[a]?=w.heap[a]?)(g:zy w' (ib bl f) f.cm cf.U):At w' bl cf E f:=
 ⟨c.row.cw<|e _<|.inl rfl,da c.nx λa b=>e a<|.inr<|.inl b,da c.ot λa b=>e a<|.inr<|.inr<|.inl b,da c.cg λa b=>e a<|.inr<|.inr<|.inr<|.inl b,da c.op λa b=>e a<|.inr<|.inr<|.inr<|.inr b,g,c.ap⟩
section
variable {o o':Nat->Nat} {i j:Nat} {w w':ae} {bb bl:Nat} {s:ag} {cf:Cf} {inp:ag} {d:Bool} {t:Nat} {E E':Ed}
def ZZ.lt(a:ZZ o i w bb bl s cf inp d t E):bb<w.heap.size:=a.row.lt (by show 0<9;omega)
def ZZ.oth(e:ZZ o i w bb bl s cf inp d t E)(c:XX o o' j w w')(m:i≠j):ZZ o' i w' bb bl s cf inp d t E:=by
 have⟨h,k,g,n⟩:=e.al;have f:∀a,ib bl h a->a<w.heap.size:=λa b=>aeu k a b
 have l:zy w' (λa=>o' a≠0) h.cm cf.U:=n.keep (λa b r=>c.block a b λp=>r<|p▸c.nz) c.size λa b=>by
  by_cases q:a<w.heap.size
  .exact .inl (by rw[<-c.old a q];exact b)
  exact .inr<|by omega
 refine⟨e.row.cw<|c.block bb e.lt<|by rw[e.ow];exact m,by rw[c.old bb e.lt];exact e.ow,e.nz,h,QQ k (λa b=>c.block a (f a b)<|by rw[(g a b).1];exact m)<|l.keep (λ_ _ _=>rfl) ah λa b=> .inl<|by rw[c.old a<|f a b,(g a b).1];exact e.nz,λa b=>by rw[c.old a<|f a b];exact g a b,l⟩
def ZZ.ok(f:ZZ o i w bb bl s cf inp d t E)(q:XV o w){m:Ev}(l:∀a,ib bl m a->o a=i/\a≠bb)(p:zy w (λa=>o a≠0) m.cm cf.U)(a:Ok w bl cf m E' w'):∃o',ZZ o' i w' bb bl s cf inp d t E'/\XX o o' i w w':=by
 have⟨u,h,c⟩:=a;have r:=f.lt;have n:∀a,a<w.heap.size->o a≠i->w'.heap[a]?=w.heap[a]? :=λa b k=>c.block a b λe=>k (l a e).1
 refine⟨λa=>if w.heap.size<=a/\a<w'.heap.size then i else o a,⟨f.row.cw<|c.block bb r λe=>(l bb e).2 rfl,?_,f.nz,u,h,λa b=>?_,?_⟩,f.nz,c.os,c.tape,c.output,c.size,λa b=>N,λa b=>?_,n⟩
 .rw[N];exact f.ow
 .rcases c.rp a b with e|e
  .have:=aeu h a b;by_cases g:w.heap.size<=a
   .exact⟨G ⟨g,this⟩,by omega⟩
   rw[N];exact l a e
  exact⟨G ⟨e,aeu h a b⟩,by omega⟩
 .rw[c.cm];refine p.keep (λa b k=>n a b λe=>k<|e▸f.nz) c.size λa b=>?_
  by_cases g:w.heap.size<=a
  .exact .inr g
  rw[N]at b;exact .inl b
 by_cases g:a<w'.heap.size
 .exact .inr ⟨G ⟨b,g⟩,g⟩
 exact .inl (by rw[N];exact q a b)
def ZZ.up(a:ZZ o i w bb bl s cf inp d t E)(b:Below w.heap.size w w'):ZZ o i w' bb bl s cf inp d t E:=by
 have⟨k,c,h,e⟩:=a.al;exact⟨a.row.cw<|b.block bb a.lt,a.ow,a.nz,k,c.below b,h,e.keep (λg f _=>b.block g f) b.size λ_ a=> .inl a⟩
def ZZ.put{inp':ag}{d':Bool}{t':Nat}(b:ZZ o i w bb bl s cf inp d t E)(p:XV o w)(a:Nat)(e:a<9)(c:af)(q:(Ib bl s cf inp d t).set a c=Ib bl s cf inp' d' t'):ZZ o i (w.setCell (O bb a) c) bb bl s cf inp' d' t' E/\XX o o i w (w.setCell (O bb a) c):=by
 have f:bf bb w (w.setCell (O bb a) c):=(bf.refl _ _).setCell a c;have k:=b.row.put a e c;rw[q]at k;have⟨u,l,g,m⟩:=b.al;have h:=m.keep (w':=w.setCell (O bb a) c) (X':=λa=>o a≠0) (λa _ r=>f.block a λn=>r<|by rw[n,b.ow];exact b.nz) (yh f.size.symm) λ_ b=> .inl b
 exact⟨⟨k,b.ow,b.nz,u,QQ l (λa e=>f.block a (g a e).2)<|h.keep (λ_ _ _=>rfl) ah λa e=> .inl<|by rw[(g a e).1];exact b.nz,g,h⟩,p.bj b.nz f b.ow⟩
def ZZ.ly{c:Mf}(p:fj c){b:ag}(f:ZZ o i w bb bl s cf inp d t E)(k:XV o w)(n:gx cf)(l:a+b.size<=2000000)(q:Rest cf a E):Calls prog 29 #[.pointer<|some ⟨bl,0,none⟩,.string b] w λe w'=>e=.returned (.tuple #[])/\∃o',ZZ o' i w' bb bl s cf inp d t (E.ly c cf<|Qjj b)/\XX o o' i w w':=by
 have⟨u,g,r,h⟩:=f.al;go_call an1;rintro e w' ⟨rfl,m⟩;exact⟨rfl,f.ok k r h m⟩
def ZZ.fin{b:Mf}(n:fj b)(e:ZZ o i w bb bl s cf inp d t E)(h:XV o w)(m:gx cf)(k:a<=2000000)(p:Rest cf a E):Calls prog 32 #[.pointer<|some ⟨bl,0,none⟩] w λc w'=>c=.returned (.tuple #[])/\∃o',ZZ o' i w' bb bl s cf inp d t (E.rh b cf)/\XX o o' i w w':=by
 have⟨r,f,q,g⟩:=e.al;go_call anm;rintro c w' ⟨rfl,l⟩;exact⟨rfl,e.ok h q g l⟩
def ZZ.take(c:ZZ o i w bb bl s cf inp d t E)(h:XV o w)(k:a<=2000000)(e:Rest cf a E):Calls prog 31 #[.pointer<|some ⟨bl,0,none⟩,.int .i64 Z] w λb w'=>b=.returned (.string (E.take Z).2)/\∃o',ZZ o' i w' bb bl s cf inp d t (E.take Z).1/\XX o o' i w w':=by
 have⟨n,f,m,g⟩:=c.al;have:=Uz e.1 k;refine(av3 bl cf E n Z w f e.1.ca<|by omega).mono ?_;rintro b w' ⟨rfl,l⟩;exact⟨rfl,c.ok h m g l⟩
def ZZ.ud(f:ZZ o i w bb bl s cf inp d t E)(g:a<=2000000)(c:Rest cf a E):Calls prog 30 #[.pointer<|some ⟨bl,0,none⟩] w λb w'=>b=.returned (.int .i64 E.ud)/\Below w.heap.size w w':=by
 have⟨k,e,m,l⟩:=f.al;have:=Uz c.1 g;refine(atg bl cf E k w e c.1.ca<|by omega).mono ?_;rintro b w' ⟨rfl,h,rfl⟩;exact⟨rfl,Fy _ _ h⟩
def ZZ.ck(c:ZZ o i w bb bl s cf inp d t E):Calls prog 33 #[.pointer<|some ⟨bl,0,none⟩] w λa w'=>a=.returned (.int .i64 E.ck)/\Below w.heap.size w w':=by
 have⟨f,b,h,g⟩:=c.al;go_call au7;rintro a w' ⟨rfl,e,rfl⟩;exact⟨rfl,Fy _ _ e⟩
def ZZ.cs(b:ZZ o i w bb bl s cf inp d t E):XJ bb s cf inp d w:=
 have a:=b.row
 ⟨a.xc 1,a.xc 2,a.xc 3,a.xc 4,a.xc 5,a.xc 6,a.xc 7⟩
end
def ait{g:Mf}(p:fj g){o:Nat->Nat}{i bb bl:Nat}{s:ag}{cf:Cf}{inp:ag}{d:Bool}{t:Nat}{E:Ed}{w:ae}(b:ZZ o i w bb bl s cf inp d t E)(n:gx cf)(q:Dq s cf.U)(v:inp.size<=2000000)(r:(nh g cf d (fy cf)<|Qjj inp).ck=E.ck):
  Calls prog 11 #[.pointer<|some ⟨bb,0,none⟩] w λe w'=>e=.returned (.bool true)/\Below w.heap.size w w':=by
 have h:=hd b;have f:=b.ck;have a:=hd λ(u:ae)=>Xq p s inp d cf u n q v
 rw[r]at a;generalize ce (nh g cf d (fy cf)<|Qjj inp).out=x at a;generalize(E.ck:Int)=y at a f;have l:=b.row.xc 0;go_in;go_wp21;go_call f;rintro e z ⟨rfl,k⟩;have c:=hd<|ss k;have l:=(h.up c).cs;go_wp21;go_region_held_law (XJ bb s cf inp d) (first|exact l|exact k)
  (first
  |(go_at_call 39;(go_call a.out;rintro e A ⟨m,rfl⟩;have f:=hd<|c.trans<|m.mono c.size;have k:=(h.up f).cs;clear m)))
 go_wp21;go_ret;exact⟨by simp,f⟩
def ath{a:Mf}(v:fj a){o:Nat->Nat}{i bb bl:Nat}{s:ag}{cf:Cf}{inp:ag}{d:Bool}{t:Nat}{E:Ed}{w:ae}(b:ZZ o i w bb bl s cf inp d t E)(r:gx cf)(y:Dq s cf.U)(u:inp.size<=2000000)(x:Rest cf inp.size E)(c:(ce (nh a cf d (fy cf)<|Qjj inp).out).size=t+E.ud)(B:(ce (nh a cf d (fy cf)<|Qjj inp).out).size<=1099511000000):
  Calls prog 13 #[.pointer<|some ⟨bb,0,none⟩] w λk w'=>k=.returned (.bool true)/\Below w.heap.size w w':=by
 have e:=hd b;have g:=b.ud u x;have h:=hd λ(A:ae)=>Xq v s inp d cf A r y u
 generalize ce (nh a cf d (fy cf)<|Qjj inp).out=m at h c B;generalize((nh a cf d (fy cf)<|Qjj inp).ck:Int)=C at h;generalize E.ud=z at g c;have l:=hd c;have p:=b.row.xc 0;clear b c y r v x;go_in;go_wp21;go_call g;rintro k D ⟨rfl,n⟩;have f:=hd<|ss n;have p:=(e.up f).cs;go_wp21;go_region_held_law (XJ bb s cf inp d) (first|exact p|exact n)
  (first
  |(go_at_call 39;(go_call h.out;rintro k F ⟨q,rfl⟩;have g:=hd<|f.trans<|q.mono f.size;have n:=(e.up g).cs;clear q)))
 have p:=(e.up g).row.xc 8;have n:((z:Int)==m.size-(t:Int))=true:=by rw[ra];have:=l.out;omega
 have q:t<=m.size:=by have:=l.out;omega
 go_wp21;go_ret;exact⟨by simp[n],g⟩
def an3{n:Mf}(k:fj n){o:Nat->Nat}{i bb bl:Nat}{s:ag}{cf:Cf}{inp p:ag}{d:Bool}{t:Nat}{E:Ed}{w:ae}(b:ZZ o i w bb bl s cf inp d t E)(v:XV o w)(g:gx cf)(x:inp.size+p.size<=2000000)(l:Rest cf inp.size E):
  Calls prog 12 #[.pointer<|some ⟨bb,0,none⟩,.string p] w λf w'=>f=.returned (.tuple #[])/\∃o',ZZ o' i w' bb bl s cf (if d=true then inp else inp++p) d t (E.ly n cf<|Qjj p)/\XX o o' i w w':=by
 have r:=hd b;have m:=b.ly k v g x l;have u:=b.row.xc 0;go_in;go_wp21;go_call m;rintro f y ⟨rfl,q,e,h⟩;have a:=hd e;have c:=hd h;have h:=a.row.xc 6;have m:=a.row.xc 7;have u6:=a.row.frozen (k:=6) (by show 6<9;omega);cases d
 .have e:=hd (a.put (inp':=inp++p) (d':=false) (t':=t) c.og 6 (by omega) (.string<|inp++p) rfl);go_wp21;go_returns;exact⟨rfl,q,e.1,c.trans e.2⟩
 go_wp21;go_returns;exact⟨rfl,q,a,c⟩
def ann{n:Mf}(k:fj n){o:Nat->Nat}{i bb bl:Nat}{s:ag}{cf:Cf}{inp:ag}{d:Bool}{t K:Nat}{E:Ed}{w:ae}(a:ZZ o i w bb bl s cf inp d t E)(r:XV o w)(g:gx cf)(u:K<=2000000)(l:Rest cf K E):
  Calls prog 14 #[.pointer<|some ⟨bb,0,none⟩] w λf w'=>f=.returned (.tuple #[])/\∃o',ZZ o' i w' bb bl s cf inp true t (E.rh n cf)/\XX o o' i w w':=by
 have p:=hd a;have m:=a.fin k r g u l;have q:=a.row.xc 0;go_in;go_wp21;go_call m;rintro f x ⟨rfl,v,c,h⟩;have b:=hd c;have e:=hd h;have h:=b.row.xc 7;have u7:=b.row.frozen (k:=7) (by show 7<9;omega);have c:=hd (b.put (inp':=inp) (d':=true) (t':=t) e.og 7 (by omega) (.bool true) rfl);go_wp21;go_returns;exact⟨rfl,v,c.1,e.trans c.2⟩
end
def ZZ.new{m:Nat->Nat}{j h g i:ae}{l:Cf}{p:Ed}{f:Ev}(r:a≠0)(x:XV m j)(C:j.heap.size<=h.heap.size)(q:At h b l p f)(B:∀c,ib b f c->j.heap.size<=c)(v:zy h (λc=>ib b f c\/m c≠0) f.cm l.U)(n:Below h.heap.size h g)(A:bd i g.heap.size (Ib b s l ⟨#[]⟩ false 0))(z:Below g.heap.size g i)(E:i.heap.size=g.heap.size+1)(k:Below j.heap.size j i):∃u,ZZ u a i g.heap.size b s l ⟨#[]⟩ false 0 p/\XX m u a j i:=by
 classical
 have o:Below h.heap.size h i:=n.trans<|z.mono n.size;have D:=n.size;have t:∀c,ib b f c->c<h.heap.size:=λc d=>aeu q c d
 refine⟨λc=>if ib b f c\/c=g.heap.size then a else m c,⟨A,G<|.inr rfl,r,f,q.below o,λc d=>⟨G<|.inl d,by have:=t c d;omega⟩,?_⟩,r,k.os,k.tape,k.output,k.size,λc d=>N ?_,λc d=>?_,λc d _=>k.block c d⟩
 .refine v.keep (λc d _=>o.block c d) o.size λc d=>?_
  by_cases e:ib b f c
  .exact .inl<|.inl e
  by_cases w:c=g.heap.size
  .exact .inr<|by omega
  rw[N<|λy=>y.elim e w]at d;exact .inl<|.inr d
 .intro e
  rcases e with e|e
  .have:=B c e;omega
  omega
 by_cases e:ib b f c\/c=g.heap.size
 .refine .inr ⟨G e,?_⟩;rcases e with e|e
  .have:=t c e;omega
  omega
 exact .inl (by rw[N e];exact x c d)
def arx{a1:Nat->Nat}{i:Nat}(aA:i≠0)(e:ag)(b c d:Int)(g:Bool)(a:ae)(a6:e.size<=maxLen)(W:XV a1 a)(a7:kY (λj=>a1 j≠0) a):
  Calls prog 10 #[.string e,.agg #[.int .i64 b,.int .i64 c,.int .i64 d,.bool g]] a λh a2=>(zp e b c d=false/\h=.returned (.tuple #[.pointer none,.bool true])/\Below a.heap.size a a2)\/(zp e b c d=true/\∃R a5 u,h=.returned (.tuple #[.pointer<|some ⟨a5,0,none⟩,.bool true])/\ZZ R i a2 a5 u e (xj e b c d g) ⟨#[]⟩ false 0 (fy<|xj e b c d g)/\XX a1 R i a a2):=by
 have a8:=hd W;have p:=hd (qY e b c d g (a.alloc<|.cells #[I b,I c,I d,.bool g] 23) a6 (a7.below<|mj a _) (λj Z=>by simp only[World.size_alloc];exact Decidable.byContradiction λh=>Z<|W j<|by omega));have D:=hd λ(l:ae)=>aly e l a6
 have s:=hd λ(l:ae)=>aqn b c d g l
 have n:=hd<|ata e;clear a7 W;go_in;go_wp21;refine p.mono ?_;rintro h o ⟨k,M⟩;have f:∀j a3,(#[I b,I c,I d,.bool g]:Array af)[j]?=some a3->o.cell? (O a.heap.size j)=some a3:=λj a3 aB=>by
  rw[ac j<|k.block a.heap.size<|by simp];rw[yya _ a.heap.size j #[I b,I c,I d,.bool g] 23 (0,0)<|heap_alloc_last a _];exact aB
 have q:∀(l:ae),Below o.heap.size o l->l.cell? (O a.heap.size 0)=some (I b)/\l.cell? (O a.heap.size 1)=some (I c)/\l.cell? (O a.heap.size 2)=some (I d)/\l.cell? (O a.heap.size 3)=some (.bool g):=λl Q=>by
  have m:a.heap.size<o.heap.size:=by have:=k.size;simp at this;omega
  exact⟨(Q.cell (p:=O a.heap.size 0) m).trans<|f 0 _ rfl,(Q.cell (p:=O a.heap.size 1) m).trans<|f 1 _ rfl,(Q.cell (p:=O a.heap.size 2) m).trans<|f 2 _ rfl,(Q.cell (p:=O a.heap.size 3) m).trans<|f 3 _ rfl⟩
 have T:=hd q;have S:Y (Below a.heap.size a o):=(mj a _).trans (k.mono<|by simp);have V:=hd M;have a0:=S.size;clear k f q M;have t:=hd λ(v A:Int) (M:Fk e v A)=>(n.out.unique M).1
 clear n p;rcases V.out with⟨q,n,rfl⟩|⟨q,u,aD,rfl,w⟩
 .have E:=hd q;obtain⟨k,m⟩:∃k,(jb e).2.1=k:=⟨_,rfl⟩;obtain⟨C,f⟩:∃C,uo b c d=C:=⟨_,rfl⟩;rw[m]at t;rw[f]at s;have p:Ah e b c d=if k=0 then 5 else k:=by
   unfold Ah at n|-;rw[m,f]at n|-;split
   .rename_i h;rw[G h]at n;split at n
    .omega
    rename_i r;rw[N r]
   rfl
  have X:k=0->C=false:=λh=>by
   unfold Ah at n;rw[m,f,G h]at n;cases C
   .rfl
   simp at n
  obtain⟨a4,U⟩:∃a4,Y ((if k=0 then 5 else k)=a4):=⟨_,rfl⟩;rw[p,U.out];clear p n q V m f;go_wp21;go_call D.out;rintro h B ⟨v,A,rfl,y,f⟩;have z:=t v A y;subst z;have⟨F,H,K,L⟩:=T.out B f;have r:=hd<|S.trans<|f.mono a0;clear y f D t;go_wp21;go_call s.out;rintro h w3 ⟨rfl,f⟩;have p:=hd<|r.trans<|f.mono r.size;by_cases P:k=0
  .have a9:=X P;have x:=U.out;rw[G P]at x;subst a9 x P;go_wp21;go_ret2;exact .inl ⟨E,rfl,p⟩
  have a9:((k:Int)==0)=false:=hh;have x:=U.out;rw[N P]at x;subst x;have aC:((k:Int) !=0)=true:=bne_iff_ne.2 (by omega);go_wp21;go_ret2;exact .inl ⟨E,rfl,p⟩
 have C:=hd w;have E:=hd q;have m:(jb e).2.1=0/\uo b c d=true:=by
  unfold zp at q;simpa using q
 rw[m.1]at t;rw[m.2]at s;have k:1<=b/\1<=c/\1<=d:=by
  have:=m.2;unfold uo uf at this;simp at this;omega
 have x:=hd (show Ib u e (xj e b c d g) ⟨#[]⟩ false 0=[ab u 0,.string e,I b,I c,I d,.bool g,.string ⟨#[]⟩,.bool false,I 0] by
  unfold Ib xj;simp only;rw[yxx<|by omega,yxx<|by omega,yxx<|by omega];rfl)
 go_wp21;go_call D.out;rintro h B ⟨v,A,rfl,y,f⟩;have z:=t v A y;have z:(0:Int)=v:=z;subst z;have⟨F,H,K,L⟩:=T.out B f;have r:=hd f;go_wp21;go_call s.out;rintro h w3 ⟨rfl,f⟩;have p:=hd<|r.trans<|f.mono r.size;have⟨F,H,K,L⟩:=T.out w3 p;go_wp2_with (refine ti 46 rfl rfl 75 (.tmp 45) rfl [ab u 0,.string e,I b,I c,I d,.bool g,.string ⟨#[]⟩,.bool false,I 0] rfl ?_;intro w4 k r m;have y:=hd r;have f:=hd m;have P:=hd k;clear r m k);go_ret2;have k:=y.out;rw[<-x.out]at k;have w:=C.out;have⟨R,m,r⟩:=ZZ.new aA a8 a0 w.1 (λj Z=>bq (by simp)<|w.2.1 j Z) w.2.2 p k f P<|S.trans<|(p.trans<|f.mono p.size).mono a0;exact .inr ⟨E,R,_,u,rfl,m,r⟩
def av4{n:Mf}(R:fj n){z:Nat->Nat}{h:Cf}{m:Ed}(x:ZZ z a w b c s h t f d m)(a2:XV z w)(Q:gx h)(U:Dq s h.U)(F:t.size<=2000000)(T:Rest h t.size m)(g:ag)(a7:d<=(ce (nh n h f (fy h)<|Qjj t).out).size)
  (y:(ce (nh n h f (fy h)<|Qjj t).out).extract d (ce (nh n h f (fy h)<|Qjj t).out).size=g) (S:(ce (nh n h f (fy h)<|Qjj t).out).size<=1099511000000) (e:Int) (aB:-9223372036854775808<=e) (aC:e<=9223372036854775807) (M:(m.take e).2=g.extract 0 (min e.toNat g.size)):
  Calls prog 15 #[.pointer<|some ⟨b,0,none⟩,.int .i64 e] w λE W=>E=.returned (.bool true)/\∃V,ZZ V a W b c s h t f (d+(m.take e).2.size) (m.take e).1/\XX z V a w W:=by
 have o:=hd x;have j:=x.take e a2 F T;have u:=hd λ(a1:ae)=>Xq R s t f h a1 Q U F
 generalize ce (nh n h f (fy h)<|Qjj t).out=L at u y S a7;generalize((nh n h f (fy h)<|Qjj t).ck:Int)=a8 at u;have v:=hd M;have K:=hd y;have a3:g.size=L.size-d:=by rw[<-y,lw,Nat.min_self]
 have q:=x.row.xc 0;generalize(m.take e).1=a0 at j|-;generalize(m.take e).2=i at j v|-;go_in;go_wp21;go_call j;rintro E X ⟨rfl,p,k,l⟩;have A:=hd k;have B:=hd l;have C:=hd<|ss<|bp X.heap.size X;have k:=(A.up C).cs;go_wp21;go_region_held_law (XJ b s h t f) (first|exact k|exact j)
  (first
  |(go_at_call 39;(go_call u.out;rintro E Z ⟨l,rfl⟩;have r:=hd<|C.trans<|l.mono C.size;have j:=(A.up r).cs;clear l)))
 clear k j;have q:=hd<|A.up r;have D:=hd<|B.trans<|B.og.below B.nz r;have a9:=q.row.xc 8;have u8:=q.row.frozen (k:=8) (by show 8<9;omega);have aA:=K.out;have a4:i.size<=g.size:=by rw[v.out,lw];omega
 have k:Y (ZZ p a (Z.setCell (O b 8)<|I<|(d:Int)+i.size) b c s h t f (d+i.size) a0/\XX z p a w (Z.setCell (O b 8)<|I<|(d:Int)+i.size)):=by
  have:=q.put D.og 8 (by omega) (I ((d+i.size:Nat):Int)) (inp':=t) (d':=f) (t':=d+i.size) rfl;rw[show((d+i.size:Nat):Int)=d+(i.size:Int)by omega]at this;exact⟨this.1,D.trans this.2⟩
 have aD:(d:Int)<=L.size:=by omega
 have a5:(decide (e<0)=true/\decide (0<g.size)=true/\g.extract 0 0=i)\/(decide (e<0)=true/\decide (0<g.size)=false/\g=i)\/(decide (e<0)=false/\decide (e<(g.size:Int))=true/\g.extract 0 e.toNat=i)\/(decide (e<0)=false/\decide (e<(g.size:Int))=false/\g=i):=by
  have P:∀H,g.size<=H->g.extract 0 H=g:=λH a6=>by
   apply va;rw[yyg];exact Array.extract_eq_self_of_le a6
  have o:=v.out;by_cases l:e<0
  .rw[show min e.toNat g.size=0 by omega]at o;by_cases j:0<g.size
   .exact .inl ⟨decide_eq_true l,decide_eq_true j,o.symm⟩
   exact .inr<|.inl ⟨decide_eq_true l,wu j,by rw[o,P 0<|by omega]⟩
  by_cases j:e<(g.size:Int)
  .exact .inr<|.inr<|.inl ⟨wu l,decide_eq_true j,by rw[o,yi<|by omega]⟩
  exact .inr<|.inr<|.inr ⟨wu l,wu j,by rw[o,Nat.min_eq_right<|by omega,P _ ah]⟩
 have P:d+i.size<=1099511000000:=by omega
 have H:g.size<=1099511000000:=by omega
 clear v K q r u a3 a4 S F D;rcases a5 with⟨l,j,o⟩|⟨l,j,o⟩|⟨l,j,o⟩|⟨l,j,o⟩
 .have q:i.size=0:=by rw[<-o,lw];omega
  rw[show(d:Int)+i.size=(d:Int)by omega]at k;have r:=hd (show i.toList=[] from yyp (by rw[yyn];exact q));clear q;go_wp21;go_ret;exact⟨by simp[r.out],p,k.1,k.2⟩
 .subst o;go_wp21;go_ret;exact⟨by simp,p,k.1,k.2⟩
 .have q:e.toNat<=g.size:=by have:=zyb j;omega
  have r:((e.toNat:Nat):Int)=e:=by have:=of_decide_eq_false l;omega
  go_wp21;go_ret;exact⟨by simp,p,k.1,k.2⟩
 subst o;go_wp21;go_ret;exact⟨by simp,p,k.1,k.2⟩
section
structure XY(mf:Mf)(s:ag)(cf:Cf)(inp:ag)(d:Bool)(t:Nat)(E:Ed):Prop where
 ok:gx cf
 rd:Dq s cf.U
 rs:Rest cf inp.size E
 tw:∃p,p.length=t/\Sf p (nh mf cf d (fy cf)<|Qjj inp) E
section
variable {mf:Mf} {s:ag} {cf:Cf} {inp:ag} {d:Bool} {t:Nat} {E:Ed}
def kW(b:gx cf)(c:inp.size<=2000000)(d:Bool):Rest cf inp.size (nh mf cf d (fy cf)<|Qjj inp):=by
 have a:=acj (mf:=mf) b (Qjj inp) 0 (fy cf) (by rw[jn];omega)<|Ts b;rw[qo,jn]at a;unfold nh;split
 .exact ano b c a
 exact a
def XY.off(a:XY mf s cf inp true t E)(c:inp.size<=2000000):E.ru=false:=by
 have⟨e,_,b⟩:=a.tw;rw[b.eq];exact QP mf cf _
def XY.st(a:XY mf s cf inp d t E):(nh mf cf d (fy cf)<|Qjj inp).ck=E.ck:=by
 have⟨c,_,b⟩:=a.tw;rw[b.eq];rfl
def XY.ot(b:XY mf s cf inp d t E)(a:inp.size<=2000000):(ce (nh mf cf d (fy cf)<|Qjj inp).out).size<=1099511000000:=by
 rw[yx];exact Uz (kW b.ok a d).1 a
def XY.ry(a:XY mf s cf inp d t E):(ce (nh mf cf d (fy cf)<|Qjj inp).out).size=t+E.ud:=by
 obtain⟨c,rfl,b⟩:=a.tw;rw[yx,b.out,ga,List.length_drop];rfl
def XY.ly(a:XY mf s cf inp d t E){b:ag}(g:inp.size+b.size<=2000000):XY mf s cf (if d=true then inp else inp++b) d t (E.ly mf cf<|Qjj b):=by
 cases d
 .have⟨c,f,h⟩:=a.tw;have e:=acj (mf:=mf) a.ok (Qjj b) inp.size E (by rw[jn];exact g) a.rs;rw[jn,<-uh]at e;refine⟨a.ok,a.rd,e,c,f,?_⟩;have:=h.pu<|age mf cf<|Qjj b;show Sf c ((fy cf).ly mf cf<|Qjj<|inp++b) _
  rw[ZW,an2];exact this
 rw[Ot _ _<|a.off<|by omega];exact a
def XY.fin(a:XY mf s cf inp d t E)(b:inp.size<=2000000):XY mf s cf inp true t (E.rh mf cf):=by
 cases d
 .have⟨f,c,e⟩:=a.tw;exact⟨a.ok,a.rd,ano a.ok b a.rs,f,c,e.pu<|ass mf cf⟩
 have:=a.off b;unfold Ed.rh;rw[N<|by simp[this]];exact a
def XY.take(a:XY mf s cf inp d t E)(b:Int):XY mf s cf inp d (t+(E.take b).2.size) (E.take b).1:=by
 obtain⟨e,rfl,c⟩:=a.tw;exact⟨a.ok,a.rd,ZV a.rs b,_,by rw[ga,jn],c.take b⟩
def XY.left(a:XY mf s cf inp d t E)(b:Int):t<=(ce (nh mf cf d (fy cf)<|Qjj inp).out).size/\(ce (nh mf cf d (fy cf)<|Qjj inp).out).extract t (ce (nh mf cf d (fy cf)<|Qjj inp).out).size=ce (E.out.drop E.ca)/\(E.take b).2=(ce<|E.out.drop E.ca).extract 0 (min b.toNat (ce<|E.out.drop E.ca).size):=by
 refine⟨by rw[a.ry];omega,?_,?_⟩
 .obtain⟨e,rfl,c⟩:=a.tw;apply ZY;rw[c.out,yx];simp[Qjj,ce,yyg];exact Hh<|by simp
 rw[Yr];have:(ce<|E.out.drop E.ca).size=E.ud:=by rw[yx,List.length_drop];rfl
 rw[this];apply ZY;rw[ZP];split<;>simp[ahs,Ed.vr]
end
end
section
structure XP where
 bb:Nat
 bl:Nat
 s:ag
 cf:Cf
 inp:ag
 d:Bool
 t:Nat
 E:Ed
def XP.lv(r:XP)(mf:Mf)(o:Nat->Nat)(i:Nat)(w:ae)(K:Nat):Prop:=ZZ o i w r.bb r.bl r.s r.cf r.inp r.d r.t r.E/\XY mf r.s r.cf r.inp r.d r.t r.E/\r.inp.size<=K
def ZJ(rs:List XP):List af:=rs.map λr=> ab r.bb 0
structure ZQ(mf:Mf)(o:Nat->Nat)(w:ae)(lo wb:Nat)(ev lv gv:af)(K:Nat)(rs:List XP):Prop where
 og:XV o w
 hi:∀k,o k≠0->lo<=k
 row:bd w wb [ev,lv,gv]
 wo:o wb=1
 own:w.ownsRow lo 24 1 ev rs.length (ZJ rs)
 eo:∀k,ev.ownBlock=some k->o k=1/\k≠wb
 tb:kY (λk=>o k≠0) w
 ed:∀(i:Nat)(r:XP),rs[i]?=some r->r.lv mf o (i+2) w K
section
variable {mf:Mf} {o o':Nat->Nat} {w w':ae} {lo wb:Nat} {ev lv gv:af} {K K':Nat} {rs:List XP}
def ZQ.wl(a:ZQ mf o w lo wb ev lv gv K rs):wb<w.heap.size/\lo<=wb:=⟨a.row.lt<|by show 0<3;omega,a.hi wb<|by rw[a.wo];omega⟩
def ZQ.frame(c:ZQ mf o w lo wb ev lv gv K rs)(b:XX o o' a w w'):Below lo w w':=
 ⟨b.os,b.tape,b.output,b.size,λd f=>b.block d (by have:=c.wl;omega) λe=>by have:=c.hi d (by rw[e];exact b.nz);omega⟩
def XX.tw(c:XX o o' a w w')(g:kY (λb=>o b≠0) w):kY (λb=>o' b≠0) w':=
 Tw.keep g (λb d h=>c.block b d λe=>h<|.inr<|by show o b≠0;rw[e];exact c.nz) c.size λb d=>by
  by_cases f:b<w.heap.size
  .rcases d with e|e
   .have:=c.size;omega
   exact .inl<|.inr<|by show o b≠0;rw[<-c.old b f];exact e
  exact .inr<|by omega
def ZQ.base(b:ZQ mf o w lo wb ev lv gv K rs)(e:XX o o' a w w')(n:a≠1){f:List XP}(g:ZJ f=ZJ rs)(l:∀(i:Nat)(j:XP),f[i]?=some j->j.lv mf o' (i+2) w' K'):ZQ mf o' w' lo wb ev lv gv K' f:=by
 have h:=b.wl;have m:f.length=rs.length:=by
  have:=congrArg List.length g;simpa[ZJ]using this
 refine⟨e.og,λc d=>?_,b.row.cw<|e.block wb h.1<|by rw[b.wo];omega,by rw[e.old wb h.1];exact b.wo,?_,λc d=>?_,e.tw b.tb,l⟩
 .by_cases k:c<w.heap.size
  .rw[e.old c k]at d;exact b.hi c d
  omega
 .rw[g,m];exact da b.own λc d=>e.block c (b.own.lt c d).2 (by rw[(b.eo c d).1];omega)
 rw[e.old c (b.own.lt c d).2];exact b.eo c d
def ZQ.nw(f:ZQ mf o w lo wb ev lv gv K rs){j e:XP}(h:rs[a]?=some j)(i:XX o o' (a+2) w w')(r:K<=K')(n:e.lv mf o' (a+2) w' K')(m:e.bb=j.bb):ZQ mf o' w' lo wb ev lv gv K' (rs.set a e):=by
 have g:=(jy.1 h).1;refine f.base i (by omega) ?_ λd p c=>?_
 .unfold ZJ;rw[List.map_set];refine yyy λd=>?_
  by_cases b:a=d
  .subst b;rw[zv<|by simpa using g,zyc,h,m];rfl
  rw[xe b]
 by_cases b:a=d
 .subst b;rw[zv g]at c;cases c
  exact n
 rw[xe b]at c;have⟨k,l,q⟩:=f.ed d p c;exact⟨k.oth i<|by omega,l,by omega⟩
def ZQ.app(c:ZQ mf o w lo wb ev lv gv K rs){h:XP}(r:h.lv mf o (rs.length+2) w K){ev':af}(d:Gn w u ev ev')(k:u.ownsRow lo 24 1 ev' (rs.length+1) (ZJ rs++[ab h.bb 0])):
  bd u wb [ev,lv,gv]/\∃o',ZQ mf o' (u.setCell (O wb 0) ev') lo wb ev' lv gv K (rs++[h])/\Below lo w (u.setCell (O wb 0) ev'):=by
 have s:=c.wl;have m:bd u wb [ev,lv,gv]:=c.row.cw<|d.block wb s.1 λe=>(c.eo wb e).2 rfl;have f:bf wb u (u.setCell (O wb 0) ev'):=(bf.refl _ _).setCell _ _;have l:∀a,ev'.ownBlock=some a->a≠wb:=λa b=>by
  rcases d.H a b with e|e
  .exact(c.eo a e).2
  omega
 have j:XX o (λa=>if ev'.ownBlock=some a then 1 else o a) 1 w (u.setCell (O wb 0) ev'):=by
  refine⟨by omega,f.os.trans d.os,f.tape.trans d.tape,f.output.trans d.output,by rw[f.size];exact d.size,λa b=>?_,λa b=>?_,λa b g=>?_⟩
  .by_cases e:ev'.ownBlock=some a
   .rw[G e];rcases d.H a e with e|e
    .exact(c.eo a e).1.symm
    omega
   rw[N e]
  .by_cases e:ev'.ownBlock=some a
   .exact .inr ⟨G e,by rw[f.size];exact(k.lt a e).2⟩
   exact .inl (by rw[N e];exact c.og a b)
  exact(f.block a λe=>g<|by rw[e];exact c.wo).trans<|d.block a b λe=>g (c.eo a e).1
 have q:∀a,ev'.ownBlock=some a->(u.setCell (O wb 0) ev').heap[a]?=u.heap[a]? :=λa b=>f.block a<|l a b
 refine⟨m,_,⟨j.og,λa b=>?_,?_,?_,?_,λa b=>⟨G b,l a b⟩,j.tw c.tb,λi n g=>?_⟩,c.frame j⟩
 .by_cases e:ev'.ownBlock=some a
  .exact(k.lt a e).1
  rw[N e]at b;exact c.hi a b
 .exact m.put 0 (by show 0<3;omega) ev'
 .by_cases e:ev'.ownBlock=some wb
  .exact G e
  rw[N e];exact c.wo
 .have:ZJ (rs++[h])=ZJ rs++[ab h.bb 0]:=by simp[ZJ]
  rw[this,ga];exact da k q
 have:n.lv mf o (i+2) w K:=by
  by_cases e:i<rs.length
  .rw[oq e]at g;exact c.ed i n g
  rw[sn<|by omega]at g;have p:=(jy.1 g).1;obtain rfl:i=rs.length:=by simp at p;omega
  simp at g;rw[<-g];exact r
 exact⟨this.1.oth j<|by omega,this.2⟩
def ZQ.up(a:ZQ mf o w lo wb ev lv gv K rs)(b:Below w.heap.size w w'):ZQ mf o w' lo wb ev lv gv K rs:=
 ⟨λc d=>a.og c<|bq b.size d,a.hi,a.row.cw<|b.block wb a.wl.1,a.wo,da a.own λc d=>b.block c (a.own.lt c d).2,a.eo,a.tb.below b,λg h f=>have e:=a.ed g h f;⟨e.1.up b,e.2⟩⟩
def XZ(mf:Mf)(lo wb:Nat)(ev lv gv:af)(K n:Nat)(w w':ae):Prop:=∃o rs,ZQ mf o w' lo wb ev lv gv K rs/\rs.length=n/\Below lo w w'
def ZQ.lf(b:ZQ mf o w lo wb ev lv gv K rs)(e:Below lo u w){d r':XP}(i:rs[a]?=some d)(c:XX o o' (a+2) w w')(f:K<=K')(h:r'.lv mf o' (a+2) w' K')(g:r'.bb=d.bb):XZ mf lo wb ev lv gv K' rs.length u w':=
 ⟨o',_,b.nw i c f h g,tj,e.trans<|b.frame c⟩
def ZQ.more(a:ZQ mf o w lo wb ev lv gv K rs)(c:K<=K'):ZQ mf o w lo wb ev lv gv K' rs:=
 ⟨a.og,a.hi,a.row,a.wo,a.own,a.eo,a.tb,λe f d=>have b:=a.ed e f d;⟨b.1,b.2.1,bq b.2.2 c⟩⟩
def ZQ.lb(a:ZQ mf o w lo wb ev lv gv K rs)(c:Below lo u w)(d:K<=K')(b:Below w.heap.size w w'):XZ mf lo wb ev lv gv K' rs.length u w':=
 ⟨o,rs,(a.up b).more d,rfl,c.trans<|b.mono (by have:=a.wl;omega)⟩
end
def qK(a:Nat)(w:ae)(k:-9223372036854775808<=Z)(l:Z<=9223372036854775807)(m:0<a)(n:a<=2000000):
  Calls prog 98 #[.int .i64 Z,.int .i64 a] w λh w'=>∃b:Nat,b<a/\h=.returned (.int .i64 b)/\w'=w:=by
 have g:∀c:Int,0<=c->∃b:Nat,b<a/\Int.tmod c (a:Int)=b:=λc i=>⟨(c%a).toNat,by have:=Int.emod_lt_of_pos c (by omega:(0:Int)<a);have:=Int.emod_nonneg c (by omega:(a:Int)≠0);omega,by rw[Int.tmod_eq_emod_of_nonneg i];have:=Int.emod_nonneg c (by omega:(a:Int)≠0);omega⟩
 by_cases f:Z<0
 .have j:decide (Z<0)=true:=by simpa using f
  have⟨b,d,e⟩:=g (-(Z+1)) (by omega);go_in;go_wp21;go_ret;exact⟨b,d,by simp[e],rfl⟩
 have⟨b,d,e⟩:=g Z (by omega);go_in;go_wp21;go_ret;exact⟨b,d,by simp[e],rfl⟩
end
@[reducible] def qW (kd A B:Int) (s t:ag) (a b c:Int) (q:Bool):af:=.agg #[I kd,I A,I B,.string s,.string t,I a,I b,I c,.bool q]
def QY{Q:Mf}(a3:fj Q){a6:Nat->Nat}{k:List XP}(P:ZQ Q a6 w a b x y z c k)(i l m:Int)(g B:ag)(s t u:Int)(A:Bool)(T:2<=i)(aE:i<=6)(a1:-9223372036854775808<=l/\l<=9223372036854775807)(a2:-9223372036854775808<=m/\m<=9223372036854775807)(a4:0<k.length)(aA:k.length<=2000000)(aC:c+g.size<=2000000):
  Calls prog 62 #[.pointer<|some ⟨b,0,none⟩,qW i l m g B s t u A] w λv aB=>v=.returned (.bool true)/\XZ Q a b x y z (c+g.size) k.length w aB:=by
 have D:=hd a3;have V:=hd<|ss<|mj w<|.cells #[I i,I l,I m,.string g,.string B,I s,I t,I u,.bool A] 85;have f:=hd<|P.up V;have C:=hd (V.mono (by have:=P.wl;omega:a<=w.heap.size));have a5:=qK l k.length (w.alloc<|.cells #[I i,I l,I m,.string g,.string B,I s,I t,I u,.bool A] 85).drew a1.1 a1.2 a4 aA;have⟨H,W,a8,aD⟩:=P.own.form a4;have p:=f.row.xc 0;subst a8;obtain⟨o,e⟩:∃o:Nat->Nat,∀(d:Nat)(K:XP),k[d]?=some K->K.bb=o d:=⟨λd=>(k[d]?.map XP.bb).getD 0,λd K h=>by simp[h]⟩;have n:∀d,d<k.length->(w.alloc<|.cells #[I i,I l,I m,.string g,.string B,I s,I t,I u,.bool A] 85).drew.cell? (O H d)=some (ab (o d) 0):=λd T=>by
  rw[f.out.own.cellAt d<|by omega,<-e d k[d]<|dy T];unfold ZJ;rw[zyc,dy T];rfl
 have j:=hd e;unfold qW;go_in;go_wp21;have a0:(w.alloc<|.cells #[I i,I l,I m,.string g,.string B,I s,I t,I u,.bool A] 85).drew.cell? (O b 0)=some (aa H k.length W)/\(w.alloc<|.cells #[I i,I l,I m,.string g,.string B,I s,I t,I u,.bool A] 85).drew.cell? (O w.heap.size 1)=some (I l)/\∀d,d<k.length->(w.alloc<|.cells #[I i,I l,I m,.string g,.string B,I s,I t,I u,.bool A] 85).drew.cell? (O H d)=some (ab (o d) 0):=⟨p,by simp[go_sem],n⟩;go_region_held_law (λS=>S.cell? (O b 0)=some (aa H k.length W)/\S.cell? (O w.heap.size 1)=some (I l)/\∀d,d<k.length->S.cell? (O H d)=some (ab (o d) 0)) (exact a0)
  (first|(go_at_call 98;(go_call a5;rintro v L ⟨d,a9,rfl,rfl⟩)))
 obtain⟨⟨a7,M,s0,E,q,F,tk,U⟩,h⟩:∃K,k[d]?=some K:=⟨_,dy a9⟩;obtain rfl:a7=o d:=j d _ h;have R:=hd h;have⟨r,X,Z⟩:=f.out.ed d _ h;have n:=hd (show ZZ a6 (d+2) _ (o d) M s0 E q F tk U from r);have e:=hd (show XY Q s0 E q F tk U from X);have aF:q.size<=c:=Z;rcases(by omega:i=2\/i=3\/i=4\/i=5\/i=6)with rfl|rfl|rfl|rfl|rfl
 .have h:=an3 (p:=g) D n f.og e.ok (by omega) e.rs;go_wp21;go_call h;rintro v L ⟨rfl,a5,r,j⟩;have p:=hd (f.lf C (r':=⟨o d,M,s0,E,_,F,tk,_⟩) R j (Nat.le_add_right c g.size) ⟨r,e.ly<|by omega,by show(if F=true then q else q++g).size<=_;split;omega;rw[uh];omega⟩ rfl);go_wp21;go_ret;exact⟨rfl,p⟩
 .have h:=ann D n f.og e.ok (by omega) e.rs;go_wp21;go_call h;rintro v L ⟨rfl,a5,r,j⟩;have p:=hd (f.lf C (r':=⟨o d,M,s0,E,q,true,tk,_⟩) R j (Nat.le_add_right c g.size) ⟨r,e.fin<|by omega,by show q.size<=_;omega⟩ rfl);go_wp21;go_ret;exact⟨rfl,p⟩
 .have⟨X,Z,a0⟩:=e.out.left m;have h:=av4 D n f.og e.ok e.rd (by omega) e.rs _ X Z (e.ot<|by omega) m a2.1 a2.2 a0;go_wp21;go_call h;rintro v L ⟨rfl,a5,r,j⟩;have p:=hd (f.lf C (r':=⟨o d,M,s0,E,q,F,_,_⟩) R j (Nat.le_add_right c g.size) ⟨r,e.take m,by show q.size<=_;omega⟩ rfl);go_wp21;go_ret;exact⟨rfl,p⟩
 .have h:=ath D n e.ok e.rd (by omega) e.rs e.ry (e.ot<|by omega);go_wp21;go_call h;rintro v L ⟨rfl,j⟩;have p:=hd<|f.lb C (Nat.le_add_right c g.size) j;go_wp21;go_ret;exact⟨rfl,p⟩
 have h:=ait D n e.ok e.rd (by omega) e.st;go_wp21;go_call h;rintro v L ⟨rfl,j⟩;have p:=hd<|f.lb C (Nat.le_add_right c g.size) j;go_wp21;go_ret;exact⟨rfl,p⟩
def ar5(k:ae){b c d:Int}{q:Bool}(h:zp s b c d=true):gx (xj s b c d q)/\Dq s (xj s b c d q).U:=by
 have e:(jb s).2.1=0/\uo b c d=true:=by unfold zp at h;simpa using h
 refine⟨alu e.1 e.2,?_⟩;show Dq s (jb s).1
 have a:=e.1;unfold jb at a|-;split at a
 .cases a
 rename_i j;rw[N j];split at a
 .cases a
 rename_i f;rw[N f];split at a
 .cases a
 rename_i g;rw[N g];cases i:joinL (hq s).1.bh (hq s).1.U.length (hq s).1.bh 0 (hq s).1.U with
 |error m=>rw[i]at a;cases a
 |ok l=>exact atd k (by omega) (by simpa using f) (by simpa using g) i
def qZ:(prog.info? 24).map (λa=>(a.zero,a.size,a.bytes))=some (some<|.pointer none,1,8):=by kernel_rfl
def ZQ.KJ{l:Mf}{q k:Nat->Nat}{j:List XP}(m:ZQ l q w a b x y z c j){g h i:Int}(B:zp s g h i=true)(A:ZZ k (j.length+2) u d e s (xj s g h i f) ⟨#[]⟩ false 0 (fy<|xj s g h i f))(p:XX q k (j.length+2) w u):
  ZQ l k u a b x y z c j/\XP.lv ⟨d,e,s,xj s g h i f,⟨#[]⟩,false,0,fy<|xj s g h i f⟩ l k (j.length+2) u c:=by
 have⟨n,v⟩:=ar5 u (q:=f) B;refine⟨m.base p (by omega) rfl λC D o=>?_,A,⟨n,v,Ts n,[],rfl,WZ _⟩,ey _⟩;have⟨r,t⟩:=m.ed C D o;exact⟨r.oth p (by have:=(jy.1 o).1;omega),t⟩
def KK{C:Mf}(B:fj C){aG:Nat->Nat}{d:List XP}(j:ZQ C aG w a b x y z c d)(f p q:Int)(h M:ag)(r s t:Int)(E:Bool)(aA:f<=6)(a6:-9223372036854775808<=p/\p<=9223372036854775807)(a7:-9223372036854775808<=q/\q<=9223372036854775807)(aB:h.size<=maxLen)(aL:d.length<=1999999)(a8:c+h.size<=2000000):
  Calls prog 40 #[.pointer<|some ⟨b,0,none⟩,qW f p q h M r s t E] w λe aH=>e=.returned (.bool true)/\∃a4 D,XZ C a b a4 y z (c+h.size) D w aH/\D<=d.length+1/\d.length<=D/\(f=1->zp h r s t=true->D=d.length+1):=by
 have W:=hd B;have l:=hd<|mj w<|.cells #[I f,I p,I q,.string h,.string M,I r,I s,I t,.bool E] 85;have g:=hd<|j.up l;have i:=hd (l.mono (by have:=j.wl;omega:a<=w.heap.size));have aM:=j.wl;have⟨X,a1,K⟩:=yq j.own;have a2:=g.row.xc 0;by_cases A:f=1
 .subst A;clear K;have m:=hd (arx (i:=d.length+2) (by omega) h r s t E _ aB g.out.og g.out.tb);clear j B;unfold qW;go_in;go_wp21;refine m.out.mono ?_;rintro e k v;have H:=hd v;clear v m;rcases H.out with⟨o,rfl,u⟩|⟨o,U,Z,aI,rfl,u,L⟩
  .have m:=hd<|g.out.lb i.out (Nat.le_add_right c h.size) u;have P:=hd o;clear o u H g i l;go_wp21;go_ret;exact⟨rfl,_,_,m,by omega,by omega,λ_ e=>by rw[P.out]at e;cases e⟩
  have⟨aF,a9,aC,aD,aE⟩:=yyf qZ;have n:=hd<|g.KJ o u L;have V:=hd<|i.trans<|g.frame L;have a0:=n.1.row.xc 0;have a5:=n.1.row.frozen (k:=0) (by show 0<3;omega);have aK:a<=k.heap.size:=by have:=n.1.wl;omega
  go_wp2_with (at_builtin;(refine wpList_append_lies _ rfl _ _ 79 rfl a 24 aF (.pointer none) 1 8 underlying79 a9 aC aD aE rfl (by omega) x d.length (ZJ d) rfl (n.1.own.alloc _) (O k.heap.size 0) 1 1 [ab Z 0] rfl rfl (cell_one_new k _ _) (λaP v=>by simp at v;subst v;rfl) (by omega) (by unfold maxLen;omega) (by omega) (by simp;omega) (k.heap.size+1) (by simp) ?_;intro Q a3 aO T S R F;have F:=hd (n.1.app n.2 (ev':= aa Q (d.length+1) a3) (Gn.grown (mj k _) S<|by rcases R with e|e;exact .inl e.symm;exact .inr ⟨Q,rfl,by omega⟩) T);have aN:=F.1.xc 0;have aJ:=F.1.frozen (k:=0) (by show 0<3;omega);clear T S R a0 a5));go_ret;have⟨T,R,S⟩:=F.out.2;exact⟨rfl,_,d.length+1,⟨T,_,R.more<|Nat.le_add_right c h.size,by simp,V.trans S⟩,by omega,by omega,λ_ _=>rfl⟩
 by_cases F:2<=f/\0<d.length
 .have n:=QY W g f p q h M r s t E F.1 aA a6 a7 F.2 (by omega) a8;have H:((d.length:Int)==0)=false:=hh;have L:(f==1)=false:=by simp;omega
  have P:(f==7)=false:=by simp;omega
  have Q:(f==8)=false:=by simp;omega
  have R:decide (f<2)=false:=by simp;omega
  have T:decide (6<f)=false:=by simp;omega
  subst K;unfold qW at n|-;go_in;go_wp21;go_call n;rintro e k ⟨rfl,U,S,o,u,v⟩;have m:=hd (show XZ C a b (.slice X d.length a1) y z (c+h.size) d.length w k from⟨U,S,o,u,i.trans v⟩);go_wp21;go_ret;exact⟨rfl,_,_,m,by omega,by omega,λe=>cb e A⟩
 have m:=hd<|g.lb i (Nat.le_add_right c h.size)<|bp _ _;have L:(f==1)=false:=by simp;omega
 have P:(f==7)=false:=by simp;omega
 have Q:(f==8)=false:=by simp;omega
 subst K;unfold qW;by_cases n:d.length=0
 .have H:((d.length:Int)==0)=true:=by rw[n];rfl
  go_in;go_wp21;go_ret;exact⟨rfl,_,_,m,by omega,by omega,λe=>cb e A⟩
 have H:((d.length:Int)==0)=false:=hh;have R:decide (f<2)=true:=by simp;omega
 go_in;go_wp21;go_ret;exact⟨rfl,_,_,m,by omega,by omega,λe=>cb e A⟩
def qX(d:W.cell? (O i 1)=some (.slice none 0 0)):Calls prog 41 #[.pointer<|some ⟨i,0,none⟩] W λa b=>a=.returned (.bool true)/\b=W:=by
 go_in;go_wp21;go_loopw [3] (λc wr=>c=I 0/\wr=W) (λ_ _=>0)
 .exact⟨rfl,rfl⟩
 obtain⟨rfl,rfl⟩:=hrel;go_wp21;go_ret;exact⟨rfl,rfl⟩
structure XW where
 kd:Int
 A:Int
 B:Int
 s:ag
 t:ag
 a:Int
 b:Int
 c:Int
 q:Bool
def XW.cs(x:XW):List af:=[I x.kd,I x.A,I x.B,.string x.s,.string x.t,I x.a,I x.b,I x.c,.bool x.q]
def XW.ok(x:XW):Prop:=(-9223372036854775808<=x.A/\x.A<=9223372036854775807)/\(-9223372036854775808<=x.B/\x.B<=9223372036854775807)
def kJ(f:Nat->XW):Nat->Nat
 |0=>0
 |i+1=>kJ f i+(f i).s.size
def kV(b:Nat->XW):∀(n a:Nat),a<=n->kJ b a<=kJ b n
 |0,a,h=>by rw[Nat.le_zero.1 h];exact ah
 |n+1,a,h=>by
  by_cases c:a=n+1
  .rw[c];exact ah
  exact bq (kV b n a<|by omega)<|Nat.le_add_right _ _
structure kP(w:ae)(ao:Option Addr)(n:Nat)(f:Nat->XW):Prop where
 le:n<=1048576
 sm:kJ f n<=1048576
 ok:∀i,i<n->(f i).ok
 cell:0<n->∃gb g,ao=some ⟨gb,g,none⟩/\gb<w.heap.size/\∀i,i<n->∀(k:Nat)(v:af),(f i).cs[k]?=some v->w.cell? (O gb<|g+i*9+k)=some v
def XQ{mf:Mf}(i:yb w)(d:Obj)(h:bd (w.alloc d) w.heap.size [.slice none 0 0,.slice none 0 0,.slice none 0 0]):ZQ mf (λb=>if b=w.heap.size then 1 else 0) (w.alloc d) w.heap.size w.heap.size (.slice none 0 0) (.slice none 0 0) (.slice none 0 0) 0 []:=by
 have c:=mj w d;refine⟨λb a=>N<|by simp at a;omega,λb a=>?_,h,G rfl,yyc _ _ _ 1,(λb a=>by cases a),?_,(λj k g=>by simp at g)⟩
 .by_cases e:b=w.heap.size
  .omega
  exact cb (N e) a
 refine Tw.keep i (λb a _=>c.block b a) c.size λb a=> .inl ?_
 rcases a with e|e
 .exact bq c.size e
 by_cases f:b=w.heap.size
 .omega
 exact cb (N f) e
def qQ:zp ⟨#[36,33,78,59,80,59,68]⟩ 80 80 99=true:=by kernel_rfl
def KX{k:Mf}(H:fj k)(a0:Nat){e:Nat->XW}(z:kP w o a e)(L:yb w):
  Calls prog 16 #[.slice o a a0,.bool false] w λi u=>i=.returned (.bool true)/\Below w.heap.size w u:=by
 have E:=hd H;have v:=hd z;have aI:=z.le;have f:=hd<|XQ (mf:=k) L (.cells #[.slice none 0 0,.slice none 0 0,.slice none 0 0] 82)<|bd.new w [.slice none 0 0,.slice none 0 0,.slice none 0 0] 82;have j:Calls prog 40 #[.pointer<|some ⟨w.heap.size,0,none⟩,qW 1 0 0 ⟨#[36,33,78,59,80,59,68]⟩ ⟨#[]⟩ 80 80 99 false] _ λi u=>i=.returned (.bool true)/\∃d,XZ k w.heap.size w.heap.size d (.slice none 0 0) (.slice none 0 0) 7 1 _ u:=
  (KK E.out f.out 1 0 0 ⟨#[36,33,78,59,80,59,68]⟩ ⟨#[]⟩ 80 80 99 false (by omega) (by omega) (by omega) (by decide) (by simp)<|by decide).mono λi u ⟨m,d,s,q,_,_,r⟩=>⟨m,d,r rfl qQ▸q⟩
 unfold qW at j;have c:=hd<|mj w<|.cells #[.slice none 0 0,.slice none 0 0,.slice none 0 0] 82;clear z L H;go_in;go_wp21;refine j.mono ?_;rintro i aA ⟨rfl,d,C,p,h,b,g⟩;have l:Y (XZ k w.heap.size w.heap.size d (.slice none 0 0) (.slice none 0 0) (7+kJ e 0) 1 w aA):=⟨C,p,h,b,c.out.trans g⟩;have a1:=h.row.xc 0;obtain⟨aC,aD,n⟩:=yq h.own;rw[n,b]at a1;clear j h g n b f c;go_wp21;go_loopw [6,7] (λaB D wr=>aB=.bool true/\∃(b:Nat)(d:af)(s:Nat),b<=a/\s<=1+b/\D=.int .i64 b/\Y (XZ k w.heap.size w.heap.size d (.slice none 0 0) (.slice none 0 0) (7+kJ e b) s w wr)) (λ_ D _=>a+1-(intOf D).toNat)
 case atStart=>exact⟨rfl,0,d,1,by omega,by omega,rfl,l⟩
 obtain⟨rfl,b,d,s,aG,aH,rfl,l⟩:=hrel;by_cases A:b<a
 .obtain⟨y,x,rfl,a2,F⟩:=v.out.cell (by omega);obtain⟨C,p,h,rfl,g⟩:=l;have B:=v.out.ok b A;have a5:=bq (kV e a (b+1) A) v.out.sm;have K:kJ e (b+1)=kJ e b+(e b).s.size:=rfl;have f:∀(n:Nat)(t:af),(e b).cs[n]?=some t->wr.cell? (O y<|x+b*9+n)=some t:=λn t a6=>(g.cell (p:=(O y<|x+b*9+n)) a2).trans (F b A n t a6)
  generalize e b=c at B K f;have Q:wr.cell? (O y<|x+b*9)=some (I c.kd):=f 0 _ rfl;have R:=f 1 _ rfl;have S:=f 2 _ rfl;have T:=f 3 _ rfl;have U:=f 4 _ rfl;have V:=f 5 _ rfl;have W:=f 6 _ rfl;have X:=f 7 _ rfl;have Z:=f 8 _ rfl;clear f F;by_cases a3:c.kd<=6
  .have j:=KK E.out h c.kd c.A c.B c.s c.t c.a c.b c.c c.q a3 B.1 B.2 (by unfold maxLen;omega) (by omega) (by omega);unfold qW at j;have a8:decide (6<c.kd)=false:=by simp;omega
   clear h a5;go_wp2_with fail;refine j.mono ?_;rintro i P ⟨rfl,F,M,⟨a7,a9,m,q,r⟩,aE,aF,_⟩;have f:Y (XZ k w.heap.size w.heap.size F (.slice none 0 0) (.slice none 0 0) (7+kJ e (b+1)) M w P):=⟨a7,a9,by rw[K,<-Nat.add_assoc];exact m,q,g.trans r⟩;have a4:=qX w.heap.size P<|m.row.xc 1;clear j m q r Q R S T U V W X Z l;go_wp2_with fail;refine a4.mono ?_;rintro i w3 ⟨rfl,rfl⟩;go_wp2_with fail;go_roundw
   case rel=>exact⟨rfl,b+1,F,M,by omega,by omega,by go_num,f⟩
   simp[intOf];omega
  have a8:decide (6<c.kd)=true:=by simp;omega
  have f:Y (XZ k w.heap.size w.heap.size d (.slice none 0 0) (.slice none 0 0) (7+kJ e (b+1)) p.length w wr):=⟨C,p,h.more<|by omega,rfl,g⟩;clear h g;go_wp2_with fail;go_roundw
  case rel=>exact⟨rfl,b+1,d,p.length,by omega,by omega,by go_num,f⟩
  simp[intOf];omega
 have f:decide ((b:Int)<a)=false:=by simp;omega
 obtain⟨_,_,_,_,g⟩:=l;have c:=hd g;clear g;go_wp2_with fail;go_ret;exact⟨rfl,c.out⟩
def KV{k:Mf}(f:fj k)(b:Nat){j:Nat->XW}(d:kP w o a j)(h:yb w):
  Calls prog 4 #[.slice o a b] w λc l=>c=.returned (.bool true)/\Below w.heap.size w l:=by
 have g:=KX f b d h;go_in;go_wp21;go_call g;rintro c m ⟨rfl,e⟩;have i:=hd e;go_wp21;go_ret;exact⟨rfl,i⟩
