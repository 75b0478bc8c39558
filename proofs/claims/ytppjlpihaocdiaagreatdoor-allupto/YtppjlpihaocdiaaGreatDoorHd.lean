import Derived.Below
import Derived.Handy
set_option linter.all false
namespace Go.Proofs.YtppjlpihaocdiaaGreatDoor
open Go.RowKit
def Y(p:Prop):Prop:=p
theorem Y.out{p:Prop}(h:Y p):p:=h
theorem J{p:Prop}(h:p):Y p:=h
abbrev ae:=World
abbrev af:=Value
abbrev ag:=ByteArray
theorem ah{n:Nat}:n<=n:=Nat.le_refl n
@[reducible,go_sem]def O(b o:Nat):Addr:=⟨b,o,none⟩
@[reducible,go_sem]def ab(b o:Nat):Value:=.pointer (some ⟨b,o,none⟩)
@[reducible,go_sem]def I(x:Int):Value:=.int .i64 x
@[reducible,go_sem]def aa(b n c:Nat):Value:=.slice (some ⟨b,0,none⟩) n c
theorem ac{w u:World}{b:Nat}(k:Nat)(h:u.heap[b]? =w.heap[b]?):u.cell? ⟨b,k,none⟩=w.cell? ⟨b,k,none⟩:=World.cell?_of_block (a:=⟨b,k,none⟩) h
theorem ad{w u:World}{b:Nat}(k:Nat)(h:u.heap[b]? =w.heap[b]?):u.frozen? ⟨b,k,none⟩=w.frozen? ⟨b,k,none⟩:=World.frozen?_of_block (a:=⟨b,k,none⟩) h
theorem Q{p:Prop}(h:p:=by omega):p:=h
theorem qB{p:Prop}(h:p:=by simp;omega):p:=h
theorem qC{p:Prop}(h:p:=by simp only;omega):p:=h
theorem qD{p:Prop}(h:p:=by simp):p:=h
theorem qE{p:Prop}(h:p:=by grind):p:=h
theorem qF{p:Prop}(h:p:=by kernel_rfl):p:=h
theorem qG{p:Prop}(h:p:=by decide):p:=h
theorem qH{p:Prop}(h:p:=by unfold maxLen;omega):p:=h
theorem qI{p:Prop}(h:p:=by go_simp):p:=h
theorem qJ{p:Prop}(h:p:=by go_num):p:=h
theorem qK{p q:Prop}(h:p)(k:p=q:=by simp):q:=k▸h
theorem N{c:Prop}[h:Decidable c]{α:Sort _}{a b:α}(k:¬c:=by omega):(if c then a else b)=b:=if_neg k
theorem G{c:Prop}[h:Decidable c]{α:Sort _}{a b:α}(k:c:=by omega):(if c then a else b)=a:=if_pos k
def ay:=@Nat.le_refl
def bp:=@Below.refl
def bq:=@Nat.le_trans
def bz:=@World.cell?_of_block
def cb:=@absurd
def dw:=@World.block_lt_of_cell?
def dy:=@List.getElem?_eq_getElem
def er:=@Below.heap_setCell
def ew:=@Nat.lt_of_lt_of_le
def ey:=@Nat.zero_le
def ga:=@List.length_append
def hb:=@Nat.lt_or_ge
theorem hh{α:Type _}[BEq α][LawfulBEq α]{a b:α}(k:a≠b:=by omega):(a==b)=false:=beq_false_of_ne k
def hz:=@World.frozen?_of_block
def im:=@Below.heap_alloc
def je:=@List.getElem?_eq_none
def jf:=@World.frozen?_setCell
def jm:=@World.cell?_setCell_other
def jy:=@List.getElem?_eq_some_iff
def lw:=@ByteArray.size_extract
def nt:=@List.append_assoc
def og:=@List.mem_append
def oq:=@List.getElem?_append_left
def qo:=@Nat.zero_add
def qx:=@List.length_singleton
def qy:=@List.mem_of_getElem?
def qz:=@World.cell?_setCell_same
def ra:=@beq_iff_eq
def sn:=@List.getElem?_append_right
def tj:=@List.length_set
def uh:=@ByteArray.size_append
def uz:=@Bool.or_eq_true
def va:=@ByteArray.ext
def vc:=@List.mem_cons
def vv:=@Bool.eq_iff_iff
def vw:=@List.map_cons
def wu:=@decide_eq_false
def xe:=@List.getElem?_set_ne
def xu:=@List.append_nil
def xv:=@List.length_cons
def xw:=@List.mem_cons_of_mem
def xx:=@Nat.sub_self
def xy:=@beq_eq_false_iff_ne
def xz:=@decide_eq_true_eq
def yh:=@Nat.le_of_eq
def yi:=@Nat.min_eq_left
def yz:=@List.getD_eq_getElem?_getD
def za:=@List.not_mem_nil
def zv:=@List.getElem?_set_self
def Aw:=@Bool.and_eq_true
def Ax:=@Bool.false_eq_true
def Cg:=@List.getElem?_take
def Dn:=@List.drop_eq_getElem_cons
def Ex:=@List.length_eq_zero_iff
def Ey:=@Option.bind_eq_some_iff
def Hh:=@List.take_of_length_le
def yya:=@Go.cell_of_row
def yyb:=@Go.heap_alloc_new
def yyc:=@Go.World.ownsRow_nil
def yyd:=@Go.bodyPost_ret
def yye:=@Go.run_string_add_sum
def yyf:=@Go.info_parts
def yyg:=@ByteArray.data_extract
def yyh:=@Nat.le_of_lt
def yyi:=@Nat.add_sub_cancel_left
def yyj:=@List.set_append_right
def yyk:=@Nat.le_succ
def yyl:=@List.set_cons_succ
def yym:=@List.drop_eq_nil_of_le
def yyn:=@Go.ByteArray.toList_eq
def yyo:=@Option.some.inj
def yyp:=@List.eq_nil_of_length_eq_zero
def yyq:=@Int.eq_ofNat_of_zero_le
def yyr:=@and_congr_right
def yys:=@List.map_append
def yyt:=@Go.run_convert_bytes_back
def yyu:=@List.take_succ_eq_append_getElem
def yyv:=@if_false
def yyw:=@Bool.or_eq_false_iff
def yyx:=@Nat.lt_trichotomy
def yyy:=@List.ext_getElem?
def yyz:=@List.map_congr_left
def yza:=@decide_eq_false_iff_not
def yzb:=@List.getElem?_cons_succ
def yzc:=@List.take_length
def yzd:=@Array.toList_inj
def yze:=@List.filter_append
def yzf:=@List.dropLast_concat_getLast
def yzg:=@List.mem_map
def yzh:=@List.take_append_drop
def yzi:=@Nat.or_lt_two_pow
def yzj:=@List.take_add_one
def yzk:=@List.getElem?_set
def yzl:=@Nat.pow_lt_pow_right
def yzm:=@Nat.mul_le_mul_right
def yzn:=@List.getElem_mem
def yzo:=@exists_congr
def yzp:=@Nat.add_zero
def yzq:=@Nat.add_comm
def yzr:=@Go.World.cell?_setCells_out
def yzs:=@Bool.or_false
def yzt:=@UInt8.toNat_inj
def yzu:=@Nat.eq_zero_or_pos
def yzv:=@List.filter_cons_of_pos
def yzw:=@Int.le_refl
def yzx:=@Go.run_string_add
def yzy:=@Nat.mul_le_mul
def yzz:=@Go.Sem.run_bind
def yxa:=@Nat.zero_testBit
def yxb:=@List.length_take
def yxc:=@List.getElem?_replicate_of_lt
def yxd:=@List.mem_append_left
def yxe:=@List.any_cons
def yxf:=@Go.run_callFunc_extern
def yxg:=@Option.toList_some
def yxh:=@List.mem_singleton
def yxi:=@List.mem_cons_self
def yxj:=@UInt8.toNat_lt
def yxk:=@List.foldl_append
def yxl:=@Int.toNat_natCast
def yxn:=@Nat.mod_eq_of_lt
def yxo:=@Nat.lt_succ_self
def yxp:=@List.any_eq_true
def yxq:=@Option.map_some
def yxr:=@List.length_map
def yxs:=@List.cons.injEq
def yxt:=@Go.run_make
def yxu:=@Go.step_scope
def yxv:=@List.getElem?_of_mem
def yxw:=@List.mem_range
def yxx:=@Int.toNat_of_nonneg
def yxy:=@Int.ofNat_sub
def yxz:=@decide_eq_true_iff
def zya:=@List.getElem?_drop
def zyb:=@of_decide_eq_true
def zyc:=@List.getElem?_map
def zyd:=@List.flatMap_cons
def zye:=@Decidable.not_not
def zyf:=@Bool.not_eq_true'
def zyg:=@Go.wpList_plain
def zyh:=@Nat.zero_mul
def zyi:=@Nat.sub_zero
def zyj:=@Nat.pow_succ
