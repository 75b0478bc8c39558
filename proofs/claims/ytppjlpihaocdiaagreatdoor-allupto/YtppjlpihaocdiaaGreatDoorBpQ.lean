import Derived.Test.YtppjlpihaocdiaaGreatDoorRows
import Derived.Deep.DeepHandedRow
import Derived.Lib.SmallJoins
import Derived.LaidSub
import Derived.Stop.LaidErr
import Derived.Test.YtppjlpihaocdiaaGreatDoorBgQ
set_option linter.all false
set_option maxRecDepth 100000
set_option maxHeartbeats 16000000
namespace Go.Proofs.YtppjlpihaocdiaaGreatDoor
open Go.RowKit Go.Proofs.Tryz
open Go.ChangeShapes Go.WideShapes Go.ChangeAt Go.RowKit
open Go.ChangeMaps (open_string shut_string)
theorem ar7:ownKnob prog.godebug=none:=qF
theorem aqe:laidOutB prog=true:=qF
theorem als:prog.cellsOf 147=1:=qF
theorem alr:prog.cellsOf 311=20:=qF
theorem alq:prog.cellsOf 23=4:=qF
theorem aow:prog.globalNamed "internal/strconv.uint64pow10" =some 1:=qF
theorem aox:(prog.globals[1]?).map (·.type)=some 311:=qF
def listed:List (String×DataW Unit):= [("math/bits.deBruijn32tab",Rows.laid_math_bits_deBruijn32tab),("math/bits.deBruijn64tab",Rows.laid_math_bits_deBruijn64tab),("internal/strconv.uint64pow10",Rows.laid_internal_strconv_uint64pow10)]
theorem asa:(Rows.laid_internal_strconv_uint64pow10:DataW Unit)=Lib.tabData .u64 Lib.pow10Tab:=by rfl
theorem alo{w:ae}{a:Addr}{v:af}(h:w.cell? a=some v):a.block<w.heap.size:=by
 unfold World.cell? at h;by_cases hk:a.block<w.heap.size
 .exact hk
 have hn:w.heap[a.block]? =none:=Array.getElem?_eq_none Q;simp [hn] at h
theorem avz{W:ae}(h:laidMetH prog listed W):yb W:=by
 rw [MakeChecks.laidMetH_plain _ _ _ qF] at h;have h2:=(h.tail).tail;rw [asa] at h2;have ht:=Lib.tabIs_of_head (rest:= []) aow aox underlying311 underlying147 als alr h2;refine ⟨ht,fun g hg=> ?_⟩;have hc:=ht.cell hg 0 qG;have hl:=alo hc;exact ⟨hl,Nat.not_le.2 hl⟩
def arp:DataW Unit->Array af
 | .agg l=>(l.map fun d=>match d with| .lit (.int k z)=>Value.int k z|_=>Value.bool false).toArray
 |_=> #[]
def Vl(d:DataW Unit):Obj->Obj
 | .cells _ t frozen=> .cells (arp d) t frozen
 |o=>o
def Vk(w:ae):ae:=
 {w with heap:=((w.heap.modify 1 (Vl Rows.laid_internal_strconv_uint64pow10)).modify 2 (Vl Rows.laid_math_bits_deBruijn32tab)).modify 3 (Vl Rows.laid_math_bits_deBruijn64tab)}
theorem aqd(os:Os)(args:Array af):laidMet prog listed ((Vk (World.holding prog os ⟨#[], #[], []⟩)).forCall (fun _ _=>0) ⟨#[],args, []⟩).memory:=
 laidMet_of_run' 8 qF qF
theorem aa1{H:Type}{d:DataW H}:∀{l:List (DataW H)},d∈l->Rows.uptoBulk d<=Rows.uptoBulkAll l
 | [],h=>by cases h
 |x::r,h=>by
  simp only [Rows.uptoBulkAll];obtain rfl|e:=vc.1 h
  .omega
  have:=aa1 e;omega
theorem alk{H:Type}{l:List (DataW H)}(hk:Rows.uptoSmall H l=true):Rows.uptoBulkAll l<=1048576:=of_decide_eq_true hk
