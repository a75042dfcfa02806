import Derived.Test.YtmkdjonlfkfnlaaDoorRows
import Derived.WalkKit
import Derived.WalkSpells
import Derived.WalkLawsBesides
import Derived.Test.YtmkdjonlfkfnlaaDoorLib

/- guard.Must, guard.Run and its deferred closure: what each call does. -/
namespace Go.Proofs.YtmkdjonlfkfnlaaDoor
open Go.RowKit

/-- No entry of the chain is a Goexit: what is recovered ahead of it lets the call return. -/
def Calm (older : List PanicEntry) : Prop := older.dropWhile (!·.goexit) = []
theorem Calm.nil : Calm [] := rfl
theorem Calm.cons {v : Value} {r : Bool} {older : List PanicEntry} (h : Calm older) : Calm ({ v, recovered := r } :: older) := by
  unfold Calm at *; simpa [List.dropWhile] using h

/-- A panic of v, a value of type T. -/
def Thrown (T : TypeId) (v : Value) (e : Ending) : Prop := ∃ older, e = .panicked ({ v := .iface T v, recovered := false } :: older) ∧ Calm older

theorem func_neq_nil (fn : Fn) (a b : Array Value) (w : World) : (binOp .neq 1 (.func fn a b) .nilFunc).run Tryd.prog w = .ok (.bool true) w := by kernel_rfl
theorem nil_neq_nil (w : World) : (binOp .neq 1 .nilFunc .nilFunc).run Tryd.prog w = .ok (.bool false) w := by kernel_rfl

/-- Function k has a body of its own: a call of it comes into it. -/
def Enters (k : Nat) : Prop := ∀ (args : Array Value) (w : World), (callFunc k args).run Tryd.prog w = .ok (.enter k args) w

end Go.Proofs.YtmkdjonlfkfnlaaDoor
