/- PROVED here: parts Za of the claim. No condition but those in each theorem's own head. -/
import Derived.Test.YteecfjhjllajlaaGreatDoorM39
import Derived.Test.YteecfjhjllajlaaGreatDoorM44
namespace Go.Proofs.YteecfjhjllajlaaGreatDoor
section
open Go Go.ChangeShapes Go.WideShapes Go.ChangeAt Go.RowKit
open Tr (VPost dpt)
theorem printExprs_any (s t:ByteArray)(sign:Int)(w:World)(hE:Tk.Errs w)(hT:Tb w)(hg:(Lit.int .i64 sign).wf=true):Calls Tryz.prog 8 #[.string s,.string t,.int .i64 sign] w (VPost (.bool true) w):=by
 obtain⟨hg1,hg2⟩:=bounds_i64 hg
 by_cases hl:600<s.size∨600<t.size
 ·exact pe_long s t sign w hE hT hl
 have hs:s.size≤600:=by omega
 have ht:t.size≤600:=by omega
 cases ha:ansOf exprR s.data.toList with
 |bad p e=>exact pe_bad s t sign w hE hT hs ht (Or.inl ⟨p,e,ha⟩)
 |good nda ka=>
  cases hb:ansOf exprR t.data.toList with
  |bad p e=>exact pe_bad s t sign w hE hT hs ht (Or.inr ⟨p,e,hb⟩)
  |good ndb kb=>
   by_cases hd:38<dpt (nda.map cvN) ((nda.length:Int)-1)∨38<dpt (ndb.map cvN) ((ndb.length:Int)-1)
   ·exact pe_deep s t sign w hE hT hs ht ha hb hd
   ·exact pe_good s t sign w hE hT hs ht hg1 hg2 ha hb (by omega) (by omega)
end
end Go.Proofs.YteecfjhjllajlaaGreatDoor
