/- Joined: RecMath, RecMath2, RecRefA, RecRefB, RecDevA, RecDevP. -/
import Derived.Test.YtmjnleohchmadaaJOct
import Derived.Test.YtmjnleohchmadaaJCrc
/- The plain mathematics of layer 3: a record, its bytes, what bytes tell. Nothing of the program. -/
namespace Go.Proofs.Ytmjnleohchmadaa.Rec
open Go.Proofs.Ytmjnleohchmadaa.Oct

structure Rc where
  off : Int
  key : ByteArray
  val : ByteArray
  dead : Bool
  stamp : Int

def inR (n : Int) : Bool := decide (0 ≤ n ∧ n ≤ 1099511627776)
def may (r : Rc) : Bool := decide ((0 ≤ r.off ∧ r.off ≤ 1099511627776) ∧ (0 ≤ r.stamp ∧ r.stamp ≤ 1099511627776) ∧ r.key.size ≤ 64 ∧ r.val.size ≤ 64 ∧ (r.dead = true → r.key.size ≠ 0 ∧ r.val.size = 0))
def nil : Rc := ⟨0, ByteArray.empty, ByteArray.empty, false, 0⟩
def tx (s : ByteArray) : List UInt8 := vb (zz s.size) ++ s.data.toList
def fl (d : Bool) : UInt8 := if d then 1 else 0
def rb (r : Rc) (base stamp : Int) : List UInt8 := vb (zz (r.off - base)) ++ vb (zz (r.stamp - stamp)) ++ [fl r.dead] ++ tx r.key ++ tx r.val
def pt (r : Rc) (base stamp : Int) : List UInt8 × Int := if may r && inR base && inR stamp then (rb r base stamp, 0) else ([], 1)
def bes (n d : Int) : Int := if d < -1099511627776 ∨ 1099511627776 < d ∨ inR (n + d) = false then -1 else n + d
def gr (l : List UInt8) (p base stamp : Int) : Rc × Int × Int :=
  if inR base && inR stamp && decide (0 ≤ p ∧ p ≤ l.length) then
    if (gv l p).2.2 ≠ 0 then (nil, 0, (gv l p).2.2)
    else if (gv l (gv l p).2.1).2.2 ≠ 0 then (nil, 0, (gv l (gv l p).2.1).2.2)
    else match l[(gv l (gv l p).2.1).2.1.toNat]? with
      | none => (nil, 0, 10)
      | some c =>
        if 1 < c.toNat then (nil, 0, 11)
        else if (gx l ((gv l (gv l p).2.1).2.1 + 1) 64).2.2 ≠ 0 then (nil, 0, (gx l ((gv l (gv l p).2.1).2.1 + 1) 64).2.2)
        else if (gx l (gx l ((gv l (gv l p).2.1).2.1 + 1) 64).2.1 64).2.2 ≠ 0 then (nil, 0, (gx l (gx l ((gv l (gv l p).2.1).2.1 + 1) 64).2.1 64).2.2)
        else if may ⟨bes base (gv l p).1, (gx l ((gv l (gv l p).2.1).2.1 + 1) 64).1, (gx l (gx l ((gv l (gv l p).2.1).2.1 + 1) 64).2.1 64).1, c == 1, bes stamp (gv l (gv l p).2.1).1⟩ then
          (⟨bes base (gv l p).1, (gx l ((gv l (gv l p).2.1).2.1 + 1) 64).1, (gx l (gx l ((gv l (gv l p).2.1).2.1 + 1) 64).2.1 64).1, c == 1, bes stamp (gv l (gv l p).2.1).1⟩, (gx l (gx l ((gv l (gv l p).2.1).2.1 + 1) 64).2.1 64).2.1, 0)
        else (nil, 0, 1)
  else (nil, 0, 1)

end Go.Proofs.Ytmjnleohchmadaa.Rec

/- More plain mathematics of layer 3: what is told was put; cut short it is none; moved alike; how long. Nothing of the program. -/
namespace Go.Proofs.Ytmjnleohchmadaa.Rec
open Go.Proofs.Ytmjnleohchmadaa.Oct

end Go.Proofs.Ytmjnleohchmadaa.Rec

/- The contracts of the document's own answers of layer 3: In, Check. -/
namespace Go.Proofs.Ytmjnleohchmadaa.Rec
open Go.RowKit Go.Proofs.Ytmjnleohchmadaa.Oct

end Go.Proofs.Ytmjnleohchmadaa.Rec

/- The contracts of the document's own answers of layer 3: Put. -/
namespace Go.Proofs.Ytmjnleohchmadaa.Rec
open Go.RowKit Go.Proofs.Ytmjnleohchmadaa.Oct Go.Proofs.Ytmjnleohchmadaa.Crc

def Box (w : World) (g : Nat) (r : Rc) : Prop :=
  w.cell? ⟨g, 0, none⟩ = some (.int .i64 r.off) ∧ w.cell? ⟨g, 1, none⟩ = some (.string r.key) ∧ w.cell? ⟨g, 2, none⟩ = some (.string r.val) ∧ w.cell? ⟨g, 3, none⟩ = some (.bool r.dead) ∧ w.cell? ⟨g, 4, none⟩ = some (.int .i64 r.stamp)
theorem Box.below {w w' : World} {g B : Nat} {r : Rc} (h : Box w g r) (hb : Below B w w') (hg : g < B) : Box w' g r := by
  obtain ⟨h0, h1, h2, h3, h4⟩ := h
  exact ⟨(hb.cell hg).trans h0, (hb.cell hg).trans h1, (hb.cell hg).trans h2, (hb.cell hg).trans h3, (hb.cell hg).trans h4⟩
end Go.Proofs.Ytmjnleohchmadaa.Rec

/- The contracts of the landed rec's Check, and of what it calls. -/
namespace Go.Proofs.Ytmjnleohchmadaa.Rec
open Go.RowKit Go.Proofs.Ytmjnleohchmadaa.Oct

def chk (r : Rc) : Int := if may r then 0 else 1
def tx64 (s : ByteArray) : Bool := decide ((s.size : Int) ≤ 64)
end Go.Proofs.Ytmjnleohchmadaa.Rec

/- The contracts of the landed rec's Put and Size. -/
namespace Go.Proofs.Ytmjnleohchmadaa.Rec
open Go.RowKit Go.Proofs.Ytmjnleohchmadaa.Oct Go.Proofs.Ytmjnleohchmadaa.Crc

end Go.Proofs.Ytmjnleohchmadaa.Rec
