/-
  The law FlightOne of layer 15 answers true at every input, for package flight as it landed. No condition beyond the statement's own.
-/
import Derived.Test.YtbkeodjebfkkdaaFlightOneRow
import Derived.Test.YtbkeodjebfkkdaaFlyC
namespace Go.Proofs.Ytbkeodjebfkkdaa
theorem flightOne_holds : Rows.FlightOneSaid := flightOne.over FlyC.theFl
#print axioms flightOne_holds
end Go.Proofs.Ytbkeodjebfkkdaa
