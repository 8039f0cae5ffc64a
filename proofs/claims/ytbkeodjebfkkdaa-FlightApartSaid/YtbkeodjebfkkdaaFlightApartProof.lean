/-
  The law FlightApart of layer 15 answers true at every input, for package flight as it landed. No condition beyond the statement's own.
-/
import Derived.Test.YtbkeodjebfkkdaaFlightApartRow
import Derived.Test.YtbkeodjebfkkdaaFlyC
namespace Go.Proofs.Ytbkeodjebfkkdaa
theorem flightApart_holds : Rows.FlightApartSaid := flightApart.over FlyC.theFl
#print axioms flightApart_holds
end Go.Proofs.Ytbkeodjebfkkdaa
