/-
  The law FlightDoes of layer 15 answers true at every input, for package flight as it landed. No condition beyond the statement's own.
-/
import Derived.Test.YtbkeodjebfkkdaaFlightDoesRow
import Derived.Test.YtbkeodjebfkkdaaFlyC
namespace Go.Proofs.Ytbkeodjebfkkdaa
theorem flightDoes_holds : Rows.FlightDoesSaid := flightDoes.over FlyC.theFl
#print axioms flightDoes_holds
end Go.Proofs.Ytbkeodjebfkkdaa
