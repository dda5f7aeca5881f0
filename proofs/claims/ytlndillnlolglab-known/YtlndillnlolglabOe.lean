import Derived.Test.YtlndillnlolglabT8
namespace Go.Proofs.Ytlndillnlolglab
open Go.RowKit

end Go.Proofs.Ytlndillnlolglab
