import Derived.Test.YtomijmikkbhgmabOg
namespace Go.Proofs.Ytomijmikkbhgmab
open Go.RowKit

end Go.Proofs.Ytomijmikkbhgmab
