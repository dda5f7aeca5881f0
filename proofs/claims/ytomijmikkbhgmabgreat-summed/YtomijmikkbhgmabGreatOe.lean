import Derived.Test.YtomijmikkbhgmabGreatOg
namespace Go.Proofs.YtomijmikkbhgmabGreat
open Go.RowKit

end Go.Proofs.YtomijmikkbhgmabGreat
