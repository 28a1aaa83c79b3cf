"""Powers of whole numbers."""


def to_power(number, power):
    # 0 to the power of 0 is 1.
    product = 1
    for step in range(power):
        product = product * number
    return product
